import PyProof.Rows.All
import Wide.All
import OpenK.AllK
import Wide.FinOn
import Lean
import PyProof.EqAt
import PyProof.EqKinds
import PyProof.TupleCall
import PyProof.NeKinds
import PyProof.ZipIter
import KE.KIntText
import PySem.Challenge.RW_lentgate_k25_deeds_written_and_read
set_option Elab.async false
set_option linter.all false
set_option maxRecDepth 100000
set_option maxHeartbeats 0
section
namespace L2
open PySem PySem.Spec PyProof.Rows
abbrev Key := Sum Int Str
def keyIs : Key → Value → Bool
  | .inl k, v => Value.isInt k v
  | .inr x, v => Value.isStrOf x v
def keyH (w : World) : Key → Int
  | .inl k => hashInt k
  | .inr x => hashStr w x
theorem keyIs_shape : ∀ {k : Key} {v : Value}, keyIs k v = true → (∃ i t, k = Sum.inl i ∧ v = Value.int i t) ∨ (∃ x t, k = Sum.inr x ∧ v = Value.str x t)
  | .inl i, v, h => by
    obtain ⟨t, e⟩ := Value.isInt_shape (k := i) (v := v) h
    exact .inl ⟨i, t, rfl, e⟩
  | .inr x, v, h => by
    obtain ⟨t, e⟩ := Value.isStrOf_shape (x := x) (v := v) h
    exact .inr ⟨x, t, rfl, e⟩
theorem keyIs_int (i : Int) (t : Tok) : keyIs (.inl i) (.int i t) = true := by simp [keyIs, Value.isInt]
theorem keyIs_str (x : Str) (t : Tok) : keyIs (.inr x) (.str x t) = true := by simp [keyIs, Value.isStrOf]
theorem key_ll (a b : Int) : decide ((Sum.inl a : Key) = Sum.inl b) = (a == b) := by
  by_cases e : a = b
  · subst e; simp
  · have h : ¬ (Sum.inl a : Key) = Sum.inl b := fun q => e (Sum.inl.inj q)
    rw [decide_eq_false h]
    exact (beq_eq_false_iff_ne.mpr e).symm
theorem key_rr (a b : Str) : decide ((Sum.inr a : Key) = Sum.inr b) = decide (a = b) := by
  by_cases e : a = b
  · subst e; simp
  · have h : ¬ (Sum.inr a : Key) = Sum.inr b := fun q => e (Sum.inr.inj q)
    rw [decide_eq_false h, decide_eq_false e]
theorem key_lr (a : Int) (b : Str) : decide ((Sum.inl a : Key) = Sum.inr b) = false := decide_eq_false (fun q => nomatch q)
theorem key_rl (a : Str) (b : Int) : decide ((Sum.inr a : Key) = Sum.inl b) = false := decide_eq_false (fun q => nomatch q)
def mixKind (prog : Program) (w : World) : PySem.KeyKind prog w Key where
  is := keyIs
  hash := keyH w
  inj := fun v a b ha hb => by
    rcases keyIs_shape ha with ⟨i, t, rfl, rfl⟩ | ⟨x, t, rfl, rfl⟩
    · rcases keyIs_shape hb with ⟨j, u, rfl, e⟩ | ⟨y, u, rfl, e⟩
      · injection e with e1 _; rw [e1]
      · exact nomatch e
    · rcases keyIs_shape hb with ⟨j, u, rfl, e⟩ | ⟨y, u, rfl, e⟩
      · exact nomatch e
      · injection e with e1 _; rw [e1]
  byValue := fun k v h => by
    rcases keyIs_shape h with ⟨i, t, rfl, rfl⟩ | ⟨x, t, rfl, rfl⟩ <;> rfl
  pyHash := fun hv h => by
    rcases keyIs_shape hv with ⟨i, t, rfl, rfl⟩ | ⟨x, t, rfl, rfl⟩
    · exact wpAny_pyHash_int h
    · exact wpAny_pyHash_str h
  eqBool := fun hu hv h => by
    rcases keyIs_shape hu with ⟨i, t, rfl, rfl⟩ | ⟨x, t, rfl, rfl⟩
    · rcases keyIs_shape hv with ⟨j, u, rfl, rfl⟩ | ⟨y, u, rfl, rfl⟩
      · rw [key_ll] at h; exact wpAny_eqBool_int h
      · rw [key_lr] at h; exact SeqAt.EqAt.int_str i t y u _ _ _ _ h
    · rcases keyIs_shape hv with ⟨j, u, rfl, rfl⟩ | ⟨y, u, rfl, rfl⟩
      · rw [key_rl] at h; exact SeqAt.EqAt.str_int x t j u _ _ _ _ h
      · rw [key_rr] at h; exact wpAny_eqBool_str h
  «strs» := fun k x t v h => by
    rcases keyIs_shape h with ⟨i, u, rfl, e⟩ | ⟨y, u, rfl, e⟩
    · exact nomatch e
    · injection e with e1 _
      subst e1
      cases v <;> rfl
theorem mixKind_int (prog : Program) (w : World) (i : Int) (t : Tok) : (mixKind prog w).is (.inl i) (.int i t) = true := keyIs_int i t
theorem mixKind_str (prog : Program) (w : World) (x : Str) (t : Tok) : (mixKind prog w).is (.inr x) (.str x t) = true := keyIs_str x t
end L2
namespace L2
open PySem PySem.Spec PyProof.Rows
inductive V where
  | non | bl (b : Bool) | int (i : Int) | str (x : Str) | byt (b : Array UInt8) | flt (b : UInt64) | ref (a : Addr) | ty (n : String)
  deriving DecidableEq
def RelV : V → Value → Prop
  | .non, u => u = Value.none
  | .bl b, u => u = Value.bool b
  | .int i, u => ∃ t, u = Value.int i t
  | .str x, u => ∃ t, u = Value.str x t
  | .byt b, u => ∃ t, u = Value.bytes b t
  | .flt b, u => ∃ t, u = Value.float b t
  | .ref a, u => u = Value.ref a
  | .ty n, u => u = Value.type n
abbrev Vals : List V → List Value → Prop := Paired RelV
theorem Vals.length {xs : List V} {us : List Value} (r : Vals xs us) : xs.length = us.length := Paired.length r
theorem Vals.get : ∀ {xs : List V} {us : List Value} {i : Nat} {x : V}, Vals xs us → xs[i]? = some x → ∃ u, us[i]? = some u ∧ RelV x u
  | _, _, _, _, .nil, e => by simp at e
  | _, _, 0, _, .cons r _, e => by simp at e; subst e; exact ⟨_, rfl, r⟩
  | _, _, i + 1, x, .cons _ t, e => by
    obtain ⟨u, h1, h2⟩ := Vals.get (i := i) (x := x) t (by simpa using e)
    exact ⟨u, by simpa using h1, h2⟩
theorem Vals.set {x : V} {u : Value} (r : RelV x u) : ∀ {xs : List V} {us : List Value} (i : Nat), Vals xs us → Vals (xs.set i x) (us.set i u)
  | _, _, _, .nil => .nil
  | _, _, 0, .cons _ t => .cons r t
  | _, _, i + 1, .cons q t => .cons q (Vals.set r i t)
theorem Vals.append : ∀ {xs ys : List V} {us ws : List Value}, Vals xs us → Vals ys ws → Vals (xs ++ ys) (us ++ ws)
  | _, _, _, _, .nil, s => s
  | _, _, _, _, .cons r t, s => .cons r (Vals.append t s)
theorem Vals.take : ∀ {xs : List V} {us : List Value} (n : Nat), Vals xs us → Vals (xs.take n) (us.take n)
  | _, _, 0, _ => .nil
  | _, _, _ + 1, .nil => .nil
  | _, _, n + 1, .cons r t => .cons r (Vals.take n t)
theorem Vals.drop : ∀ {xs : List V} {us : List Value} (n : Nat), Vals xs us → Vals (xs.drop n) (us.drop n)
  | _, _, 0, r => r
  | _, _, _ + 1, .nil => .nil
  | _, _, n + 1, .cons _ t => Vals.drop n t
def RelO : Option V → Option Value → Prop
  | some v, some u => RelV v u
  | none, none => True
  | _, _ => False
def KV {κ : Type} : List (κ × V) → List (κ × Value) → Prop := Paired fun (p : κ × V) (q : κ × Value) => p.1 = q.1 ∧ RelV p.2 q.2
def kV : Key → V
  | .inl i => .int i
  | .inr x => .str x
inductive HO where
  /-- a list -/
  | lst (xs : List V)
  /-- a tuple (never changes) -/
  | tup (xs : List V)
  /-- a dict whose keys are ints and texts; one whose keys are tuples of ints and texts (the empty one is both) -/
  | dK (kvs : List (Key × V)) | dT (kvs : List (List Key × V))
  /-- a set of ints: its members, its size -/
  | set (S : Int → Bool) (n : Nat)
  /-- an instance of the class at C, its dict at dx, its attributes -/
  | ins (C dx : Addr) (fs : List (Str × V))
  /-- the dict of the instance at x -/
  | own (x : Addr)
  /-- the dict of an exception -/
  | xd (fs : List (Str × V))
  /-- a bound method, f of x -/
  | met (f x : Addr)
  /-- a range object lo, lo + 1, .. below hi -/
  | rng (lo hi : Int)
  /-- a thing that is known to the object (the script; a dict while a loop walks it): read, never written while it is so -/
  | frz (o : Obj) (u : HO)
  /-- a code object's table -/
  | tbl (ps : Array Value)
  /-- any other thing, by what is true of its one object (a def of one's own: SetO a S n := HO.ext fun h => ..) -/
  | ext (φ : Heap → Prop)
abbrev Hp := Addr → Option HO
def upd (H : Hp) (a : Addr) (o : HO) : Hp := fun b => if b = a then some o else H b
theorem upd_same {H : Hp} {a : Addr} {o : HO} : upd H a o a = some o := by unfold upd; rw [if_pos rfl]
theorem upd_ne {H : Hp} {a b : Addr} {o : HO} (h : b ≠ a) : upd H a o b = H b := by unfold upd; rw [if_neg h]
theorem upd_upd {H : Hp} {a : Addr} {o u : HO} : upd (upd H a o) a u = upd H a u := by
  funext b; unfold upd; split <;> rfl
theorem ne_of {H : Hp} {a b : Addr} {o u : HO} (h : H a = some o) (h' : H b = some u) (d : o ≠ u) : a ≠ b := by
  intro e; subst e; rw [h] at h'; exact d (Option.some.inj h')
theorem ne_of_none {H : Hp} {a b : Addr} {o : HO} (h : H a = some o) (h' : H b = none) : a ≠ b := by
  intro e; subst e; rw [h] at h'; cases h'
section
variable (P : Program) (w : World)
def ObjOk (H : Hp) (h : Heap) (a : Addr) : HO → Prop
  | .lst xs => xs.length ≤ sizeLine ∧ ∃ (its : List Value) (n : Nat), Vals xs its ∧ h.get? a = some { cls := .type "list", data := .seq its.toArray n }
  | .tup xs => xs.length ≤ sizeLine ∧ ∃ its : List Value, Vals xs its ∧ IsTup h a its.toArray
  | .dK kvs => kvs.length ≤ sizeLine ∧ (a == sysModules) = false ∧ ∃ vs, KV kvs vs ∧ h.DictOf (mixKind P w) a vs
  | .dT kvs => kvs.length ≤ sizeLine ∧ (a == sysModules) = false ∧ ∃ xs : List (List Key × Addr × Value),
      Paired (fun (p : List Key × V) (q : List Key × Addr × Value) => p.1 = q.1 ∧ H q.2.1 = some (.tup (p.1.map kV)) ∧ RelV p.2 q.2.2) kvs xs ∧
      ∃ o es ep, h.get? a = some o ∧ o.ExactDict ∧ o.data = .dict es ep ∧ es.toList = xs.map (entryOfKey (tupleKind (mixKind P w))) ∧ (xs.map (·.1)).Nodup
  | .set S n => h.SetOf (intKind P w) a S n
  | .ins C dx fs => H dx = some (.own a) ∧ fs.length ≤ 1000 ∧ dx ≠ a ∧ h.get? a = some (PySem.W.instObj C dx) ∧
      ∃ mA, h.Ns1 dx mA ∧ (∀ f, RelO (fs.lookup f) (mA f)) ∧ PySem.Within mA (fs.map (·.1))
  | .own _ => ∃ o, h.get? a = some o
  | .xd fs => ∃ mA, h.Ns1 a mA ∧ ∀ f, RelO (fs.lookup f) (mA f)
  | .rng lo hi => ∃ t u v, h.get? a = some { cls := .type "range", data := .fields #[.int lo t, .int hi u, .int 1 v] }
  | .frz o u => h.get? a = some o ∧ ObjOk H h a u
  | .tbl ps => h.get? a = some { cls := .none, data := .fields ps }
  | .met f x => h.get? a = some (PySem.W.methodObj (.ref f) (.ref x))
  | .ext φ => φ h ∧ (∃ o, h.get? a = some o) ∧ ∀ h1 h2 : Heap, φ h1 → (∀ o, h1.get? a = some o → h2.get? a = some o) → φ h2
def HOk (H : Hp) (h : Heap) : Prop := ∀ a o, H a = some o → ObjOk P w H h a o
end
section
variable {P : Program} {w : World} {H H' : Hp} {h h' : Heap} {a : Addr} {o : HO}
theorem ObjOk.lt (x : ObjOk P w H h a o) : a < h.objs.size := by
  cases o with
  | lst xs => obtain ⟨_, _, _, _, e⟩ := x; exact Heap.lt_size e
  | tup xs => obtain ⟨_, _, _, p⟩ := x; exact p.lt
  | dK kvs => obtain ⟨_, _, _, _, o, _, _, e, _⟩ := x; exact Heap.lt_size e
  | dT kvs => obtain ⟨_, _, _, _, o, _, _, e, _⟩ := x; exact Heap.lt_size e
  | set S n => obtain ⟨o, _, _, _, e, _⟩ := x; exact Heap.lt_size e
  | ins C dx fs => obtain ⟨_, _, _, e, _⟩ := x; exact Heap.lt_size e
  | own y => obtain ⟨_, e⟩ := x; exact Heap.lt_size e
  | xd fs => obtain ⟨_, ⟨_, _, _, e, _⟩, _⟩ := x; exact Heap.lt_size e
  | rng lo hi => obtain ⟨_, _, _, e⟩ := x; exact Heap.lt_size e
  | frz ob u => obtain ⟨e, _⟩ := x; exact Heap.lt_size e
  | tbl ps => exact Heap.lt_size (show h.get? a = some _ from x)
  | met f y => exact Heap.lt_size (show h.get? a = some _ from x)
  | ext φ => obtain ⟨_, ⟨_, e⟩, _⟩ := x; exact Heap.lt_size e
theorem Paired.mapP {α β : Type} {F G : α → β → Prop} : ∀ {l₁ : List α} {l₂ : List β}, Paired F l₁ l₂ → (∀ a b, F a b → G a b) → Paired G l₁ l₂
  | _, _, .nil, _ => .nil
  | _, _, .cons r t, f => .cons (f _ _ r) (Paired.mapP t f)
theorem ObjOk.stay (x : ObjOk P w H h a o) (k : ∀ b u, (b = a ∨ H b = some (.own a)) → h.get? b = some u → h'.get? b = some u)
    (ho : ∀ b, H b = some (.own a) → H' b = some (.own a)) (ht : ∀ b xs, H b = some (.tup xs) → H' b = some (.tup xs)) : ObjOk P w H' h' a o := by
  induction o with
  | lst xs => obtain ⟨z, its, n, r, e⟩ := x; exact ⟨z, its, n, r, k _ _ (.inl rfl) e⟩
  | tup xs => obtain ⟨z, its, r, ob, e, c⟩ := x; exact ⟨z, its, r, ob, k _ _ (.inl rfl) e, c⟩
  | dK kvs => obtain ⟨z, y, vs, r, ob, es, ep, e, c⟩ := x; exact ⟨z, y, vs, r, ob, es, ep, k _ _ (.inl rfl) e, c⟩
  | dT kvs =>
    obtain ⟨z, y, xs, r, ob, es, ep, e, c⟩ := x
    exact ⟨z, y, xs, Paired.mapP r fun p q z => ⟨z.1, ht _ _ z.2.1, z.2.2⟩, ob, es, ep, k _ _ (.inl rfl) e, c⟩
  | set S n => obtain ⟨ob, es, ep, t, e, c⟩ := x; exact ⟨ob, es, ep, t, k _ _ (.inl rfl) e, c⟩
  | ins C dx fs =>
    obtain ⟨d, z, ne, e, mA, ⟨od, es, ep, e2, c⟩, r⟩ := x
    exact ⟨ho _ d, z, ne, k _ _ (.inl rfl) e, mA, ⟨od, es, ep, k _ _ (.inr d) e2, c⟩, r⟩
  | own y => obtain ⟨ob, e⟩ := x; exact ⟨ob, k _ _ (.inl rfl) e⟩
  | xd fs => obtain ⟨mA, ⟨od, es, ep, e, c⟩, r⟩ := x; exact ⟨mA, ⟨od, es, ep, k _ _ (.inl rfl) e, c⟩, r⟩
  | rng lo hi => obtain ⟨t, u, v, e⟩ := x; exact ⟨t, u, v, k _ _ (.inl rfl) e⟩
  | frz ob u ih => obtain ⟨e, q⟩ := x; exact ⟨k _ _ (.inl rfl) e, ih q⟩
  | tbl ps =>
    have e : h.get? a = some { cls := .none, data := .fields ps } := x
    show h'.get? a = some { cls := .none, data := .fields ps }
    exact k a _ (.inl rfl) e
  | met f y =>
    have e : h.get? a = some (PySem.W.methodObj (.ref f) (.ref y)) := x
    show h'.get? a = some (PySem.W.methodObj (.ref f) (.ref y))
    exact k a _ (.inl rfl) e
  | ext φ => obtain ⟨p, ⟨o, e⟩, st⟩ := x; exact ⟨st _ _ p fun o q => k _ _ (.inl rfl) q, ⟨o, k _ _ (.inl rfl) e⟩, st⟩
theorem HOk.lt (x : HOk P w H h) (e : H a = some o) : a < h.objs.size := (x a o e).lt
theorem HOk.fresh (x : HOk P w H h) (e : h.objs.size ≤ a) : H a = none := by
  cases q : H a with
  | none => rfl
  | some u => exact absurd (Nat.lt_of_lt_of_le (x.lt q) e) (Nat.lt_irrefl _)
theorem HOk.kept (x : HOk P w H h) (k : ∀ b u, h.get? b = some u → h'.get? b = some u) : HOk P w H h' := fun a o e =>
  (x a o e).stay (fun b u _ q => k b u q) (fun _ q => q) fun _ _ q => q
theorem HOk.laid (x : HOk P w H h) (k : ∀ b u, h.get? b = some u → h'.get? b = some u) (hp : h.objs.size ≤ a) (new : ObjOk P w (upd H a o) h' a o) : HOk P w (upd H a o) h' := fun b u e => by
  have hn := x.fresh hp
  by_cases hb : b = a
  · subst hb; rw [upd_same] at e; cases e; exact new
  · rw [upd_ne hb] at e
    exact (x b u e).stay (fun c v _ q => k c v q) (fun c q => by rw [upd_ne (ne_of_none q hn)]; exact q) fun c xs q => by rw [upd_ne (ne_of_none q hn)]; exact q
end
def Rd (H : Hp) (a : Addr) (u : HO) : Prop := H a = some u ∨ ∃ o, H a = some (.frz o u)
theorem Rd.of {H : Hp} {a : Addr} {u : HO} (h : H a = some u) : Rd H a u := .inl h
theorem Rd.ok {P : Program} {w : World} {H : Hp} {h : Heap} {a : Addr} {u : HO} (r : Rd H a u) (x : HOk P w H h) : ObjOk P w H h a u := by
  rcases r with r | ⟨o, r⟩
  · exact x a u r
  · obtain ⟨_, q⟩ := x a _ r
    exact q
def Mut : Option HO → Prop
  | some (.lst _) => True
  | some (.dK _) => True
  | some (.dT _) => True
  | some (.set _ _) => True
  | some (.ins _ _ _) => True
  | some (.ext _) => True
  | _ => False
section
variable {P : Program} {w : World} {H : Hp} {h h' : Heap} {x e : Addr} {o' : HO}
theorem HOk.write (ok : HOk P w H h) (mu : Mut (H x)) (he : e = x ∨ H e = some (.own x)) (k : ∀ b u, b ≠ e → h.get? b = some u → h'.get? b = some u) (heo : ∃ u, h'.get? e = some u)
    (new : ObjOk P w (upd H x o') h' x o') : HOk P w (upd H x o') h' := fun b u q => by
  have nown : ∀ c y, H c = some (.own y) → c ≠ x := fun c y r z => by subst z; rw [r] at mu; exact mu
  have ntup : ∀ c xs, H c = some (.tup xs) → c ≠ x := fun c xs r z => by subst z; rw [r] at mu; exact mu
  by_cases hb : b = x
  · subst hb; rw [upd_same] at q; cases q; exact new
  · rw [upd_ne hb] at q
    by_cases hbe : b = e
    · have q' : H b = some (.own x) := by
        rcases he with z | z
        · exact absurd (hbe.trans z) hb
        · rw [hbe]; exact z
      rw [q] at q'; cases q'
      obtain ⟨v, hv⟩ := heo
      exact ⟨v, by rw [hbe]; exact hv⟩
    · refine (ok b u q).stay (fun c v hc r => k c v ?_ r) (fun c r => by rw [upd_ne (nown c b r)]; exact r) fun c xs r => by rw [upd_ne (ntup c xs r)]; exact r
      rcases hc with rfl | hc
      · exact hbe
      · rintro rfl
        rcases he with z | z
        · exact nown c b hc z
        · rw [hc] at z; cases z; exact hb rfl
end
structure Un (fs ex : List Addr) (H H' : Hp) (h h' : Heap) : Prop where
  keep : ∀ b o, h.get? b = some o → H b = none → b ∉ fs → b ∉ ex → h'.get? b = some o
  slot : ∀ b o, h.get? b = some o → H b = none → b ∈ fs → b ∉ ex → ∃ sl, h'.get? b = some { o with slots := sl }
  free : ∀ b o, h.get? b = some o → H b = none → b ∉ ex → H' b = none
  there : ∀ b o, h.get? b = some o → b ∉ ex → ∃ o', h'.get? b = some o'
  tups : ∀ b xs, H b = some (.tup xs) → H' b = some (.tup xs)
  frzs : ∀ b o u, H b = some (.frz o u) → H' b = some (.frz o u)
  tbls : ∀ b ps, H b = some (.tbl ps) → ∃ more, H' b = some (.tbl (ps ++ more))
section
variable {fs fs' ex ex' : List Addr} {H H1 H2 : Hp} {h h1 h2 h' : Heap} {a x e : Addr} {o : HO}
theorem Un.any (u : Un fs ex H H1 h h1) {b : Addr} {ob : Obj} (q : h.get? b = some ob) (n : H b = none) (hx : b ∉ ex) : ∃ sl, h1.get? b = some { ob with slots := sl } := by
  by_cases hb : b ∈ fs
  · exact u.slot b ob q n hb hx
  · exact ⟨ob.slots, u.keep b ob q n hb hx⟩
theorem Un.trans (a : Un fs ex H H1 h h1) (b : Un fs ex H1 H2 h1 h2) : Un fs ex H H2 h h2 where
  keep := fun c ob q n hc hx => b.keep c ob (a.keep c ob q n hc hx) (a.free c ob q n hx) hc hx
  slot := fun c ob q n hc hx => by
    obtain ⟨sl, e1⟩ := a.slot c ob q n hc hx
    obtain ⟨sl', e2⟩ := b.slot c _ e1 (a.free c ob q n hx) hc hx
    exact ⟨sl', e2⟩
  free := fun c ob q n hx => by
    obtain ⟨o', e1⟩ := a.there c ob q hx
    exact b.free c o' e1 (a.free c ob q n hx) hx
  there := fun c ob q hx => by
    obtain ⟨o', e1⟩ := a.there c ob q hx
    exact b.there c o' e1 hx
  tups := fun c xs q => b.tups c xs (a.tups c xs q)
  frzs := fun c ob xs q => b.frzs c ob xs (a.frzs c ob xs q)
  tbls := fun c ps q => by
    obtain ⟨m1, e1⟩ := a.tbls c ps q
    obtain ⟨m2, e2⟩ := b.tbls c _ e1
    exact ⟨m1 ++ m2, by rw [e2, Array.append_assoc]⟩
theorem Un.kept (k : ∀ b u, h.get? b = some u → h'.get? b = some u) : Un fs ex H H h h' :=
  ⟨fun b ob q _ _ _ => k b ob q, fun b ob q _ _ _ => ⟨ob.slots, k b ob q⟩, fun _ _ _ n _ => n, fun b ob q _ => ⟨ob, k b ob q⟩, fun _ _ q => q, fun _ _ _ q => q, fun _ ps q => ⟨#[], by rw [q]; simp⟩⟩
theorem Un.refl : Un fs ex H H h h := Un.kept fun _ _ q => q
theorem Un.laid (k : ∀ b u, h.get? b = some u → h'.get? b = some u) (hp : h.objs.size ≤ a) (hn : H a = none) : Un fs ex H (upd H a o) h h' where
  keep := fun b u q _ _ _ => k b u q
  slot := fun b u q _ _ _ => ⟨u.slots, k b u q⟩
  free := fun b u q n _ => by rw [upd_ne (Nat.ne_of_lt (Nat.lt_of_lt_of_le (Heap.lt_size q) hp))]; exact n
  there := fun b u q _ => ⟨u, k b u q⟩
  tups := fun b xs q => by rw [upd_ne (ne_of_none q hn)]; exact q
  frzs := fun b u xs q => by rw [upd_ne (ne_of_none q hn)]; exact q
  tbls := fun b ps q => ⟨#[], by rw [upd_ne (ne_of_none q hn), q]; simp⟩
theorem Un.write (mu : Mut (H x)) (he : e = x ∨ H e = some (.own x)) (k : ∀ b u, b ≠ e → h.get? b = some u → h'.get? b = some u) (heo : ∃ u, h'.get? e = some u) : Un fs ex H (upd H x o) h h' := by
  have hx : ∀ b, H b = none → b ≠ x := fun b n z => by subst z; rw [n] at mu; exact mu
  have hb : ∀ b, H b = none → b ≠ e := fun b n z => by
    subst z
    rcases he with r | r
    · exact hx b n r
    · rw [n] at r; cases r
  have hm : ∀ b u, H b = some u → ¬ Mut (some u) → b ≠ x := fun b u q nm z => by subst z; rw [q] at mu; exact nm mu
  refine ⟨fun b u q n _ _ => k b u (hb b n) q, fun b u q n _ _ => ⟨u.slots, k b u (hb b n) q⟩, fun b u q n _ => by rw [upd_ne (hx b n)]; exact n, fun b u q _ => ?_,
    fun b xs q => by rw [upd_ne (hm b _ q fun z => z)]; exact q, fun b u xs q => by rw [upd_ne (hm b _ q fun z => z)]; exact q, fun b ps q => ⟨#[], by rw [upd_ne (hm b _ q fun z => z), q]; simp⟩⟩
  by_cases hbe : b = e
  · subst hbe; exact heo
  · exact ⟨u, k b u hbe q⟩
theorem Un.mono (u : Un fs ex H H1 h h1) (hs : ∀ b ∈ fs, b ∈ fs') (hx : ∀ b ∈ ex, b ∈ ex') : Un fs' ex' H H1 h h1 :=
  ⟨fun b ob q n hb he => u.keep b ob q n (fun z => hb (hs b z)) fun z => he (hx b z), fun _ _ q n _ he => u.any q n fun z => he (hx _ z), fun b ob q n he => u.free b ob q n fun z => he (hx b z), fun b ob q he => u.there b ob q fun z => he (hx b z), u.tups, u.frzs, u.tbls⟩
end
def trk (h : Heap) (H : Hp) : List Addr := (List.range h.objs.size).filter fun a => (H a).isSome
def hidT (h : Heap) (H : Hp) : Heap := PySem.W.hideAll h (trk h H)
theorem hidT_size (h : Heap) (H : Hp) : (hidT h H).objs.size = h.objs.size := PySem.W.hideAll_size _ _
theorem hidT_get {h : Heap} {H : Hp} {b : Addr} {o : Obj} (e : h.get? b = some o) (n : H b = none) : (hidT h H).get? b = some o :=
  PySem.W.hideAll_get _ e fun hm => by
    have q : (H b).isSome = true := (List.mem_filter.mp hm).2
    rw [n] at q; simp at q
theorem of_hidT {h : Heap} {H : Hp} {b : Addr} {o : Obj} (e : (hidT h H).get? b = some o) : h.get? b = some o ∧ H b = none := by
  have e' : h.get? b = some o := PySem.W.of_hideAll (trk h H) e
  refine ⟨e', ?_⟩
  cases q : H b with
  | none => rfl
  | some x =>
    have hm : b ∈ trk h H := List.mem_filter.mpr ⟨List.mem_range.mpr (Heap.lt_size e'), by simp [q]⟩
    have z : (hidT h H).get? b = none := PySem.W.hideAll_none (trk h H) hm
    rw [z] at e; cases e
def allNews (g h : Heap) (L : Addr) : List (Addr × Obj) := (List.range h.objs.size).filterMap fun a => if a = L ∨ (g.get? a).isSome = true then none else (h.get? a).map fun o => (a, o)
def rest (g h : Heap) (L d : Addr) : List (Addr × Obj) := (allNews g h L).filter fun p => decide (p.1 ≠ d)
end L2
namespace L2
open PySem PySem.Spec PyProof.Rows
structure Mod (K : PySem.W.Frag) (mg : Str → Option Value) (base : Heap) : Prop where
  kin : K.In base
  glob : base.Ns mainGlobals mg
  blt : ∃ mb, base.Ns builtinsNs mb ∧ ∀ x : Str, x ≠ "__name__" → mb x = bootBuiltins x
  nolimit : base.NoLimit
structure Cx where
  prog : Program
  w : World
  K : PySem.W.Frag
  mg : Str → Option Value
  base : Heap
  A : Around
  N : List Str
  s₀ : Shared
  H₀ : Hp
  env : Env
  outer : List Env
  stack : List Env
  ex : List Addr
  fn : Str → Bool
  calm : Bool
  pn : List (Addr × Obj)
  xe : Value → Shared → Prop
def frs (l : List Env) : List Addr := l.filterMap (·.frame)
abbrev Cx.fs (X : Cx) : List Addr := frs X.outer
def Vis (sc : Scope) (x : Str) : Prop := sc.names.lookup x = some .local ∨ sc.names.lookup x = some .cell ∨ sc.names.lookup x = some .free
def Loc (sc : Scope) (x : Str) : Prop := sc.names.lookup x = some .local ∨ sc.names.lookup x = some .cell
def Look (env : Env) (h : Heap) (m : Str → Option Value) (x : Str) (u : Value) : Prop :=
  (env.kindOf x = some .local ∧ m x = some u) ∨ ((env.kindOf x = some .cell ∨ env.kindOf x = some .free) ∧ ∃ c, env.cells.lookup x = some c ∧ h.IsCell c (some u))
structure Cx.Ok (X : Cx) : Prop where
  mod : Mod X.K X.mg X.base
  kind : X.env.scope.kind = .function
  glob : X.env.globals = mainGlobals
  blt : X.env.builtins = builtinsNs
  above : X.s₀.heap.objs.size ≤ X.env.locals
  inj : ∀ x y c, X.env.cells.lookup x = some c → X.env.cells.lookup y = some c → x = y
  has : ∀ x, (X.env.kindOf x = some .cell ∨ X.env.kindOf x = some .free) → ∃ c, X.env.cells.lookup x = some c
  cab : ∀ x c, X.fn x = true → X.env.cells.lookup x = some c → X.s₀.heap.objs.size ≤ c
  hd : X.calm = true → X.A.handled = none
  frames : X.A.frames = some X.stack
  stk : X.stack = X.outer ∨ (X.stack = X.env :: X.outer ∧ X.env.frame = some X.env.locals)
  exf : ∀ b ∈ X.ex, b ≠ X.env.locals ∧ ∀ x c, X.env.cells.lookup x = some c → c ≠ b
  bs : ∀ b o, X.base.get? b = some o → X.s₀.heap.get? b = some o ∧ X.H₀ b = none
  bsz : X.base.objs.size ≤ X.s₀.heap.objs.size
  noex : ∀ b o, X.base.get? b = some o → b ∉ X.ex
  exfs : ∀ b ∈ X.ex, b ∉ X.fs
  funs : X.s₀.heap.FunFrames X.base X.outer
  frf : ∀ b ∈ X.fs, X.H₀ b = none
structure Inv (X : Cx) (pins : List (Addr × Obj)) (σ : List (Option V)) (H : Hp) (s : Shared) : Prop where
  ok : X.Ok
  os : s.os = X.s₀.os
  bare : AllBare s.gens
  base : Un X.fs X.ex X.H₀ H X.s₀.heap s.heap
  loc : ∃ m, s.heap.Ns X.env.locals m ∧ ∀ (i : Nat) (x : Str) (v : V), X.N[i]? = some x → σ[i]? = some (some v) → Vis X.env.scope x → ∃ u, RelV v u ∧ Look X.env s.heap m x u
  cell : ∀ x c, X.env.cells.lookup x = some c → ∃ v, s.heap.IsCell c v
  free : H X.env.locals = none
  freeC : ∀ x c, X.env.cells.lookup x = some c → H c = none
  pin : ∀ p ∈ X.pn ++ pins, s.heap.get? p.1 = some p.2 ∧ H p.1 = none ∧ p.1 ≠ X.env.locals ∧ p.1 ∉ X.fs ∧ ∀ v, p.2.data ≠ .cell v
  hok : HOk X.prog X.w H s.heap
  len : σ.length = X.N.length
section
variable {X : Cx} {pins : List (Addr × Obj)} {σ : List (Option V)} {H H' : Hp} {s : Shared} {h' : Heap}
theorem Cx.Ok.nofr (ok : X.Ok) {b : Addr} {o : Obj} (e : X.base.get? b = some o) : b ∉ X.fs := fun hb => by
  have := (ok.funs.mem hb).1
  rw [e] at this; cases this
theorem Inv.bs (I : Inv X pins σ H s) : ∀ b o, X.base.get? b = some o → s.heap.get? b = some o ∧ H b = none := fun b o e =>
  ⟨I.base.keep b o (I.ok.bs b o e).1 (I.ok.bs b o e).2 (I.ok.nofr e) (I.ok.noex b o e), I.base.free b o (I.ok.bs b o e).1 (I.ok.bs b o e).2 (I.ok.noex b o e)⟩
theorem Inv.bk (I : Inv X pins σ H s) : ∀ b o, X.base.get? b = some o → s.heap.get? b = some o := fun b o e => (I.bs b o e).1
theorem Inv.mod (I : Inv X pins σ H s) : Mod X.K X.mg X.base := I.ok.mod
theorem Inv.kIn (I : Inv X pins σ H s) : X.K.In s.heap := I.ok.mod.kin.keeps I.bk
theorem Inv.nolimit (I : Inv X pins σ H s) : s.heap.NoLimit := I.ok.mod.nolimit.keeps I.bk
theorem Inv.fr (I : Inv X pins σ H s) : ∃ m, Fr X.base X.env.locals s.heap m :=
  let ⟨m, hn, _⟩ := I.loc
  ⟨m, hn, I.bk, Nat.le_trans I.ok.bsz I.ok.above⟩
theorem Inv.lt (I : Inv X pins σ H s) : X.env.locals < s.heap.objs.size := let ⟨_, hn, _⟩ := I.loc; hn.lt
theorem Inv.sz (I : Inv X pins σ H s) : X.s₀.heap.objs.size ≤ s.heap.objs.size := Nat.le_trans I.ok.above (Nat.le_of_lt I.lt)
theorem Inv.nofs (I : Inv X pins σ H s) {a : Addr} (h : s.heap.objs.size ≤ a) : a ∉ X.fs := fun hb => by
  obtain ⟨_, o, ho, _⟩ := I.ok.funs.mem hb
  exact absurd (Nat.lt_of_lt_of_le (Heap.lt_size ho) (Nat.le_trans I.sz h)) (Nat.lt_irrefl _)
theorem Inv.cne (I : Inv X pins σ H s) : ∀ x c, X.env.cells.lookup x = some c → c ≠ X.env.locals := fun x c e z => by
  obtain ⟨v, o, ho, hd⟩ := I.cell x c e
  obtain ⟨m, ⟨o', es, ep, ho', hd', _⟩, _⟩ := I.loc
  rw [z, ho'] at ho; cases ho; rw [hd'] at hd; cases hd
theorem Inv.funs (I : Inv X pins σ H s) : s.heap.FunFrames X.base X.outer := by
  have all : ∀ (l : List Env), (∀ b ∈ frs l, b ∈ X.fs) → X.s₀.heap.FunFrames X.base l → s.heap.FunFrames X.base l := by
    intro l
    induction l with
    | nil => intro _ _; trivial
    | cons env r ih =>
      intro hs hl
      obtain ⟨hk, ⟨L, o, hf, hn, ho, hd⟩, hr⟩ := hl
      have hL : L ∈ X.fs := hs L (by unfold frs; rw [List.filterMap_cons, hf]; exact List.mem_cons_self)
      obtain ⟨sl, e⟩ := I.base.slot L o ho (I.ok.frf L hL) hL fun z => I.ok.exfs L z hL
      exact ⟨hk, ⟨L, _, hf, hn, e, hd⟩, ih (fun b hb => hs b (by unfold frs; rw [List.filterMap_cons, hf]; exact List.mem_cons_of_mem _ hb)) hr⟩
  exact all X.outer (fun _ hb => hb) I.ok.funs
theorem Inv.stack (I : Inv X pins σ H s) : s.heap.FunFrames X.base X.stack := by
  rcases I.ok.stk with e | ⟨e, hf⟩
  · rw [e]; exact I.funs
  · rw [e]
    obtain ⟨m, hn, _⟩ := I.loc
    refine .cons (by rw [I.ok.kind]; decide) hf hn ?_ I.funs
    exact Heap.get?_none_of_le (Nat.le_trans I.ok.bsz I.ok.above)
theorem Inv.stkSub (I : Inv X pins σ H s) : ∀ b ∈ frs X.stack, b ∈ X.env.locals :: X.fs := fun b hb => by
  rcases I.ok.stk with e | ⟨e, hf⟩
  · rw [e] at hb; exact List.mem_cons_of_mem _ hb
  · rw [e] at hb
    unfold frs at hb
    rw [List.filterMap_cons, hf] at hb
    exact hb
theorem Inv.stkFree (I : Inv X pins σ H s) : ∀ b ∈ frs X.stack, H b = none := fun b hb => by
  rcases List.mem_cons.mp (I.stkSub b hb) with e | hb
  · rw [e]; exact I.free
  · obtain ⟨_, o, ho, _⟩ := I.ok.funs.mem hb
    exact I.base.free b o ho (I.ok.frf b hb) fun z => I.ok.exfs b z hb
theorem Inv.step {g' : Array GenState} {t' : Nat} {d' : Drawn} {ch : List Addr} (I : Inv X pins σ H s)
    (hch : ∀ b ∈ ch, (b ∈ X.ex ∨ X.s₀.heap.objs.size ≤ b) ∧ b ≠ X.env.locals ∧ (∀ x c, X.env.cells.lookup x = some c → c ≠ b) ∧ ∀ p ∈ X.pn ++ pins, p.1 ≠ b)
    (keep : ∀ b o, b ≠ X.env.locals → b ∉ X.fs → b ∉ ch → s.heap.get? b = some o → H b = none → h'.get? b = some o)
    (slot : ∀ b o, b ≠ X.env.locals → b ∈ X.fs → b ∉ ch → s.heap.get? b = some o → H b = none → ∃ sl, h'.get? b = some { o with slots := sl }) (free : ∀ b o, b ∉ ch → s.heap.get? b = some o → H b = none → H' b = none)
    (there : ∀ b o, b ∉ ch → s.heap.get? b = some o → ∃ o', h'.get? b = some o')
    (tups : ∀ b xs, H b = some (.tup xs) → H' b = some (.tup xs)) (frzs : ∀ b o u, H b = some (.frz o u) → H' b = some (.frz o u)) (tbls : ∀ b ps, H b = some (.tbl ps) → ∃ more, H' b = some (.tbl (ps ++ more)))
    (ns : ∀ m, s.heap.Ns X.env.locals m → h'.Ns X.env.locals m) (hok : HOk X.prog X.w H' h') (hg : AllBare g') :
    Inv X pins σ H' { s with heap := h', gens := g', drawn := d', toks := t' } := by
  have neL : ∀ b o, X.s₀.heap.get? b = some o → b ≠ X.env.locals := fun b o e => Nat.ne_of_lt (Nat.lt_of_lt_of_le (Heap.lt_size e) I.ok.above)
  have neC : ∀ b o, X.s₀.heap.get? b = some o → b ∉ X.ex → b ∉ ch := fun b o e hx hb => by
    rcases (hch b hb).1 with z | z
    · exact hx z
    · exact absurd (Nat.lt_of_lt_of_le (Heap.lt_size e) z) (Nat.lt_irrefl _)
  have cellK : ∀ x c, X.env.cells.lookup x = some c → ∀ v, s.heap.IsCell c v → h'.IsCell c v := fun x c e v ⟨o, ho, hd⟩ => by
    have nch : c ∉ ch := fun z => (hch c z).2.2.1 x c e rfl
    by_cases hc : c ∈ X.fs
    · obtain ⟨sl, q⟩ := slot c o (I.cne x c e) hc nch ho (I.freeC x c e)
      exact ⟨_, q, hd⟩
    · exact ⟨o, keep c o (I.cne x c e) hc nch ho (I.freeC x c e), hd⟩
  refine ⟨I.ok, I.os, hg, ⟨fun b o e n hb hx => ?_, fun b o e n hb hx => ?_, fun b o e n hx => ?_, fun b o e hx => ?_, fun b xs e => tups b xs (I.base.tups b xs e), fun b o xs e => frzs b o xs (I.base.frzs b o xs e), fun b ps e => ?_⟩, ?_, fun x c e => ?_, ?_, fun x c e => ?_, fun p hp => ?_, hok, I.len⟩
  · exact keep b o (neL b o e) hb (neC b o e hx) (I.base.keep b o e n hb hx) (I.base.free b o e n hx)
  · obtain ⟨sl, e1⟩ := I.base.slot b o e n hb hx
    obtain ⟨sl', e2⟩ := slot b _ (neL b o e) hb (neC b o e hx) e1 (I.base.free b o e n hx)
    exact ⟨sl', e2⟩
  · obtain ⟨o', e1⟩ := I.base.there b o e hx
    exact free b o' (neC b o e hx) e1 (I.base.free b o e n hx)
  · obtain ⟨o', e1⟩ := I.base.there b o e hx
    exact there b o' (neC b o e hx) e1
  · obtain ⟨m1, e1⟩ := I.base.tbls b ps e
    obtain ⟨m2, e2⟩ := tbls b _ e1
    exact ⟨m1 ++ m2, by rw [e2, Array.append_assoc]⟩
  · obtain ⟨m, hn, hl⟩ := I.loc
    refine ⟨m, ns m hn, fun i x v e1 e2 e3 => ?_⟩
    obtain ⟨u, r, l⟩ := hl i x v e1 e2 e3
    refine ⟨u, r, ?_⟩
    rcases l with l | ⟨k, c, e, z⟩
    · exact .inl l
    · exact .inr ⟨k, c, e, cellK x c e _ z⟩
  · obtain ⟨v, z⟩ := I.cell x c e
    exact ⟨v, cellK x c e v z⟩
  · obtain ⟨m, ⟨o, _, _, ho, _⟩, _⟩ := I.loc
    exact free _ o (fun z => (hch _ z).2.1 rfl) ho I.free
  · obtain ⟨v, o, ho, hd⟩ := I.cell x c e
    exact free c o (fun z => (hch c z).2.2.1 x c e rfl) ho (I.freeC x c e)
  · obtain ⟨e, n, ne, nf, d⟩ := I.pin p hp
    have nch : p.1 ∉ ch := fun z => (hch p.1 z).2.2.2 p hp rfl
    exact ⟨keep p.1 p.2 ne nf nch e n, free p.1 p.2 nch e n, ne, nf, d⟩
theorem Inv.un {t' : Nat} (I : Inv X pins σ H s) (u : Un X.fs [] H H' s.heap h') (hok : HOk X.prog X.w H' h') : Inv X pins σ H' { s with heap := h', toks := t' } := by
  obtain ⟨m, ⟨o, es, ep, ho, r⟩, _⟩ := id I.loc
  obtain ⟨sl, hL⟩ := u.any ho I.free (by simp)
  exact I.step (g' := s.gens) (d' := s.drawn) (ch := []) (fun _ z => nomatch z) (fun b o _ hb _ e n => u.keep b o e n hb (by simp)) (fun b o _ hb _ e n => u.slot b o e n hb (by simp)) (fun b o _ e n => u.free b o e n (by simp)) (fun b o _ e => u.there b o e (by simp)) u.tups u.frzs u.tbls (fun m' hm => by
    obtain ⟨o', es', ep', ho', r'⟩ := hm
    rw [ho] at ho'; cases ho'
    exact ⟨_, es', ep', hL, r'⟩) hok I.bare
theorem Inv.call {g' : Array GenState} {t' : Nat} {d' : Drawn} {ch : List Addr} (I : Inv X pins σ H s) (u : Un (frs X.stack) ch H H' s.heap h') (hok : HOk X.prog X.w H' h') (hg : AllBare g')
    (hch : ∀ b ∈ ch, (b ∈ X.ex ∨ X.s₀.heap.objs.size ≤ b) ∧ b ≠ X.env.locals ∧ (∀ x c, X.env.cells.lookup x = some c → c ≠ b) ∧ ∀ p ∈ X.pn ++ pins, p.1 ≠ b) :
    Inv X pins σ H' { s with heap := h', gens := g', drawn := d', toks := t' } := by
  obtain ⟨m, ⟨o, es, ep, ho, r⟩, _⟩ := id I.loc
  obtain ⟨sl, hL⟩ := u.any ho I.free fun z => (hch _ z).2.1 rfl
  exact I.step (ch := ch) hch (fun b o hL hb hc e n => u.keep b o e n (fun z => (List.mem_cons.mp (I.stkSub b z)).elim hL hb) hc) (fun b o _ _ hc e n => u.any e n hc) (fun b o hc e n => u.free b o e n hc) (fun b o hc e => u.there b o e hc) u.tups u.frzs u.tbls (fun m' hm => by
    obtain ⟨o', es', ep', ho', r'⟩ := hm
    rw [ho] at ho'; cases ho'
    exact ⟨_, es', ep', hL, r'⟩) hok hg
theorem Inv.turned {t' : Nat} {it : Addr} (I : Inv X pins σ H s) (k : ∀ b o, b ≠ it → s.heap.get? b = some o → h'.get? b = some o) (hn : H it = none) (hL : it ≠ X.env.locals)
    (h1 : it ∈ X.ex ∨ X.s₀.heap.objs.size ≤ it) (h2 : ∀ x c, X.env.cells.lookup x = some c → c ≠ it) (h3 : ∀ p ∈ X.pn ++ pins, p.1 ≠ it) : Inv X pins σ H { s with heap := h', toks := t' } := by
  have nit : ∀ b u, H b = some u → b ≠ it := fun b u e z => by rw [z, hn] at e; cases e
  refine I.step (g' := s.gens) (d' := s.drawn) (ch := [it]) (fun b hb => ?_) (fun b o _ _ hc e _ => k b o (fun z => hc (by simp [z])) e) (fun b o _ _ hc e _ => ⟨o.slots, k b o (fun z => hc (by simp [z])) e⟩) (fun _ _ _ _ n => n)
    (fun b o hc e => ⟨o, k b o (fun z => hc (by simp [z])) e⟩) (fun _ _ e => e) (fun _ _ _ e => e) (fun b ps e => ⟨#[], by rw [e]; simp⟩) (fun m hm => ?_) (fun b u e => ?_) I.bare
  · have e : b = it := by simpa using hb
    subst e
    exact ⟨h1, hL, h2, h3⟩
  · obtain ⟨o, es, ep, ho, r⟩ := hm
    exact ⟨o, es, ep, k _ o (Ne.symm hL) ho, r⟩
  · refine (I.hok b u e).stay (fun c v hc q => k c v ?_ q) (fun _ q => q) fun _ _ q => q
    rcases hc with z | z
    · rw [z]; exact nit b u e
    · exact nit c _ z
theorem Inv.tok (I : Inv X pins σ H s) (t : Nat) : Inv X pins σ H { s with toks := t } := I.un (h' := s.heap) (t' := t) Un.refl I.hok
theorem Inv.kept {t' : Nat} (I : Inv X pins σ H s) (k : ∀ b u, s.heap.get? b = some u → h'.get? b = some u) : Inv X pins σ H { s with heap := h', toks := t' } := I.un (Un.kept k) (I.hok.kept k)
theorem Inv.laid {a : Addr} {o : HO} {t' : Nat} (I : Inv X pins σ H s) (k : ∀ b u, s.heap.get? b = some u → h'.get? b = some u) (hp : s.heap.objs.size ≤ a) (new : ObjOk X.prog X.w (upd H a o) h' a o) :
    Inv X pins σ (upd H a o) { s with heap := h', toks := t' } := I.un (Un.laid k hp (I.hok.fresh hp)) (I.hok.laid k hp new)
theorem Inv.write {x e : Addr} {o : HO} {t' : Nat} (I : Inv X pins σ H s) (mu : Mut (H x)) (he : e = x ∨ H e = some (.own x)) (k : ∀ b u, b ≠ e → s.heap.get? b = some u → h'.get? b = some u) (heo : ∃ u, h'.get? e = some u)
    (new : ObjOk X.prog X.w (upd H x o) h' x o) : Inv X pins σ (upd H x o) { s with heap := h', toks := t' } := I.un (Un.write mu he k heo) (I.hok.write mu he k heo new)
theorem Inv.pins_of {pins' : List (Addr × Obj)} (I : Inv X pins σ H s) (h : ∀ p ∈ pins', s.heap.get? p.1 = some p.2 ∧ H p.1 = none ∧ p.1 ≠ X.env.locals ∧ p.1 ∉ X.fs ∧ ∀ v, p.2.data ≠ .cell v) : Inv X pins' σ H s :=
  ⟨I.ok, I.os, I.bare, I.base, I.loc, I.cell, I.free, I.freeC, fun p hp => (List.mem_append.mp hp).elim (fun z => I.pin p (List.mem_append_left _ z)) (h p), I.hok, I.len⟩
theorem nodup_ix {N : List Str} (hN : N.Nodup) {i j : Nat} {x : Str} (a : N[i]? = some x) (b : N[j]? = some x) : i = j := by
  obtain ⟨h1, e1⟩ := List.getElem?_eq_some_iff.mp a
  obtain ⟨h2, e2⟩ := List.getElem?_eq_some_iff.mp b
  exact (List.getElem_inj hN).mp (e1.trans e2.symm)
theorem store_ok2 {M : Model} {A : Around} {E : Value → Shared → Prop} {i : Nat} {x : Str} {v : V} {u : Value} {Q : Unit → Shared → Prop} (I : Inv X pins σ H s) (hN : X.N.Nodup) (hi : X.N[i]? = some x) (hx : Loc X.env.scope x) (r : RelV v u)
    (h : ∀ s', Inv X pins (σ.set i (some v)) H s' → (∃ a, Heap.SameBut a s.heap s'.heap ∧ (a = X.env.locals ∨ X.env.cells.lookup x = some a)) → Q () s') (hf : X.fn x = true ∨ X.env.scope.names.lookup x = some .local := by first | exact .inl rfl | exact .inr rfl | assumption) : wpAny M A (storeName X.env x u) Q E s := by
  obtain ⟨m, hn, hl⟩ := id I.loc
  have hcls : (X.env.scope.kind == .class || (X.env.scope.kind == .module && X.env.locals != X.env.globals)) = false := by rw [I.ok.kind]; rfl
  have hiσ : i < σ.length := by rw [I.len]; exact (List.getElem?_eq_some_iff.mp hi).1
  have cne := I.cne
  have tracked : ∀ {a : Addr} {h' : Heap}, (∃ o, s.heap.get? a = some o ∧ H a = none) → Heap.SameBut a s.heap h' → HOk X.prog X.w H h' := fun {a h'} ha hs b ob e => by
    obtain ⟨_, _, hfree⟩ := ha
    refine (I.hok b ob e).stay (fun c w' hc q => (hs.2 c ?_).trans q) (fun _ q => q) fun _ _ q => q
    rintro rfl
    rcases hc with rfl | hc
    · rw [hfree] at e; cases e
    · rw [hfree] at hc; cases hc
  rcases hx with hk | hk
  · refine wpAny_storeName_local hk hn (fun h' hn' hs => ?_) hcls
    obtain ⟨oL, _, _, hoL, _⟩ := id hn
    refine h _ ⟨I.ok, I.os, I.bare, ⟨fun b o e n hb hx => ?_, fun b o e n hb hx => ?_, I.base.free, fun b o e hx => ?_, I.base.tups, I.base.frzs, I.base.tbls⟩, ⟨_, hn', fun j y v' e1 e2 e3 => ?_⟩, fun y c e => ?_, I.free, I.freeC, fun p hp => ?_, tracked ⟨oL, hoL, I.free⟩ hs, by simpa using I.len⟩ ⟨_, hs, .inl rfl⟩
    · exact (hs.2 b (Nat.ne_of_lt (Nat.lt_of_lt_of_le (Heap.lt_size e) I.ok.above))).trans (I.base.keep b o e n hb hx)
    · obtain ⟨sl, e1⟩ := I.base.slot b o e n hb hx
      exact ⟨sl, (hs.2 b (Nat.ne_of_lt (Nat.lt_of_lt_of_le (Heap.lt_size e) I.ok.above))).trans e1⟩
    · obtain ⟨o', e1⟩ := I.base.there b o e hx
      exact ⟨o', (hs.2 b (Nat.ne_of_lt (Nat.lt_of_lt_of_le (Heap.lt_size e) I.ok.above))).trans e1⟩
    · by_cases hj : j = i
      · subst hj
        rw [hi] at e1; cases e1
        rw [List.getElem?_set_self hiσ] at e2
        cases e2
        exact ⟨u, r, .inl ⟨hk, by simp⟩⟩
      · rw [List.getElem?_set_ne (Ne.symm hj)] at e2
        obtain ⟨u', r', q⟩ := hl j y v' e1 e2 e3
        refine ⟨u', r', ?_⟩
        rcases q with ⟨k, e⟩ | ⟨k, c, e, z⟩
        · refine .inl ⟨k, ?_⟩
          have : y ≠ x := fun e => hj (nodup_ix hN e1 (e ▸ hi))
          simp [this, e]
        · exact .inr ⟨k, c, e, z.sameBut hs (cne y c e)⟩
    · obtain ⟨w', z⟩ := I.cell y c e
      exact ⟨w', z.sameBut hs (cne y c e)⟩
    · obtain ⟨e, n, ne, nf, d⟩ := I.pin p hp
      exact ⟨(hs.2 p.1 ne).trans e, n, ne, nf, d⟩
  · have hfn : X.fn x = true := by
      rcases hf with z | z
      · exact z
      · rw [z] at hk; cases hk
    obtain ⟨c, hc⟩ := I.ok.has x (.inl hk)
    obtain ⟨w', z⟩ := I.cell x c hc
    refine wpAny_storeName_cell I.ok.kind hk hc z (fun h' hc' hs => ?_)
    obtain ⟨oc, hoc, hocd⟩ := id z
    refine h { s with heap := h' } ⟨I.ok, I.os, I.bare, ⟨fun b o e n hb hx => ?_, fun b o e n hb hx => ?_, I.base.free, fun b o e hx => ?_, I.base.tups, I.base.frzs, I.base.tbls⟩, ⟨m, hn.sameBut hs (Ne.symm (cne x c hc)), fun j y v' e1 e2 e3 => ?_⟩, fun y c' e => ?_, I.free, I.freeC, fun p hp => ?_, tracked ⟨oc, hoc, I.freeC x c hc⟩ hs, by simpa using I.len⟩ ⟨c, hs, .inr hc⟩
    · exact (hs.2 b (Nat.ne_of_lt (Nat.lt_of_lt_of_le (Heap.lt_size e) (I.ok.cab x c hfn hc)))).trans (I.base.keep b o e n hb hx)
    · obtain ⟨sl, e1⟩ := I.base.slot b o e n hb hx
      exact ⟨sl, (hs.2 b (Nat.ne_of_lt (Nat.lt_of_lt_of_le (Heap.lt_size e) (I.ok.cab x c hfn hc)))).trans e1⟩
    · obtain ⟨o', e1⟩ := I.base.there b o e hx
      exact ⟨o', (hs.2 b (Nat.ne_of_lt (Nat.lt_of_lt_of_le (Heap.lt_size e) (I.ok.cab x c hfn hc)))).trans e1⟩
    · by_cases hj : j = i
      · subst hj
        rw [hi] at e1; cases e1
        rw [List.getElem?_set_self hiσ] at e2
        cases e2
        exact ⟨u, r, .inr ⟨.inl hk, c, hc, hc'⟩⟩
      · rw [List.getElem?_set_ne (Ne.symm hj)] at e2
        obtain ⟨u', r', q⟩ := hl j y v' e1 e2 e3
        refine ⟨u', r', ?_⟩
        rcases q with q | ⟨k, c', e, z'⟩
        · exact .inl q
        · refine .inr ⟨k, c', e, z'.sameBut hs ?_⟩
          rintro rfl
          exact hj (nodup_ix hN e1 (I.ok.inj _ _ _ e hc ▸ hi))
    · by_cases hcc : c' = c
      · subst hcc; exact ⟨_, hc'⟩
      · obtain ⟨w2, z2⟩ := I.cell y c' e
        exact ⟨w2, z2.sameBut hs hcc⟩
    · obtain ⟨e, n, ne, nf, d⟩ := I.pin p hp
      refine ⟨(hs.2 p.1 ?_).trans e, n, ne, nf, d⟩
      intro q
      rw [q, hoc] at e
      have q' : oc = p.2 := Option.some.inj e
      exact d w' (by rw [← q']; exact hocd)
theorem store_ok {M : Model} {A : Around} {E : Value → Shared → Prop} {i : Nat} {x : Str} {v : V} {u : Value} {Q : Unit → Shared → Prop} (I : Inv X pins σ H s) (hN : X.N.Nodup) (hi : X.N[i]? = some x) (hx : Loc X.env.scope x) (r : RelV v u)
    (h : ∀ s', Inv X pins (σ.set i (some v)) H s' → Q () s') (hf : X.fn x = true ∨ X.env.scope.names.lookup x = some .local := by first | exact .inl rfl | exact .inr rfl | assumption) : wpAny M A (storeName X.env x u) Q E s :=
  store_ok2 I hN hi hx r (fun s' I' _ => h s' I') hf
theorem Inv.call' {s' : Shared} {ch : List Addr} (I : Inv X pins σ H s) (ho : s'.os = s.os) (u : Un (frs X.stack) ch H H' s.heap s'.heap) (hok : HOk X.prog X.w H' s'.heap) (hg : AllBare s'.gens)
    (hch : ∀ b ∈ ch, (b ∈ X.ex ∨ X.s₀.heap.objs.size ≤ b) ∧ b ≠ X.env.locals ∧ (∀ x c, X.env.cells.lookup x = some c → c ≠ b) ∧ ∀ p ∈ X.pn ++ pins, p.1 ≠ b) : Inv X pins σ H' s' := by
  obtain ⟨h', g', d', t', o'⟩ := s'
  have e : o' = s.os := ho
  subst e
  exact I.call (g' := g') (t' := t') (d' := d') u hok hg hch
end
abbrev XK := Value → Option Addr → Hp → Prop
abbrev St := List (Option V)
abbrev VK := V → Hp → Prop
abbrev TE := St → Hp → VK → Prop
abbrev TT := St → Hp → (Bool → Hp → Prop) → Prop
abbrev TA := St → Hp → (List V → Hp → Prop) → Prop
structure Ends where
  nx : St → Hp → Prop
  rt : VK
  bk : St → Hp → Prop := fun _ _ => False
  ct : St → Hp → Prop := fun _ _ => False
abbrev TS := Ends → St → Hp → Prop
def EP (X : Cx) (pins : List (Addr × Obj)) (σ : St) (Q : VK) (u : Value) (s' : Shared) : Prop := ∃ v H', Inv X pins σ H' s' ∧ RelV v u ∧ Q v H'
def TP (X : Cx) (pins : List (Addr × Obj)) (σ : St) (Q : Bool → Hp → Prop) (b : Bool) (s' : Shared) : Prop := ∃ H', Inv X pins σ H' s' ∧ Q b H'
def AP (X : Cx) (pins : List (Addr × Obj)) (σ : St) (Q : List V → Hp → Prop) (us : List Value) (s' : Shared) : Prop := ∃ vs H', Inv X pins σ H' s' ∧ Vals vs us ∧ Q vs H'
def SP (X : Cx) (pins : List (Addr × Obj)) (D : Ends) (f : Flow) (s' : Shared) : Prop :=
  match f with
  | .next => ∃ σ' H', Inv X pins σ' H' s' ∧ D.nx σ' H'
  | .brk => ∃ σ' H', Inv X pins σ' H' s' ∧ D.bk σ' H'
  | .cont => ∃ σ' H', Inv X pins σ' H' s' ∧ D.ct σ' H'
  | .ret u => ∃ v σ' H', Inv X pins σ' H' s' ∧ RelV v u ∧ D.rt v H'
def PE (X : Cx) (e : Expr) (t : TE) : Prop :=
  ∀ (pins : List (Addr × Obj)) (s : Shared) (σ : St) (H : Hp) (Q : VK), Inv X pins σ H s → t σ H Q → wpAny (model X.prog X.w) X.A (eval e X.env) (EP X pins σ Q) X.xe s
def PT (X : Cx) (e : Expr) (t : TT) : Prop :=
  ∀ (pins : List (Addr × Obj)) (s : Shared) (σ : St) (H : Hp) (Q : Bool → Hp → Prop), Inv X pins σ H s → t σ H Q → wpAny (model X.prog X.w) X.A (isTrue e X.env (eval e X.env)) (TP X pins σ Q) X.xe s
def PW (X : Cx) (e : Expr) (t : TT) : Prop :=
  ∀ (whole : Sem Value) (pins : List (Addr × Obj)) (s : Shared) (σ : St) (H : Hp) (Q : Bool → Hp → Prop), Inv X pins σ H s → t σ H Q → wpAny (model X.prog X.w) X.A (isTrue e X.env whole) (TP X pins σ Q) X.xe s
theorem PW.pt {X : Cx} {e : Expr} {t : TT} (h : PW X e t) : PT X e t := h _
def PA (X : Cx) (es : List Expr) (t : TA) : Prop :=
  ∀ (pos : Pos) (pins : List (Addr × Obj)) (s : Shared) (σ : St) (H : Hp) (Q : List V → Hp → Prop), Inv X pins σ H s → t σ H Q → wpAny (model X.prog X.w) X.A (spliced (backTo pos (starEach es X.env))) (AP X pins σ Q) X.xe s
def PS (X : Cx) (st : Stmt) (t : TS) : Prop :=
  ∀ (pins : List (Addr × Obj)) (s : Shared) (σ : St) (H : Hp) (D : Ends), Inv X pins σ H s → t D σ H → wpAny (model X.prog X.w) X.A (exec st X.env) (SP X pins D) X.xe s
def PSs (X : Cx) (st : List Stmt) (t : TS) : Prop :=
  ∀ (pins : List (Addr × Obj)) (s : Shared) (σ : St) (H : Hp) (D : Ends), Inv X pins σ H s → t D σ H → wpAny (model X.prog X.w) X.A (execs st X.env) (SP X pins D) X.xe s
theorem thn {α : Type} {t : Sem α} {Q Q' : α → Shared → Prop} {M : Model} {A : Around} {E : Value → Shared → Prop} {s : Shared} (h : wpAny M A t Q E s) (hQ : ∀ a s, Q a s → Q' a s) : wpAny M A t Q' E s := wpAny_mono h hQ fun _ _ x => x
end L2
namespace L2
open PySem PySem.Spec PyProof.Rows
section
variable {X : Cx}
def tVar (i : Nat) : TE := fun σ H Q => ∃ v, σ[i]? = some (some v) ∧ Q v H
def tC (v : V) : TE := fun _ H Q => Q v H
theorem pe_var {i : Nat} {x : Str} {pos : Pos} (hN : X.N[i]? = some x) (hv : Vis X.env.scope x) (hd : (x == ("__debug__" : Str)) = false := by decide) (hcd : (x == ("__classdict__" : Str)) = false := by decide) : PE X (.Name x pos) (tVar i) := by
  intro pins s σ H Q I h
  obtain ⟨v, e, h⟩ := h
  obtain ⟨m, hn, hl⟩ := I.loc
  obtain ⟨u, r, l⟩ := hl i x v hN e hv
  have fin : EP X pins σ Q u s := ⟨v, H, I, r, h⟩
  rcases l with ⟨hk, hm⟩ | ⟨hk, c, hc, hcell⟩
  · exact wpAny_Name (wpAny_loadName_local I.ok.kind hk hn hm fin) hd
  · rcases hk with hk | hk
    · exact wpAny_Name (wpAny_loadName_cell I.ok.kind hk hc hcell fin) hd
    · exact wpAny_Name (wpAny_loadName_free I.ok.kind hk hc hcell fin hcd) hd
theorem pe_int {i j pos} : PE X (.Constant (.int i) j pos) (tC (.int i)) := fun _ _ _ H _ I h => wpAny_Constant_int ⟨.int i, H, I.tok _, ⟨_, rfl⟩, h⟩
theorem pe_bl {b j pos} : PE X (.Constant (.bool b) j pos) (tC (.bl b)) := fun _ _ _ H _ I h => Constant_bool ⟨.bl b, H, I, rfl, h⟩
theorem pe_non {j pos} : PE X (.Constant .none j pos) (tC .non) := fun _ _ _ H _ I h => Constant_none ⟨.non, H, I, rfl, h⟩
theorem pe_str {x j pos} : PE X (.Constant (.str x) j pos) (tC (.str x)) := fun _ _ _ H _ I h => Calls.Constant_str ⟨.str x, H, I.tok _, ⟨_, rfl⟩, h⟩
def Gl (X : Cx) (x : Str) : Prop := X.env.kindOf x = some .globalImplicit
theorem ld_glob {E : Value → Shared → Prop} {pins : List (Addr × Obj)} {s : Shared} {σ : St} {H : Hp} {x : Str} {u : Value} {pos : Pos} {Q : Value → Shared → Prop} (I : Inv X pins σ H s) (hg : Gl X x) (hm : X.mg x = some u) (h : Q u s)
    (hd : (x == ("__debug__" : Str)) = false := by decide) : wpAny (model X.prog X.w) X.A (eval (.Name x pos) X.env) Q E s :=
  Calls.Name_function_global I.ok.kind hg (Calls.loadGlobal_global (by rw [I.ok.glob]; exact I.mod.glob.keeps I.bk) hm h) hd
theorem ld_blt {E : Value → Shared → Prop} {pins : List (Addr × Obj)} {s : Shared} {σ : St} {H : Hp} {x : Str} {u : Value} {pos : Pos} {Q : Value → Shared → Prop} (I : Inv X pins σ H s) (hg : Gl X x) (hm : X.mg x = none) (hv : bootBuiltins x = some u) (h : Q u s)
    (hn : x ≠ "__name__" := by decide) (hd : (x == ("__debug__" : Str)) = false := by decide) : wpAny (model X.prog X.w) X.A (eval (.Name x pos) X.env) Q E s := by
  obtain ⟨mb, h1, h2⟩ := I.mod.blt
  exact Calls.Name_function_global I.ok.kind hg (Calls.loadGlobal_builtin (by rw [I.ok.glob]; exact I.mod.glob.keeps I.bk) hm (by rw [I.ok.blt]; exact h1.keeps I.bk) ((h2 x hn).trans hv) h) hd
theorem pe_glob {x : Str} {v : V} {u : Value} {pos : Pos} (hg : Gl X x) (hm : X.mg x = some u) (r : RelV v u) (hd : (x == ("__debug__" : Str)) = false := by decide) : PE X (.Name x pos) (tC v) :=
  fun _ _ _ H _ I h => ld_glob I hg hm ⟨v, H, I, r, h⟩ hd
theorem pe_bltn {x : Str} {v : V} {u : Value} {pos : Pos} (hg : Gl X x) (hm : X.mg x = none) (hv : bootBuiltins x = some u) (r : RelV v u) (hn : x ≠ "__name__" := by decide) (hd : (x == ("__debug__" : Str)) = false := by decide) : PE X (.Name x pos) (tC v) :=
  fun _ _ _ H _ I h => ld_blt I hg hm hv ⟨v, H, I, r, h⟩ hn hd
variable {a b : Expr} {ta tb : TE} {pos : Pos}
def PC (X : Cx) (op : CmpOp) (a b : Expr) (t : TE) : Prop :=
  ∀ (pins : List (Addr × Obj)) (s : Shared) (σ : St) (H : Hp) (Q : VK), Inv X pins σ H s → t σ H Q →
    wpAny (model X.prog X.w) X.A (eval a X.env) (fun v s₁ => wpAny (model X.prog X.w) X.A (eval b X.env) (fun u s₂ => wpAny (model X.prog X.w) X.A (compareOp op v u) (EP X pins σ Q) X.xe s₂) X.xe s₁) X.xe s
theorem nobehind (b : Expr) {op : CmpOp} (h : op ≠ .In) (h2 : op ≠ .NotIn) : behindInMarks op b = false := by
  have e1 : (op == CmpOp.In) = false := by cases op <;> first | rfl | exact absurd rfl h
  have e2 : (op == CmpOp.NotIn) = false := by cases op <;> first | rfl | exact absurd rfl h2
  cases b <;> simp [behindInMarks, e1, e2]
def tB (t : TE) : TT := fun σ H Q => t σ H fun x H1 => ∃ c, x = .bl c ∧ Q c H1
theorem pt_cmp {op : CmpOp} {t : TE} (h : PC X op a b t) (h1 : behindInMarks op b = false := by first | exact nobehind _ (by decide) (by decide) | rfl) : PT X (.Compare a [op] [b] pos) (tB t) := by
  intro pins s σ H Q I hw
  refine wpAny_isTrue_Compare1 (thn (h pins s σ H _ I hw) fun v s1 h1 => thn h1 fun u s2 h2 => thn h2 fun c s3 ⟨x, H1, I1, r1, q1⟩ => ?_) h1
  obtain ⟨d, rfl, q⟩ := q1
  cases r1
  exact wpAny_truthy_bool ⟨H1, I1, q⟩
theorem pt_val {e : Expr} {t : TE} (h : PE X e t) (he : ∀ whole, isTrue e X.env whole = (do let v ← whole; standAt e.pos; holding [v] (truthy v)) := by intro _; rfl) : PT X e (tB t) := by
  intro pins s σ H Q I hw
  refine isTrue_plain (thn (h pins s σ H _ I hw) fun v s1 ⟨x, H1, I1, r1, q1⟩ => ?_) (he _)
  obtain ⟨d, rfl, q⟩ := q1
  cases r1
  exact wpAny_truthy_bool ⟨H1, I1, q⟩
variable {tA tB' : TT} {rest : List Expr}
def tAnd (t u : TT) : TT := fun σ H Q => t σ H fun c H1 => if c = true then u σ H1 Q else Q false H1
def tOr (t u : TT) : TT := fun σ H Q => t σ H fun c H1 => if c = true then Q true H1 else u σ H1 Q
def tNot (t : TT) : TT := fun σ H Q => t σ H fun c H1 => Q (!c) H1
theorem pw_and1 (ha : PT X a tA) : PW X (.BoolOp .And [a] pos) tA := by
  intro wh pins s σ H Q I h
  refine isTrue_and (thn (ha pins s σ H Q I h) fun c s1 e => ?_)
  cases c with
  | true => exact isTrue_and_nil e
  | false => exact e
theorem pw_or1 (ha : PT X a tA) : PW X (.BoolOp .Or [a] pos) tA := by
  intro wh pins s σ H Q I h
  refine isTrue_or (thn (ha pins s σ H Q I h) fun c s1 e => ?_)
  cases c with
  | false => exact isTrue_or_nil e
  | true => exact e
theorem pw_and (ha : PT X a tA) (hb : PW X (.BoolOp .And (b :: rest) pos) tB') : PW X (.BoolOp .And (a :: b :: rest) pos) (tAnd tA tB') := by
  intro wh pins s σ H Q I h
  refine isTrue_and (thn (ha pins s σ H _ I h) fun c s1 ⟨H1, I1, q1⟩ => ?_)
  cases c with
  | true => exact hb wh pins s1 σ H1 Q I1 q1
  | false => exact ⟨H1, I1, q1⟩
theorem pw_or (ha : PT X a tA) (hb : PW X (.BoolOp .Or (b :: rest) pos) tB') : PW X (.BoolOp .Or (a :: b :: rest) pos) (tOr tA tB') := by
  intro wh pins s σ H Q I h
  refine isTrue_or (thn (ha pins s σ H _ I h) fun c s1 ⟨H1, I1, q1⟩ => ?_)
  cases c with
  | true => exact ⟨H1, I1, q1⟩
  | false => exact hb wh pins s1 σ H1 Q I1 q1
theorem pt_not (ha : PT X a tA) : PT X (.UnaryOp .Not a pos) (tNot tA) := by
  intro pins s σ H Q I h
  exact isTrue_not (ha pins s σ H (fun c H1 => Q (!c) H1) I h)
def tAndV (ta tb : TE) : TE := fun σ H Q => ta σ H fun x H1 => ∃ c, x = .bl c ∧ if c = true then tb σ H1 Q else Q (.bl false) H1
def tNotV (ta : TE) : TE := fun σ H Q => ta σ H fun x H1 => ∃ c, x = .bl c ∧ Q (.bl (!c)) H1
theorem pe_one {op} {t : TE} (h : PE X a t) : PE X (.BoolOp op [a] pos) t := fun pins s σ H Q I hw => BoolOp_one (h pins s σ H Q I hw)
theorem pe_and (ha : PE X a ta) (hb : PE X (.BoolOp .And (b :: rest) pos) tb) : PE X (.BoolOp .And (a :: b :: rest) pos) (tAndV ta tb) := by
  intro pins s σ H Q I h
  refine BoolOp_and (thn (ha pins s σ H _ I h) fun v s1 ⟨x, H1, I1, r1, q1⟩ => ?_)
  obtain ⟨c, rfl, q1⟩ := q1
  cases r1
  refine wpAny_truthy_bool ?_
  cases c with
  | true => exact hb pins s1 σ H1 Q I1 q1
  | false => exact ⟨.bl false, H1, I1, rfl, q1⟩
theorem pe_not (ha : PE X a ta) : PE X (.UnaryOp .Not a pos) (tNotV ta) := by
  intro pins s σ H Q I h
  refine UnaryOp_ (thn (ha pins s σ H _ I h) fun v s1 ⟨x, H1, I1, r1, q1⟩ => ?_)
  obtain ⟨c, rfl, q1⟩ := q1
  cases r1
  exact not_of (wpAny_truthy_bool ⟨.bl (!c), H1, I1, rfl, q1⟩)
def tIf (t : TT) (ta tb : TE) : TE := fun σ H Q => t σ H fun c H1 => if c = true then ta σ H1 Q else tb σ H1 Q
theorem pe_ifExp {c : Expr} (hc : PT X c tA) (ha : PE X a ta) (hb : PE X b tb) : PE X (.IfExp c a b pos) (tIf tA ta tb) := by
  intro pins s σ H Q I h
  refine wpAny_IfExp (thn (hc pins s σ H _ I h) fun d s1 ⟨H1, I1, q1⟩ => ?_)
  cases d with
  | true => exact ha pins s1 σ H1 Q I1 q1
  | false => exact hb pins s1 σ H1 Q I1 q1
end
end L2
namespace L2
open PySem PySem.Spec PyProof.Rows
def SqL (K : PySem.W.Frag) (H : Hp) (a : Addr) (xs : List V) : Prop :=
  Rd H a (.lst xs) ∨
    ∃ (o : Obj) (its : Array Value) (n : Nat), K.lookup a = some o ∧ o.cls = .type "list" ∧ o.dict = none ∧ o.data = .seq its n ∧ its.size ≤ sizeLine ∧ Vals xs its.toList
def SqT (K : PySem.W.Frag) (H : Hp) (a : Addr) (xs : List V) : Prop :=
  Rd H a (.tup xs) ∨
    ∃ (o : Obj) (its : Array Value) (n : Nat), K.lookup a = some o ∧ o.cls = .type "tuple" ∧ o.data = .seq its n ∧ its.size ≤ sizeLine ∧ Vals xs its.toList
def absV : Value → Option V
  | .none => some .non
  | .bool b => some (.bl b)
  | .int i _ => some (.int i)
  | .str x _ => some (.str x)
  | .bytes b _ => some (.byt b)
  | .float b _ => some (.flt b)
  | .ref a => some (.ref a)
  | .type n => some (.ty n)
  | _ => none
theorem RelV.abs {x : V} {u : Value} (r : RelV x u) : absV u = some x := by
  cases x with
  | non => cases r; rfl
  | bl _ => cases r; rfl
  | int _ => obtain ⟨t, rfl⟩ := r; rfl
  | str _ => obtain ⟨t, rfl⟩ := r; rfl
  | byt _ => obtain ⟨t, rfl⟩ := r; rfl
  | flt _ => obtain ⟨t, rfl⟩ := r; rfl
  | ref _ => cases r; rfl
  | ty _ => cases r; rfl
theorem RelV.inj {x y : V} {u : Value} (r : RelV x u) (q : RelV y u) : x = y := Option.some.inj (r.abs.symm.trans q.abs)
theorem Vals.inj : ∀ {xs ys : List V} {us : List Value}, Vals xs us → Vals ys us → xs = ys
  | _, _, _, .nil, .nil => rfl
  | _, _, _, .cons r t, .cons r' t' => by rw [r.inj r', Vals.inj t t']
section
variable {X : Cx} {pins : List (Addr × Obj)} {σ : St} {H : Hp} {s : Shared} {a : Addr} {xs ys : List V}
theorem SqL.of {K : PySem.W.Frag} (h : H a = some (.lst xs)) : SqL K H a xs := .inl (.inl h)
theorem SqT.of {K : PySem.W.Frag} (h : H a = some (.tup xs)) : SqT K H a xs := .inl (.inl h)
theorem Inv.list (I : Inv X pins σ H s) (h : SqL X.K H a xs) : ∃ its : List Value, Vals xs its ∧ PlainL s.heap a its.toArray ∧ xs.length ≤ sizeLine := by
  rcases h with h | ⟨o, its, n, hk, hc, hd, hs, hz, r⟩
  · obtain ⟨z, its, n, r, e⟩ := h.ok I.hok
    exact ⟨its, r, ⟨_, n, e, rfl, rfl, rfl⟩, z⟩
  · refine ⟨its.toList, r, ⟨o, n, I.kIn a o hk, hc, hd, by simpa using hs⟩, ?_⟩
    have e := r.length
    simp only [Array.length_toList] at e
    omega
theorem Inv.tuple (I : Inv X pins σ H s) (h : SqT X.K H a xs) : ∃ its : List Value, Vals xs its ∧ IsTup s.heap a its.toArray ∧ xs.length ≤ sizeLine := by
  rcases h with h | ⟨o, its, n, hk, hc, hs, hz, r⟩
  · obtain ⟨z, its, r, p⟩ := h.ok I.hok
    exact ⟨its, r, p, z⟩
  · refine ⟨its.toList, r, ⟨o, I.kIn a o hk, hc, n, by simpa using hs⟩, ?_⟩
    have e := r.length
    simp only [Array.length_toList] at e
    omega
theorem Inv.list_inj (I : Inv X pins σ H s) (h : SqL X.K H a xs) (h' : SqL X.K H a ys) : xs = ys := by
  obtain ⟨its, r, ⟨o, n, e, _, _, d⟩, _⟩ := I.list h
  obtain ⟨its', r', ⟨o', n', e', _, _, d'⟩, _⟩ := I.list h'
  rw [e] at e'; cases e'
  rw [d] at d'
  injection d' with d1 _
  have : its = its' := by simpa using congrArg Array.toList d1
  subst this
  exact r.inj r'
theorem Inv.tuple_inj (I : Inv X pins σ H s) (h : SqT X.K H a xs) (h' : SqT X.K H a ys) : xs = ys := by
  obtain ⟨its, r, ⟨o, e, _, n, d⟩, _⟩ := I.tuple h
  obtain ⟨its', r', ⟨o', e', _, n', d'⟩, _⟩ := I.tuple h'
  rw [e] at e'; cases e'
  rw [d] at d'
  injection d' with d1 _
  have : its = its' := by simpa using congrArg Array.toList d1
  subst this
  exact r.inj r'
end
abbrev Cx.wish (X : Cx) (E : Value → Shared → Prop) : Cx := { X with xe := E }
abbrev Cx.nox (X : Cx) : Cx := X.wish fun _ _ => False
theorem Cx.Ok.wish {X : Cx} (ok : X.Ok) (E : Value → Shared → Prop) : (X.wish E).Ok :=
  ⟨ok.mod, ok.kind, ok.glob, ok.blt, ok.above, ok.inj, ok.has, ok.cab, ok.hd, ok.frames, ok.stk, ok.exf, ok.bs, ok.bsz, ok.noex, ok.exfs, ok.funs, ok.frf⟩
theorem Cx.Ok.unwish {X : Cx} {E : Value → Shared → Prop} (ok : (X.wish E).Ok) : X.Ok :=
  ⟨ok.mod, ok.kind, ok.glob, ok.blt, ok.above, ok.inj, ok.has, ok.cab, ok.hd, ok.frames, ok.stk, ok.exf, ok.bs, ok.bsz, ok.noex, ok.exfs, ok.funs, ok.frf⟩
section
variable {X : Cx} {pins : List (Addr × Obj)} {σ : St} {H : Hp} {s : Shared} {E : Value → Shared → Prop}
theorem Inv.wish (I : Inv X pins σ H s) (E : Value → Shared → Prop) : Inv (X.wish E) pins σ H s := ⟨I.ok.wish E, I.os, I.bare, I.base, I.loc, I.cell, I.free, I.freeC, I.pin, I.hok, I.len⟩
theorem Inv.unwish (I : Inv (X.wish E) pins σ H s) : Inv X pins σ H s := ⟨I.ok.unwish, I.os, I.bare, I.base, I.loc, I.cell, I.free, I.freeC, I.pin, I.hok, I.len⟩
theorem SP.unwish {D : Ends} {f : Flow} {s' : Shared} (h : SP (X.wish E) pins D f s') : SP X pins D f s' := by
  cases f with
  | next => obtain ⟨σ', H', I, q⟩ := h; exact ⟨σ', H', I.unwish, q⟩
  | brk => obtain ⟨σ', H', I, q⟩ := h; exact ⟨σ', H', I.unwish, q⟩
  | cont => obtain ⟨σ', H', I, q⟩ := h; exact ⟨σ', H', I.unwish, q⟩
  | ret u => obtain ⟨v, σ', H', I, r, q⟩ := h; exact ⟨v, σ', H', I.unwish, r, q⟩
theorem PE.nox {e : Expr} {t : TE} (h : PE X.nox e t) : PE X e t := fun pins s σ H Q I hw =>
  wpAny_mono (h pins s σ H Q (I.wish _) hw) (fun _ _ ⟨v, H', I', r, q⟩ => ⟨v, H', I'.unwish, r, q⟩) fun _ _ z => False.elim z
theorem PT.nox {e : Expr} {t : TT} (h : PT X.nox e t) : PT X e t := fun pins s σ H Q I hw =>
  wpAny_mono (h pins s σ H Q (I.wish _) hw) (fun _ _ ⟨H', I', q⟩ => ⟨H', I'.unwish, q⟩) fun _ _ z => False.elim z
theorem PSs.nox {st : List Stmt} {t : TS} (h : PSs X.nox st t) : PSs X st t := fun pins s σ H D I hw =>
  wpAny_mono (h pins s σ H D (I.wish _) hw) (fun _ _ q => q.unwish) fun _ _ z => False.elim z
end
section
variable {X : Cx} {st : Stmt} {rest : List Stmt} {t u : TS} {e : Expr} {te : TE} {pos : Pos}
def tNext : TS := fun D σ H => D.nx σ H
def tSeq (t u : TS) : TS := fun D σ H => t { D with nx := u D } σ H
theorem pss_nil : PSs X [] tNext := fun _ _ σ H _ I h => wpAny_execs_nil ⟨σ, H, I, h⟩
theorem pss_cons (h1 : PS X st t) (h2 : PSs X rest u) : PSs X (st :: rest) (tSeq t u) := by
  intro pins s σ H D I h
  refine wpAny_execs_cons (thn (h1 pins s σ H { D with nx := u D } I h) fun f s1 q => ?_)
  cases f with
  | next =>
    obtain ⟨σ', H', I', q⟩ := q
    exact h2 pins s1 σ' H' D I' q
  | ret v => exact q
  | brk => exact q
  | cont => exact q
theorem pss_one (h1 : PS X st t) : PSs X [st] t := by
  intro pins s σ H D I h
  refine wpAny_execs_cons (thn (h1 pins s σ H D I h) fun f s1 q => ?_)
  cases f with
  | next => exact wpAny_execs_nil q
  | ret v => exact q
  | brk => exact q
  | cont => exact q
theorem Inv.quiet {pins : List (Addr × Obj)} {σ : St} {H : Hp} {s : Shared} (I : Inv X pins σ H s) : interactive X.env = false := by simp [interactive, I.ok.kind]
def tDrop (te : TE) : TS := fun D σ H => te σ H fun _ H1 => D.nx σ H1
theorem ps_expr (he : PE X e te) (hs : swapsWith e none pos.line X.env = pure false := by rfl) : PS X (.Expr e pos) (tDrop te) := by
  intro pins s σ H D I h
  exact wpAny_Expr_any (thn (he pins s σ H _ I h) fun v s1 ⟨x, H1, I1, r1, q1⟩ => ⟨σ, H1, I1, q1⟩) I.quiet hs
def tRet (te : TE) : TS := fun D σ H => te σ H D.rt
theorem ps_ret (he : PE X e te) : PS X (.Return (some e) pos) (tRet te) := by
  intro pins s σ H D I h
  exact wpAny_Return_some (thn (he pins s σ H _ I h) fun v s1 ⟨x, H1, I1, r1, q1⟩ => ⟨x, σ, H1, I1, r1, q1⟩)
def tIfS (c : TT) (t u : TS) : TS := fun D σ H => c σ H fun b H1 => if b = true then t D σ H1 else u D σ H1
theorem ps_if {c : Expr} {a b : List Stmt} {tc : TT} (hc : PT X c tc) (ha : PSs X a t) (hb : PSs X b u) : PS X (.If c a b pos) (tIfS tc t u) := by
  intro pins s σ H D I h
  refine wpAny_If (thn (hc pins s σ H _ I h) fun d s1 ⟨H1, I1, q1⟩ => ?_)
  cases d with
  | true => exact ha pins s1 σ H1 D I1 q1
  | false => exact hb pins s1 σ H1 D I1 q1
end
abbrev TG := V → St → Hp → (St → Hp → Prop) → Prop
abbrev TGs := List V → St → Hp → (St → Hp → Prop) → Prop
def PG (X : Cx) (target : Expr) (t : TG) : Prop :=
  ∀ (pins : List (Addr × Obj)) (s : Shared) (σ : St) (H : Hp) (v : V) (u : Value) (Q : St → Hp → Prop), Inv X pins σ H s → RelV v u → t v σ H Q →
    wpAny (model X.prog X.w) X.A (assign target X.env u) (fun _ s' => ∃ σ' H', Inv X pins σ' H' s' ∧ Q σ' H') X.xe s
def PGs (X : Cx) (ts : List Expr) (t : TGs) : Prop :=
  ∀ (pins : List (Addr × Obj)) (s : Shared) (σ : St) (H : Hp) (vs : List V) (us : List Value) (Q : St → Hp → Prop), Inv X pins σ H s → Vals vs us → t vs σ H Q →
    wpAny (model X.prog X.w) X.A (assignInOrder ((assignEach ts X.env).map (·.2)) us) (fun _ s' => ∃ σ' H', Inv X pins σ' H' s' ∧ Q σ' H') X.xe s
abbrev TSet := V → V → V → Hp → (Hp → Prop) → Prop
def PSet (X : Cx) (t : TSet) : Prop :=
  ∀ (pins : List (Addr × Obj)) (s : Shared) (σ : St) (H : Hp) (o i v : V) (ov iv u : Value) (Q : Hp → Prop), Inv X pins σ H s → RelV o ov → RelV i iv → RelV v u → t o i v H Q →
    wpAny (model X.prog X.w) X.A (setItem ov iv u) (fun _ s' => ∃ H', Inv X pins σ H' s' ∧ Q H') X.xe s
section
variable {X : Cx} {pos : Pos}
def gName (i : Nat) : TG := fun v σ H Q => Q (σ.set i (some v)) H
theorem pg_name {i : Nat} {x : Str} (hN : X.N.Nodup) (hi : X.N[i]? = some x) (hx : Loc X.env.scope x) (hf : X.fn x = true ∨ X.env.scope.names.lookup x = some .local := by first | exact .inl rfl | exact .inr rfl | assumption) : PG X (.Name x pos) (gName i) := by
  intro pins s σ H v u Q I r h
  exact wpAny_assign_Name (store_ok I hN hi hx r (fun s' I' => ⟨_, H, I', h⟩) hf)
def gNil : TGs := fun vs σ H Q => vs = [] ∧ Q σ H
def gCons (t : TG) (u : TGs) : TGs := fun vs σ H Q => ∃ v r, vs = v :: r ∧ t v σ H fun σ' H' => u r σ' H' Q
theorem pgs_nil : PGs X [] gNil := by
  intro pins s σ H vs us Q I r h
  obtain ⟨e, h⟩ := h
  subst e
  cases r
  exact assignInOrder_nil ⟨σ, H, I, h⟩
theorem pgs_cons {e : Expr} {es : List Expr} {t : TG} {u : TGs} (h1 : PG X e t) (h2 : PGs X es u)
    (hs : (assignEach (e :: es) X.env).map (·.2) = assign e X.env :: (assignEach es X.env).map (·.2) := by rfl) : PGs X (e :: es) (gCons t u) := by
  intro pins s σ H vs us Q I r h
  obtain ⟨v, vr, e1, h⟩ := h
  subst e1
  cases r with
  | cons r rr =>
    rw [hs]
    refine assignInOrder_cons (thn (h1 pins s σ H _ _ _ I r h) fun _ s1 ⟨σ1, H1, I1, q1⟩ => ?_)
    exact h2 pins s1 σ1 H1 _ _ Q I1 rr q1
def gTup (K : PySem.W.Frag) (n : Nat) (t : TGs) : TG := fun v σ H Q => ∃ a xs, v = .ref a ∧ SqT K H a xs ∧ xs.length = n ∧ t xs σ H Q
theorem pg_tup {es : List Expr} {k : Nat} {t : TGs} {n : Nat} (hc : X.calm = true) (h : PGs X es t)
    (hn : (assignEach es X.env).length = n := by rfl) (hst : (assignEach es X.env).findIdx? (·.1) = none := by rfl) : PG X (.Tuple es k pos) (gTup X.K n t) := by
  intro pins s σ H v u Q I r hw
  obtain ⟨a, xs, e1, hq, hl, hw⟩ := hw
  subst e1
  cases r
  obtain ⟨its, rv, ht, hz⟩ := I.tuple hq
  refine assign_Tuple_tuple (I.ok.hd hc) ht (by simp [hn, ← hl, rv.length]) hst fun h' hx => ?_
  have I1 : Inv X pins σ H { s with heap := h' } := I.kept (t' := s.toks) fun b o e => hx b o (Nat.ne_of_lt (Heap.lt_size e)) e
  exact h pins _ σ H xs _ Q I1 (by simpa using rv) hw
def gSub (to ti : TE) (t : TSet) : TG := fun v σ H Q => to σ H fun o H1 => ti σ H1 fun i H2 => t o i v H2 fun H3 => Q σ H3
theorem pg_sub {o i : Expr} {to ti : TE} {t : TSet} (ho : PE X o to) (hi : PE X i ti) (hs : PSet X t)
    (ha : ∀ v, assign (.Subscript o i pos) X.env v = (do
      let ov ← holding [v] (eval o X.env)
      let iv ← holding [v, ov] (eval i X.env)
      standAt pos
      holding [v, ov, iv] (setItem ov iv v)
      release [v, ov, iv] []) := by intro _; rfl) : PG X (.Subscript o i pos) (gSub to ti t) := by
  intro pins s σ H v u Q I r h
  rw [ha]
  refine wpAny_bind (wpAny_holding (thn (ho pins s σ H _ I h) fun ov s1 ⟨x, H1, I1, r1, q1⟩ => ?_))
  refine wpAny_bind (wpAny_holding (thn (hi pins s1 σ H1 _ I1 q1) fun iv s2 ⟨y, H2, I2, r2, q2⟩ => ?_))
  refine wpAny_bind (wpAny_standAt (wpAny_bind (wpAny_holding (thn (hs pins s2 σ H2 x y v ov iv u _ I2 r1 r2 r q2) fun _ s3 ⟨H3, I3, q3⟩ => ?_))))
  exact wpAny_release ⟨σ, H3, I3, q3⟩
def tAsg (te : TE) (g : TG) : TS := fun D σ H => te σ H fun x H1 => g x σ H1 D.nx
theorem ps_asg {tg e : Expr} {te : TE} {g : TG} (he : PE X e te) (hg : PG X tg g) (hs : swapsWithSole [tg] e pos.line X.env = pure false := by rfl) (hw : swappedStores [tg] e X.env = pure none := by rfl)
    (h1 : (assignEach [tg] X.env).map (·.2) = [assign tg X.env] := by rfl) : PS X (.Assign [tg] e pos) (tAsg te g) := by
  intro pins s σ H D I h
  refine wpAny_Assign_stores (thn (he pins s σ H _ I h) fun v s1 ⟨x, H1, I1, r1, q1⟩ => ?_) hs hw
  rw [h1]
  exact thn (hg pins s1 σ H1 x v _ I1 r1 q1) fun _ s2 q => q
theorem ps_set {i : Nat} {x : Str} {e : Expr} {te : TE} {pos' : Pos} (hN : X.N.Nodup) (hi : X.N[i]? = some x) (hx : Loc X.env.scope x) (he : PE X e te) (hs : swapsWith e (some (.Name x pos')) pos.line X.env = pure false := by rfl) (hf : X.fn x = true ∨ X.env.scope.names.lookup x = some .local := by first | exact .inl rfl | exact .inr rfl | assumption) :
    PS X (.Assign [.Name x pos'] e pos) (tAsg te (gName i)) := by
  intro pins s σ H D I h
  refine wpAny_Assign_Name (thn (he pins s σ H _ I h) fun v s1 ⟨y, H1, I1, r1, q1⟩ => ?_) hs
  exact store_ok I1 hN hi hx r1 (fun s2 I2 => ⟨_, H1, I2, q1⟩) hf
end
section
variable {X : Cx} {pos : Pos}
end
structure It where
  go : Nat → Hp → Prop
  yld : Nat → Hp → V → Hp → Prop
  stop : Nat → Hp → Prop
def FpOk (X : Cx) (pins : List (Addr × Obj)) (H : Hp) (b : Addr) : Prop :=
  H b = none ∧ b ≠ X.env.locals ∧ b ∉ X.fs ∧ (b ∈ X.ex ∨ X.s₀.heap.objs.size ≤ b) ∧ (∀ x c, X.env.cells.lookup x = some c → c ≠ b) ∧ ∀ p ∈ X.pn ++ pins, p.1 ≠ b
theorem Inv.fpOk {X : Cx} {pins : List (Addr × Obj)} {σ : St} {H H' : Hp} {s : Shared} {b : Addr} (I : Inv X pins σ H s) (hb : s.heap.objs.size ≤ b) (hn : H' b = none) : FpOk X pins H' b := by
  refine ⟨hn, Nat.ne_of_gt (Nat.lt_of_lt_of_le I.lt hb), I.nofs hb, .inr (Nat.le_trans I.sz hb), fun x c e z => ?_, fun p hp z => ?_⟩
  · obtain ⟨v, q⟩ := I.cell x c e
    exact absurd (Nat.lt_of_lt_of_le q.lt (by rw [z]; exact hb)) (Nat.lt_irrefl _)
  · exact absurd (Nat.lt_of_lt_of_le (Heap.lt_size (I.pin p hp).1) (by rw [z]; exact hb)) (Nat.lt_irrefl _)
structure Turn (P : Program) (w : World) (K : PySem.W.Frag) (tg : Expr) (J : It) (fp : List Addr) (it : Addr) (tn : Nat → Heap → Prop) : Prop where
  mem : it ∈ fp
  obj : ∀ i h, tn i h → ∀ b ∈ fp, ∃ o, h.get? b = some o ∧ ∀ v, o.data ≠ .cell v
  keep : ∀ i h h', tn i h → (∀ b ∈ fp, ∀ o, h.get? b = some o → h'.get? b = some o) → tn i h'
  item : ∀ (X : Cx), X.prog = P → X.w = w → X.K = K → X.calm = true → ∀ (i : Nat) (pins : List (Addr × Obj)) (s : Shared) (σ : St) (H : Hp) (E : Value → Shared → Prop), Inv X pins σ H s → (∀ b ∈ fp, FpOk X pins H b) → tn i s.heap → J.go i H →
    wpAny (model P w) X.A (pyNext (.ref it)) (fun r s1 => ∃ u, r = some u ∧
      wpAny (model P w) X.A (letOwnedTupleGo tg (.ref it) u) (fun _ s2 => ∃ x H', Inv X pins σ H' s2 ∧ RelV x u ∧ J.yld i H x H' ∧ tn (i + 1) s2.heap ∧ ∀ b ∈ fp, H' b = none) E s1) E s
  done : ∀ (X : Cx), X.prog = P → X.w = w → X.K = K → X.calm = true → ∀ (i : Nat) (pins : List (Addr × Obj)) (s : Shared) (σ : St) (H : Hp) (E : Value → Shared → Prop), Inv X pins σ H s → (∀ b ∈ fp, FpOk X pins H b) → tn i s.heap → J.stop i H →
    wpAny (model P w) X.A (pyNext (.ref it)) (fun r s1 => r = none ∧ Inv X pins σ H s1) E s
  self : ∀ (A : Around) (i : Nat) (s : Shared) (Q : Value → Shared → Prop) (E : Value → Shared → Prop), tn i s.heap → Q (.ref it) s → wpAny (model P w) A (pyIter (.ref it)) Q E s
abbrev TI := St → Hp → (It → Hp → Prop) → Prop
def PIE (X : Cx) (pins : List (Addr × Obj)) (σ : St) (tg : Expr) (R : It → Hp → Prop) (itv : Value) (s2 : Shared) : Prop :=
  ∃ (it : Addr) (fp : List Addr) (tn : Nat → Heap → Prop) (J : It) (H' : Hp), itv = .ref it ∧ Inv X pins σ H' s2 ∧ Turn X.prog X.w X.K tg J fp it tn ∧ tn 0 s2.heap ∧ (∀ b ∈ fp, FpOk X pins H' b) ∧ R J H'
def PI (X : Cx) (tg iter : Expr) (wi : TI) : Prop :=
  ∀ (pins : List (Addr × Obj)) (s : Shared) (σ : St) (H : Hp) (R : It → Hp → Prop), Inv X pins σ H s → wi σ H R →
    wpAny (model X.prog X.w) X.A (eval iter X.env) (fun v s1 => wpAny (model X.prog X.w) X.A (pyIter v) (PIE X pins σ tg R) X.xe s1) X.xe s
theorem go_of {M : Model} {A : Around} {E : Value → Shared → Prop} {s : Shared} {tg : Expr} {it : Addr} {u : Value} {o : Obj} {n : String} {vs : Array Value} {Q : Unit → Shared → Prop} (ho : s.heap.get? it = some o) (hc : o.cls = .type n) (hd : o.data = .fields vs)
    (hn : ["enumerate", "zip", "dict_itemiterator", "dict_reverseitemiterator", "odict_iterator", "itertools.zip_longest", "itertools.pairwise"].contains n = false) (hQ : Q () s) : wpAny M A (letOwnedTupleGo tg (.ref it) u) Q E s := by
  unfold letOwnedTupleGo
  cases tg <;> first
    | exact wpAny_pure hQ
    | (cases u <;> first
        | exact wpAny_pure hQ
        | (refine wpAny_bind (wpAny_load ho ?_)
           rw [hc, hd]
           show wpAny M A (if (["enumerate", "zip", "dict_itemiterator", "dict_reverseitemiterator", "odict_iterator", "itertools.zip_longest", "itertools.pairwise"].contains n && vs[0]? == some (rawInt _)) = true then _ else _) Q E s
           rw [if_neg (by intro h; rw [hn, Bool.false_and] at h; cases h)]
           exact wpAny_pure hQ))
def Itl (K : PySem.W.Frag) (a : Addr) : It :=
  ⟨fun i H => ∃ xs x, SqL K H a xs ∧ xs[i]? = some x, fun i H x H' => H' = H ∧ ∀ xs, SqL K H a xs → xs[i]? = some x, fun i H => ∃ xs, SqL K H a xs ∧ xs.length ≤ i⟩
def Itt (K : PySem.W.Frag) (a : Addr) : It :=
  ⟨fun i H => ∃ xs x, SqT K H a xs ∧ xs[i]? = some x, fun i H x H' => H' = H ∧ ∀ xs, SqT K H a xs → xs[i]? = some x, fun i H => ∃ xs, SqT K H a xs ∧ xs.length ≤ i⟩
def Itr (lo : Int) (n : Nat) : It := ⟨fun i _ => i < n, fun i H x H' => H' = H ∧ x = .int (lo + i), fun i _ => n ≤ i⟩
theorem turn_list {P : Program} {w : World} {K : PySem.W.Frag} {tg : Expr} (a it : Addr) : Turn P w K tg (Itl K a) [it] it (fun i h => h.IsListIter it a i) where
  mem := by simp
  obj := fun i h st b hb => by
    have e : b = it := by simpa using hb
    subst e
    obtain ⟨o, e, c, d⟩ := st
    exact ⟨o, e, fun v z => by rw [d] at z; cases z⟩
  keep := fun i h h' st k => st.at fun o e => k it (by simp) o e
  item := by
    intro X hP hw hK hc i pins s σ H E I hf st hg
    subst hP hw hK
    obtain ⟨xs, x, hq, hx⟩ := hg
    obtain ⟨its, rv, p, hz⟩ := I.list hq
    obtain ⟨u, hu, ru⟩ := rv.get hx
    obtain ⟨f0, f1, f2, f3, f4, f5⟩ := hf it (by simp)
    refine wpAny_pyNext_list_item st p.isList (x := u) (by simpa using hu) fun h' st' sb => ?_
    have I1 : Inv X pins σ H { s with heap := h' } := I.turned (t' := s.toks) (fun b o hb e => (sb.2 b hb).trans e) f0 f1 f3 f4 f5
    obtain ⟨o, e, c, d⟩ := id st'
    exact ⟨u, rfl, go_of (s := { s with heap := h' }) e c d (by decide) ⟨x, H, I1, ru, ⟨rfl, fun ys hy => by rw [I.list_inj hy hq]; exact hx⟩, st', fun b hb => (hf b hb).1⟩⟩
  done := by
    intro X hP hw hK hc i pins s σ H E I hf st hg
    subst hP hw hK
    obtain ⟨xs, hq, hx⟩ := hg
    obtain ⟨its, rv, p, hz⟩ := I.list hq
    obtain ⟨f0, f1, f2, f3, f4, f5⟩ := hf it (by simp)
    have hl := rv.length
    exact wpAny_pyNext_list_end (I.ok.hd hc) st p.isList (by simp; omega) fun h' eb => ⟨rfl, I.turned (t' := s.toks) (fun b o hb e => eb b o hb e) f0 f1 f3 f4 f5⟩
  self := fun _ _ _ _ _ st h => wpAny_pyIter_listiter st h
theorem turn_tuple {P : Program} {w : World} {K : PySem.W.Frag} {tg : Expr} (a it : Addr) : Turn P w K tg (Itt K a) [it] it (fun i h => h.IsTupleIter it a i) where
  mem := by simp
  obj := fun i h st b hb => by
    have e : b = it := by simpa using hb
    subst e
    obtain ⟨o, e, c, d⟩ := st
    exact ⟨o, e, fun v z => by rw [d] at z; cases z⟩
  keep := fun i h h' st k => st.at fun o e => k it (by simp) o e
  item := by
    intro X hP hw hK hc i pins s σ H E I hf st hg
    subst hP hw hK
    obtain ⟨xs, x, hq, hx⟩ := hg
    obtain ⟨its, rv, p, hz⟩ := I.tuple hq
    obtain ⟨u, hu, ru⟩ := rv.get hx
    obtain ⟨f0, f1, f2, f3, f4, f5⟩ := hf it (by simp)
    refine wpAny_pyNext_tuple_item st (show s.heap.IsTuple a its.toArray from p) (x := u) (by simpa using hu) fun h' st' sb => ?_
    have I1 : Inv X pins σ H { s with heap := h' } := I.turned (t' := s.toks) (fun b o hb e => (sb.2 b hb).trans e) f0 f1 f3 f4 f5
    obtain ⟨o, e, c, d⟩ := id st'
    exact ⟨u, rfl, go_of (s := { s with heap := h' }) e c d (by decide) ⟨x, H, I1, ru, ⟨rfl, fun ys hy => by rw [I.tuple_inj hy hq]; exact hx⟩, st', fun b hb => (hf b hb).1⟩⟩
  done := by
    intro X hP hw hK hc i pins s σ H E I hf st hg
    subst hP hw hK
    obtain ⟨xs, hq, hx⟩ := hg
    obtain ⟨its, rv, p, hz⟩ := I.tuple hq
    obtain ⟨f0, f1, f2, f3, f4, f5⟩ := hf it (by simp)
    have hl := rv.length
    exact wpAny_pyNext_tuple_end (I.ok.hd hc) st (show s.heap.IsTuple a its.toArray from p) (by simp; omega) fun h' eb => ⟨rfl, I.turned (t' := s.toks) (fun b o hb e => eb b o hb e) f0 f1 f3 f4 f5⟩
  self := fun _ _ _ _ _ st h => wpAny_pyIter_tupleiter st h
theorem turn_range {P : Program} {w : World} {K : PySem.W.Frag} {tg : Expr} (it : Addr) (lo : Int) (n : Nat) : Turn P w K tg (Itr lo n) [it] it (fun i h => IsRangeIter h it (lo + (i : Nat) * 1) ((n : Int) - (i : Nat)) 1) where
  mem := by simp
  obj := fun i h st b hb => by
    have e : b = it := by simpa using hb
    subst e
    exact ⟨_, st, fun v z => by
      have z' : Data.fields _ = Data.cell v := z
      cases z'⟩
  keep := fun i h h' st k => k it (by simp) _ st
  item := by
    intro X hP hw hK hc i pins s σ H E I hf st hg
    subst hP hw hK
    obtain ⟨f0, f1, f2, f3, f4, f5⟩ := hf it (by simp)
    have W := Walks.range (prog := X.prog) (w := X.w) (I.ok.hd hc) it lo 1 n
    refine W.item i s _ _ hg st fun v h' tk hv st' kk => ?_
    obtain ⟨t, rfl⟩ := hv
    have I1 : Inv X pins σ H { s with heap := h', toks := tk } := I.turned (fun b o hb e => kk b o (by simpa using hb) e) f0 f1 f3 f4 f5
    refine ⟨_, rfl, go_of (s := { s with heap := h', toks := tk }) (n := "range_iterator") st' rfl rfl (by decide) ⟨.int (lo + i), H, I1, ⟨t, ?_⟩, ⟨rfl, rfl⟩, st', fun b hb => (hf b hb).1⟩⟩
    rw [Int.mul_one]
  done := by
    intro X hP hw hK hc i pins s σ H E I hf st hg
    subst hP hw hK
    obtain ⟨f0, f1, f2, f3, f4, f5⟩ := hf it (by simp)
    exact wpAny_pyNext_range_end (I.ok.hd hc) st (by have : n ≤ i := hg; omega) fun h' eb => ⟨rfl, I.turned (t' := s.toks) (fun b o hb e => eb b o hb e) f0 f1 f3 f4 f5⟩
  self := fun _ _ _ _ _ st h => wpAny_pyIter_rangeiter st h
end L2
namespace L2
open PySem PySem.Spec PyProof.Rows
section
variable {X : Cx} {tg : Expr}
theorem range_it {pins : List (Addr × Obj)} {σ : St} {H : Hp} {s : Shared} {R : It → Hp → Prop} {E : Value → Shared → Prop} {lo hi : Int} {t u v : Tok} {tk : Nat} (I : Inv X pins σ H s) (h1 : -(2 ^ 62) ≤ lo) (h2 : lo < 2 ^ 62) (h3 : -(2 ^ 62) ≤ hi) (h4 : hi < 2 ^ 62)
    (q : R (Itr lo (hi - lo).toNat) H) : wpAny (model X.prog X.w) X.A (pyIter (.ref s.heap.objs.size)) (PIE X pins σ tg R) E { s with heap := s.heap.push { cls := .type "range", data := .fields #[.int lo t, .int hi u, .int 1 v] }, toks := tk } := by
  refine wpAny_pyIter_range (IsRange.new ..) (small_one h1 h2 h3 h4) ?_
  have I1 : Inv X pins σ H { s with heap := s.heap.push { cls := .type "range", data := .fields #[.int lo t, .int hi u, .int 1 v] }, toks := tk } := I.kept fun b o e => Heap.get?_push_of_some _ e
  refine ⟨(s.heap.push { cls := .type "range", data := .fields #[.int lo t, .int hi u, .int 1 v] }).objs.size, [(s.heap.push { cls := .type "range", data := .fields #[.int lo t, .int hi u, .int 1 v] }).objs.size], _, _, H, rfl,
    I1.kept (t' := tk) fun b o e => Heap.get?_push_of_some _ e, turn_range _ lo (hi - lo).toNat, ?_, fun b hb => ?_, q⟩
  · have e1 : lo + ((0 : Nat) : Int) * 1 = lo := by simp
    have e2 : (((hi - lo).toNat : Nat) : Int) - ((0 : Nat) : Int) = Builtin.Range.rangeSize lo hi 1 := by rw [rangeSize_one]; split <;> omega
    show IsRangeIter _ _ (lo + ((0 : Nat) : Int) * 1) ((((hi - lo).toNat : Nat) : Int) - ((0 : Nat) : Int)) 1
    rw [e1, e2]
    exact Heap.get?_push_size _ rfl
  · have e : b = (s.heap.push { cls := .type "range", data := .fields #[.int lo t, .int hi u, .int 1 v] }).objs.size := by simpa using hb
    subst e
    exact I1.fpOk (Nat.le_refl _) (I1.hok.fresh (Nat.le_refl _))
def iRng1 (ta : TA) : TI := fun σ H R => ta σ H fun vs H1 => ∃ j : Int, vs = [.int j] ∧ -(2 ^ 62) ≤ j ∧ j < 2 ^ 62 ∧ R (Itr 0 j.toNat) H1
theorem pi_range1 {a : Expr} {ta : TA} {p pos : Pos} (hg : Gl X "range") (hm : X.mg "range" = none) (ha : PA X [a] ta) (hs : starEach [a] X.env = [(false, eval a X.env)] := by rfl) : PI X tg (.Call (.Name "range" p) [a] [] pos) (iRng1 ta) := by
  intro pins s σ H R I h
  refine Call_ (ld_blt I hg hm boot_range (PyProof.Rows.callWith_type1 (thn (ha pos pins s σ H _ I h) fun us s1 ⟨vs, H1, I1, r1, q1⟩ => ?_) hs rfl))
  obtain ⟨j, e, q1, q2, q⟩ := q1
  subst e
  cases r1 with
  | cons r rr =>
    cases rr
    obtain ⟨t, rfl⟩ := r
    exact call_range_1 (range_it I1 (by omega) (by omega) q1 q2 (by simpa using q))
def tFor (wi : TI) (g : TG) (tb : TS) : TS := fun D σ H => wi σ H fun J H1 => ∃ W : Nat → Nat → St → Hp → Prop, (∃ m, W 0 m σ H1) ∧ ∀ i m σ H, W i m σ H →
  (J.stop i H ∧ D.nx σ H) ∨ (J.go i H ∧ ∃ N : St → Hp → Prop, (∀ σ' H', N σ' H' → ∃ m', m' < m ∧ W (i + 1) m' σ' H') ∧ ∀ x H', J.yld i H x H' → g x σ H' fun σ2 H2 => tb { D with nx := N, ct := N, bk := D.nx } σ2 H2)
def pinsAt (fp : List Addr) (h : Heap) : List (Addr × Obj) := fp.filterMap fun b => (h.get? b).map fun o => (b, o)
theorem mem_pinsAt {fp : List Addr} {h : Heap} {b : Addr} {o : Obj} (hb : b ∈ fp) (e : h.get? b = some o) : (b, o) ∈ pinsAt fp h := List.mem_filterMap.mpr ⟨b, hb, by rw [e]; rfl⟩
theorem of_pinsAt {fp : List Addr} {h : Heap} {p : Addr × Obj} (hp : p ∈ pinsAt fp h) : p.1 ∈ fp ∧ h.get? p.1 = some p.2 := by
  obtain ⟨b, hb, e⟩ := List.mem_filterMap.mp hp
  cases q : h.get? b with
  | none => rw [q] at e; cases e
  | some o =>
    rw [q] at e
    have e' : (b, o) = p := Option.some.inj e
    subst e'
    exact ⟨hb, q⟩
theorem Inv.pinned {pins : List (Addr × Obj)} {σ : St} {H : Hp} {s : Shared} {fp : List Addr} (I : Inv X pins σ H s) (hf : ∀ b ∈ fp, FpOk X pins H b) (ho : ∀ b ∈ fp, ∃ o, s.heap.get? b = some o ∧ ∀ v, o.data ≠ .cell v) : Inv X (pins ++ pinsAt fp s.heap) σ H s :=
  I.pins_of fun p hp => (List.mem_append.mp hp).elim (fun z => I.pin p (List.mem_append_right _ z)) fun z => by
    obtain ⟨hb, e⟩ := of_pinsAt z
    obtain ⟨f0, f1, f2, _⟩ := hf p.1 hb
    obtain ⟨o, e', d⟩ := ho p.1 hb
    rw [e] at e'; cases e'
    exact ⟨e, f0, f1, f2, d⟩
theorem Inv.unpinned {pins pl : List (Addr × Obj)} {σ : St} {H : Hp} {s : Shared} (I : Inv X (pins ++ pl) σ H s) : Inv X pins σ H s := I.pins_of fun p hp => I.pin p (List.mem_append_right _ (List.mem_append_left _ hp))
theorem ps_for {iter : Expr} {body : List Stmt} {wi : TI} {g : TG} {tb : TS} {pos : Pos} (hp : PassesOwn (model X.prog X.w) X.A X.env X.xe) (hc : X.calm = true) (hi : PI X tg iter wi) (hg : PG X tg g) (hb : PSs X body tb)
    (hs : ∀ x, foldedSetIterable iter X.env x = pure x := by intro _; rfl) : PS X (.For tg iter body [] pos) (tFor wi g tb) := by
  intro pins s σ H D I h
  refine wpAny_For (thn (hi pins s σ H _ I h) fun v s1 h1 => thn h1 fun itv s2 h2 => ?_) hs
  obtain ⟨it, fp, tn, J, H2, e, I2, T, st2, f2, W, ⟨m0, w0⟩, turn⟩ := h2
  subst e
  -- what stays true of the iterator's objects through the loop
  have stat : ∀ {H' : Hp}, (∀ b ∈ fp, H' b = none) → ∀ b ∈ fp, FpOk X pins H' b := fun hn b hb => ⟨hn b hb, (f2 b hb).2⟩
  refine codeAny_forLoop_any (fun n s' => ∃ i σ' H', Inv X pins σ' H' s' ∧ tn i s'.heap ∧ (∀ b ∈ fp, H' b = none) ∧ W i n σ' H') ?_ m0 ⟨0, σ, H2, I2, st2, fun b hb => (f2 b hb).1, w0⟩
  rintro n s3 ⟨i, σ3, H3, I3, st3, fr3, w3⟩
  rcases turn i n σ3 H3 w3 with ⟨stop, qn⟩ | ⟨go, N, hN, step⟩
  · refine wpAny_passesOwn hp (thn (T.done X rfl rfl rfl hc i pins s3 σ3 H3 X.xe I3 (stat fr3) st3 stop) fun r s4 ⟨hr, I4⟩ => ?_)
    subst hr
    exact wpAny_execs_nil ⟨σ3, H3, I4, qn⟩
  · refine wpAny_passesOwn hp (thn (T.item X rfl rfl rfl hc i pins s3 σ3 H3 X.xe I3 (stat fr3) st3 go) fun r s4 ⟨u, hr, h4⟩ => ?_)
    subst hr
    refine wpAny_passesOwn hp (thn h4 fun _ s5 ⟨x, H5, I5, r5, y5, st5, fr5⟩ => ?_)
    have I5' := I5.pinned (stat fr5) (T.obj _ _ st5)
    refine wpAny_passesOwn hp (thn (hg _ s5 σ3 H5 x u _ I5' r5 (step x H5 y5)) fun _ s6 ⟨σ6, H6, I6, q6⟩ => ?_)
    refine wpAny_passesOwn hp (thn (hb _ s6 σ6 H6 _ I6 q6) fun f s7 q7 => ?_)
    have again : ∀ {σ7 : St} {H7 : Hp}, Inv X (pins ++ pinsAt fp s5.heap) σ7 H7 s7 → N σ7 H7 → ∃ m, m < n ∧ ∃ i σ' H', Inv X pins σ' H' s7 ∧ tn i s7.heap ∧ (∀ b ∈ fp, H' b = none) ∧ W i m σ' H' := fun {σ7 H7} I7 n7 => by
      obtain ⟨m', hm, w7⟩ := hN σ7 H7 n7
      refine ⟨m', hm, i + 1, σ7, H7, I7.unpinned, T.keep _ _ _ st5 fun b hb o e => (I7.pin (b, o) (List.mem_append_right _ (List.mem_append_right _ (mem_pinsAt hb e)))).1, fun b hb => ?_, w7⟩
      obtain ⟨o, e, d⟩ := T.obj _ _ st5 b hb
      exact (I7.pin (b, o) (List.mem_append_right _ (List.mem_append_right _ (mem_pinsAt hb e)))).2.1
    cases f with
    | next => obtain ⟨σ7, H7, I7, n7⟩ := q7; exact again I7 n7
    | cont => obtain ⟨σ7, H7, I7, n7⟩ := q7; exact again I7 n7
    | brk => obtain ⟨σ7, H7, I7, q7⟩ := q7; exact ⟨σ7, H7, I7.unpinned, q7⟩
    | ret v => obtain ⟨x7, σ7, H7, I7, r7, q7⟩ := q7; exact ⟨x7, σ7, H7, I7.unpinned, r7, q7⟩
end
end L2
namespace L2
open PySem PySem.Spec PyProof.Rows
abbrev R2 := V → V → Hp → VK → Prop
def OpR (X : Cx) (f : Value → Value → Sem Value) (r : R2) : Prop :=
  ∀ (pins : List (Addr × Obj)) (s : Shared) (σ : St) (H : Hp) (x y : V) (v u : Value) (Q : VK), Inv X pins σ H s → RelV x v → RelV y u → r x y H Q →
    wpAny (model X.prog X.w) X.A (f v u) (EP X pins σ Q) X.xe s
def UnR (X : Cx) (f : Value → Sem Value) (r : V → Hp → VK → Prop) : Prop :=
  ∀ (pins : List (Addr × Obj)) (s : Shared) (σ : St) (H : Hp) (x : V) (v : Value) (Q : VK), Inv X pins σ H s → RelV x v → r x H Q →
    wpAny (model X.prog X.w) X.A (f v) (EP X pins σ Q) X.xe s
def CallR (X : Cx) (f : Value) (r : List V → Hp → VK → Prop) : Prop :=
  ∀ (pins : List (Addr × Obj)) (s : Shared) (σ : St) (H : Hp) (xs : List V) (us : List Value) (Q : VK), Inv X pins σ H s → Vals xs us → r xs H Q →
    wpAny (model X.prog X.w) X.A (call f us) (EP X pins σ Q) X.xe s
def TruR (X : Cx) (r : V → Hp → (Bool → Hp → Prop) → Prop) : Prop :=
  ∀ (pins : List (Addr × Obj)) (s : Shared) (σ : St) (H : Hp) (x : V) (v : Value) (Q : Bool → Hp → Prop), Inv X pins σ H s → RelV x v → r x H Q →
    wpAny (model X.prog X.w) X.A (truthy v) (TP X pins σ Q) X.xe s
def tOp (r : R2) (ta tb : TE) : TE := fun σ H Q => ta σ H fun x H1 => tb σ H1 fun y H2 => r x y H2 Q
def tUn (r : V → Hp → VK → Prop) (ta : TE) : TE := fun σ H Q => ta σ H fun x H1 => r x H1 Q
def rI (C : Int → Int → Prop) (g : Int → Int → V) : R2 := fun x y H Q => ∃ i j, x = .int i ∧ y = .int j ∧ C i j ∧ Q (g i j) H
def rI0 (g : Int → Int → V) : R2 := fun x y H Q => ∃ i j, x = .int i ∧ y = .int j ∧ Q (g i j) H
def rU (g : Int → V) : V → Hp → VK → Prop := fun x H Q => ∃ i, x = .int i ∧ Q (g i) H
section
variable {X : Cx} {a b c : Expr} {ta tb tc : TE} {pos : Pos}
theorem binT (ha : PE X a ta) (hb : PE X b tb) {pins : List (Addr × Obj)} {s : Shared} {σ : St} {H : Hp} {R : V → V → Hp → Prop} (I : Inv X pins σ H s)
    (h : ta σ H fun x H1 => tb σ H1 fun y H2 => R x y H2) {Q : Value → Shared → Prop} {f : Value → Value → Sem Value}
    (hf : ∀ v u s2 x y H2, Inv X pins σ H2 s2 → RelV x v → RelV y u → R x y H2 → wpAny (model X.prog X.w) X.A (f v u) Q X.xe s2) :
    wpAny (model X.prog X.w) X.A (eval a X.env) (fun v s₁ => wpAny (model X.prog X.w) X.A (eval b X.env) (fun u s₂ => wpAny (model X.prog X.w) X.A (f v u) Q X.xe s₂) X.xe s₁) X.xe s := by
  refine thn (ha pins s σ H _ I h) fun v s1 ⟨x, H1, I1, r1, q1⟩ => ?_
  refine thn (hb pins s1 σ H1 _ I1 q1) fun u s2 ⟨y, H2, I2, r2, q2⟩ => ?_
  exact hf v u s2 x y H2 I2 r1 r2 q2
theorem pe_op {op : Operator} {r : R2} (ho : OpR X (binaryOp op) r) (ha : PE X a ta) (hb : PE X b tb) : PE X (.BinOp a op b pos) (tOp r ta tb) := by
  intro pins s σ H Q I h
  exact wpAny_BinOp (binT ha hb I h fun v u s2 x y H2 I2 rx ry q => ho pins s2 σ H2 x y v u Q I2 rx ry q)
theorem pe_un {op : UnaryOp} {r : V → Hp → VK → Prop} (ho : UnR X (unaryOp op) r) (ha : PE X a ta) : PE X (.UnaryOp op a pos) (tUn r ta) := by
  intro pins s σ H Q I h
  exact UnaryOp_ (thn (ha pins s σ H _ I h) fun v s1 ⟨x, H1, I1, r1, q1⟩ => ho pins s1 σ H1 x v Q I1 r1 q1)
theorem opI {f : Value → Value → Sem Value} {C : Int → Int → Prop} {g : Int → Int → Int}
    (rule : ∀ (i j : Int) (t u : Tok) (s : Shared) (Q : Value → Shared → Prop) (E : Value → Shared → Prop), C i j → Q (.int (g i j) s.toks) { s with toks := s.toks + 1 } → wpAny (model X.prog X.w) X.A (f (.int i t) (.int j u)) Q E s) :
    OpR X f (rI C fun i j => .int (g i j)) := by
  intro pins s σ H x y v u Q I rx ry h
  obtain ⟨i, j, rfl, rfl, hc, q⟩ := h
  obtain ⟨t, rfl⟩ := rx
  obtain ⟨t', rfl⟩ := ry
  exact rule i j t t' s _ _ hc ⟨.int (g i j), H, I.tok _, ⟨_, rfl⟩, q⟩
theorem opI0 {f : Value → Value → Sem Value} {g : Int → Int → Int}
    (rule : ∀ (i j : Int) (t u : Tok) (s : Shared) (Q : Value → Shared → Prop) (E : Value → Shared → Prop), Q (.int (g i j) s.toks) { s with toks := s.toks + 1 } → wpAny (model X.prog X.w) X.A (f (.int i t) (.int j u)) Q E s) :
    OpR X f (rI0 fun i j => .int (g i j)) := by
  intro pins s σ H x y v u Q I rx ry h
  obtain ⟨i, j, rfl, rfl, q⟩ := h
  obtain ⟨t, rfl⟩ := rx
  obtain ⟨t', rfl⟩ := ry
  exact rule i j t t' s _ _ ⟨.int (g i j), H, I.tok _, ⟨_, rfl⟩, q⟩
theorem opB0 {f : Value → Value → Sem Value} {g : Int → Int → Bool}
    (rule : ∀ (i j : Int) (t u : Tok) (s : Shared) (Q : Value → Shared → Prop) (E : Value → Shared → Prop), Q (.bool (g i j)) s → wpAny (model X.prog X.w) X.A (f (.int i t) (.int j u)) Q E s) :
    OpR X f (rI0 fun i j => .bl (g i j)) := by
  intro pins s σ H x y v u Q I rx ry h
  obtain ⟨i, j, rfl, rfl, q⟩ := h
  obtain ⟨t, rfl⟩ := rx
  obtain ⟨t', rfl⟩ := ry
  exact rule i j t t' s _ _ ⟨.bl (g i j), H, I, rfl, q⟩
def CDiv (i j : Int) : Prop := 0 < j ∧ j < 1073741824
def CPow (i j : Int) : Prop := 0 ≤ j ∧ j ≤ 1000000 ∧ i.natAbs < 2 ^ 64
def CMul (i j : Int) : Prop := (-(2 ^ 64) < i ∧ i < 2 ^ 64) ∨ (-(2 ^ 64) < j ∧ j < 2 ^ 64)
theorem CMul.ok {i j : Int} (h : CMul i j) : IntMulOk i j := by
  rcases h with ⟨h1, h2⟩ | ⟨h1, h2⟩
  · exact .of_left (intBits_le_64 h1 h2)
  · exact .of_right (intBits_le_64 h1 h2)
theorem op_add : OpR X (binaryOp .Add) (rI0 fun i j => .int (i + j)) := opI0 fun _ _ _ _ _ _ _ q => add_int q
theorem op_sub : OpR X (binaryOp .Sub) (rI0 fun i j => .int (i - j)) := opI0 fun _ _ _ _ _ _ _ q => sub_int q
theorem op_mul : OpR X (binaryOp .Mult) (rI CMul fun i j => .int (i * j)) := opI fun _ _ _ _ _ _ _ hc q => mul_int q hc.ok
theorem op_fdiv : OpR X (binaryOp .FloorDiv) (rI CDiv fun i j => .int (i / j)) := opI fun i j _ _ _ _ _ hc q => by
  have h1 : (0 : Int) < j := hc.1
  have h2 : j < 1073741824 := hc.2
  exact floordiv_int (by omega) (by rw [Int.fdiv_eq_ediv_of_nonneg i (by omega)]; exact q) (.inl (PyProof.noPylong_small (by omega)))
theorem op_mod : OpR X (binaryOp .Mod) (rI (fun _ j => 0 < j) fun i j => .int (i % j)) := opI fun i j _ _ _ _ _ hc q => by
  have h1 : (0 : Int) < j := hc
  exact mod_int' (by omega) (by rw [Int.fmod_eq_emod_of_nonneg i (by omega)]; exact q)
theorem op_pow : OpR X (binaryOp .Pow) (rI CPow fun i j => .int (i ^ j.toNat)) := opI fun _ _ _ _ _ _ _ hc q => pow_int_small hc.1 hc.2.1 hc.2.2 q
theorem unI {f : Value → Sem Value} {g : Int → Int}
    (rule : ∀ (i : Int) (t : Tok) (s : Shared) (Q : Value → Shared → Prop) (E : Value → Shared → Prop), Q (.int (g i) s.toks) { s with toks := s.toks + 1 } → wpAny (model X.prog X.w) X.A (f (.int i t)) Q E s) :
    UnR X f (rU fun i => .int (g i)) := by
  intro pins s σ H x v Q I rx h
  obtain ⟨i, rfl, q⟩ := h
  obtain ⟨t, rfl⟩ := rx
  exact rule i t s _ _ ⟨.int (g i), H, I.tok _, ⟨_, rfl⟩, q⟩
theorem un_neg : UnR X (unaryOp .USub) (rU fun i => .int (-i)) := unI fun _ _ _ _ _ q => neg_int q
end
section
variable {X : Cx} {a b c : Expr} {ta tb tc : TE} {pos : Pos}
theorem fin_bl {pins : List (Addr × Obj)} {σ : St} {H : Hp} {s : Shared} {Q : VK} {k k' : Bool} (I : Inv X pins σ H s) (q : Q (.bl k) H) (e : k = k') : EP X pins σ Q (.bool k') s := by
  subst e
  exact ⟨.bl k, H, I, rfl, q⟩
theorem op_lt : OpR X (compareOp .Lt) (rI0 fun i j => .bl (decide (i < j))) := opB0 fun _ _ _ _ _ _ _ q => lt_int q
theorem op_le : OpR X (compareOp .LtE) (rI0 fun i j => .bl (decide (i ≤ j))) := opB0 fun _ _ _ _ _ _ _ q => le_int q
theorem op_gt : OpR X (compareOp .Gt) (rI0 fun i j => .bl (decide (j < i))) := opB0 fun _ _ _ _ _ _ _ q => gt_int q
theorem op_ge : OpR X (compareOp .GtE) (rI0 fun i j => .bl (decide (j ≤ i))) := opB0 fun _ _ _ _ _ _ _ q => ge_int q
theorem op_in_str : OpR X (compareOp .In) (fun x y H Q => ∃ i j, x = .str i ∧ y = .str j ∧ Q (.bl (!(Builtin.Str.occurrences j i 0 j.length 1).isEmpty)) H) := by
  intro pins s σ H x y v u Q I rx ry h
  obtain ⟨i, j, rfl, rfl, q⟩ := h
  obtain ⟨t, rfl⟩ := rx
  obtain ⟨t', rfl⟩ := ry
  exact in_str (fin_bl I q rfl)
theorem op_isN : OpR X (compareOp .Is) (fun x y H Q => y = .non ∧ Q (.bl (decide (x = .non))) H) := by
  intro pins s σ H x y v u Q I rx ry h
  obtain ⟨rfl, q⟩ := h
  cases ry
  refine is_none_gen (fin_bl I q ?_)
  cases x <;> first
    | (cases rx; rfl)
    | (obtain ⟨t, rfl⟩ := rx; rfl)
theorem op_notN : OpR X (compareOp .IsNot) (fun x y H Q => y = .non ∧ Q (.bl (!decide (x = .non))) H) := by
  intro pins s σ H x y v u Q I rx ry h
  obtain ⟨rfl, q⟩ := h
  cases ry
  refine isnot_none_gen (fin_bl I q ?_)
  cases x <;> first
    | (cases rx; rfl)
    | (obtain ⟨t, rfl⟩ := rx; rfl)
theorem nomark (b : Expr) {op : CmpOp} (h : op ≠ .In := by decide) (h2 : op ≠ .NotIn := by decide) : behindInMarks op b = false := by
  have e1 : (op == CmpOp.In) = false := by cases op <;> first | rfl | exact absurd rfl h
  have e2 : (op == CmpOp.NotIn) = false := by cases op <;> first | rfl | exact absurd rfl h2
  cases b <;> simp [behindInMarks, e1, e2]
theorem pe_cmpR {op : CmpOp} {r : R2} (ho : OpR X (compareOp op) r) (ha : PE X a ta) (hb : PE X b tb) (hm : behindInMarks op b = false) : PE X (.Compare a [op] [b] pos) (tOp r ta tb) := by
  intro pins s σ H Q I h
  exact wpAny_Compare1 (binT ha hb I h fun v u s2 x y H2 I2 rx ry q => ho pins s2 σ H2 x y v u Q I2 rx ry q) hm
def tTest (t : TE) : TT := fun σ H Q => t σ H fun x H' => ∃ k, x = .bl k ∧ Q k H'
theorem pt_cmpR {op : CmpOp} {r : R2} (ho : OpR X (compareOp op) r) (ha : PE X a ta) (hb : PE X b tb) (hm : behindInMarks op b = false) : PT X (.Compare a [op] [b] pos) (tTest (tOp r ta tb)) := by
  intro pins s σ H Q I h
  refine wpAny_isTrue_Compare1 (thn (ha pins s σ H _ I h) fun v s1 ⟨x, H1, I1, r1, q1⟩ => thn (hb pins s1 σ H1 _ I1 q1) fun u s2 ⟨y, H2, I2, r2, q2⟩ =>
    thn (ho pins s2 σ H2 x y v u _ I2 r1 r2 q2) fun c s3 ⟨z, H3, I3, r3, k, e, q3⟩ => ?_) hm
  subst e
  cases r3
  exact wpAny_truthy_bool ⟨H3, I3, q3⟩
def tChain (r r' : R2) (ta tb tc : TE) : TE := fun σ H Q => ta σ H fun x H1 => tb σ H1 fun y H2 => r x y H2 fun z H3 => ∃ k, z = .bl k ∧
  (if k = true then tc σ H3 fun w' H4 => r' y w' H4 Q else Q (.bl false) H3)
theorem pe_chain {op op' : CmpOp} {r r' : R2} (ho : OpR X (compareOp op) r) (ho' : OpR X (compareOp op') r') (ha : PE X a ta) (hb : PE X b tb) (hc : PE X c tc)
    (hm : lastMarks [op, op'] [b, c] = false := by with_unfolding_all rfl) : PE X (.Compare a [op, op'] [b, c] pos) (tChain r r' ta tb tc) := by
  intro pins s σ H Q I h
  refine Compare_chain (thn (ha pins s σ H _ I h) fun v s1 ⟨x, H1, I1, r1, q1⟩ => chain_link (thn (hb pins s1 σ H1 _ I1 q1) fun u s2 ⟨y, H2, I2, r2, q2⟩ =>
    thn (ho pins s2 σ H2 x y v u _ I2 r1 r2 q2) fun d s3 ⟨z, H3, I3, r3, k, e, q3⟩ => ?_)) hm
  subst e
  cases r3
  refine wpAny_truthy_bool ?_
  cases k with
  | false => exact ite_ff ⟨.bl false, H3, I3, rfl, q3⟩
  | true => exact ite_tt (chain_last (thn (hc pins s3 σ H3 _ I3 q3) fun w' s4 ⟨z', H4, I4, r4, q4⟩ => ho' pins s4 σ H4 y z' u w' Q I4 r2 r4 q4))
theorem pt_chain {op op' : CmpOp} {r r' : R2} (ho : OpR X (compareOp op) r) (ho' : OpR X (compareOp op') r') (ha : PE X a ta) (hb : PE X b tb) (hc : PE X c tc)
    (hm : lastMarks [op, op'] [b, c] = false := by with_unfolding_all rfl) : PT X (.Compare a [op, op'] [b, c] pos) (tTest (tChain r r' ta tb tc)) := by
  intro pins s σ H Q I h
  refine isTrue_chain (thn (ha pins s σ H _ I h) fun v s1 ⟨x, H1, I1, r1, q1⟩ => test_link (thn (hb pins s1 σ H1 _ I1 q1) fun u s2 ⟨y, H2, I2, r2, q2⟩ =>
    thn (ho pins s2 σ H2 x y v u _ I2 r1 r2 q2) fun d s3 ⟨z, H3, I3, r3, k, e, q3⟩ => ?_)) hm
  subst e
  cases r3
  refine wpAny_truthy_bool ?_
  cases k with
  | false =>
    obtain ⟨k', e', q'⟩ := q3
    cases e'
    exact ite_ff ⟨H3, I3, q'⟩
  | true =>
    refine ite_tt (test_last (thn (hc pins s3 σ H3 _ I3 q3) fun w' s4 ⟨z', H4, I4, r4, q4⟩ => thn (ho' pins s4 σ H4 y z' u w' _ I4 r2 r4 q4) fun d' s5 ⟨z2, H5, I5, r5, k2, e2, q5⟩ => ?_))
    subst e2
    cases r5
    exact wpAny_truthy_bool ⟨H5, I5, q5⟩
def TruV (K : PySem.W.Frag) (x : V) (H : Hp) (k : Bool) : Prop :=
  match x with
  | .non => k = false
  | .bl b => k = b
  | .int i => k = (i != 0)
  | .str y => y.length ≤ sizeLine ∧ k = ((y.length : Int) != 0)
  | .byt y => y.size ≤ sizeLine ∧ k = ((y.size : Int) != 0)
  | .ref p => (∃ xs, SqL K H p xs ∧ k = !xs.isEmpty) ∨ (∃ xs, SqT K H p xs ∧ k = !xs.isEmpty) ∨ ∃ kvs, H p = some (.dK kvs) ∧ k = !kvs.isEmpty
  | _ => False
theorem isEmpty_kv {κ : Type} {kvs : List (κ × V)} {vs : List (κ × Value)} (r : KV kvs vs) : (!vs.isEmpty) = !kvs.isEmpty := by
  cases r <;> rfl
theorem isEmpty_of {xs : List V} {its : List Value} (r : Vals xs its) : (!its.toArray.isEmpty) = !xs.isEmpty := by
  cases r <;> simp
theorem line63 : (sizeLine : Nat) < 2 ^ 63 := by rw [sizeLine_eq]; decide
theorem tru_ok : TruR X (fun x H Q => ∃ k, TruV X.K x H k ∧ Q k H) := by
  intro pins s σ H x v Q I rx h
  obtain ⟨k, e, q⟩ := h
  have hl := line63
  have hs : sizeLine = 16777216 := sizeLine_eq
  cases x with
  | non =>
    cases rx
    have e' : k = false := e
    subst e'
    exact truthy_none ⟨H, I, q⟩
  | bl b =>
    cases rx
    have e' : k = b := e
    subst e'
    exact wpAny_truthy_bool ⟨H, I, q⟩
  | int i =>
    obtain ⟨t, rfl⟩ := rx
    have e' : k = (i != 0) := e
    subst e'
    exact PySem.P.truthy_int ⟨H, I, q⟩
  | str y =>
    obtain ⟨t, rfl⟩ := rx
    obtain ⟨hy, e'⟩ : y.length ≤ sizeLine ∧ k = ((y.length : Int) != 0) := e
    subst e'
    exact PySem.P.truthy_str (by omega) ⟨H, I.tok _, q⟩
  | byt y =>
    obtain ⟨t, rfl⟩ := rx
    obtain ⟨hy, e'⟩ : y.size ≤ sizeLine ∧ k = ((y.size : Int) != 0) := e
    subst e'
    exact PySem.W.truthy_bytes (by omega) ⟨H, I.tok _, q⟩
  | ref p =>
    cases rx
    have e' : (∃ xs, SqL X.K H p xs ∧ k = !xs.isEmpty) ∨ (∃ xs, SqT X.K H p xs ∧ k = !xs.isEmpty) ∨ ∃ kvs, H p = some (.dK kvs) ∧ k = !kvs.isEmpty := e
    rcases e' with ⟨xs, hx, e'⟩ | ⟨xs, hx, e'⟩ | ⟨kvs, hx, e'⟩
    · subst e'
      obtain ⟨its, r, pl, hz⟩ := I.list hx
      have hlen := r.length
      exact wpAny_truthy_list pl.isList (by simp only [List.size_toArray]; omega) ⟨H, I.tok _, by rw [isEmpty_of r]; exact q⟩
    · subst e'
      obtain ⟨its, r, pl, hz⟩ := I.tuple hx
      have hlen := r.length
      exact truthy_tuple pl (by simp only [List.size_toArray]; omega) ⟨H, I.tok _, by rw [isEmpty_of r]; exact q⟩
    · subst e'
      obtain ⟨hz, hS, vs, r, m⟩ : kvs.length ≤ sizeLine ∧ (p == sysModules) = false ∧ ∃ vs, KV kvs vs ∧ s.heap.DictOf (mixKind X.prog X.w) p vs := I.hok p _ hx
      have hlen : kvs.length = vs.length := Paired.length r
      exact wpAny_truthy_dict hS m (by omega) ⟨H, I.tok _, by rw [isEmpty_kv r]; exact q⟩
  | _ => exact (show False from e).elim
theorem pt_truth (ha : PE X a ta) (he : ∀ whole, isTrue a X.env whole = (do let v ← whole; standAt a.pos; holding [v] (truthy v))) :
    PT X a (fun σ H Q => ta σ H fun x H' => ∃ k, TruV X.K x H' k ∧ Q k H') := by
  intro pins s σ H Q I h
  exact isTrue_plain (thn (ha pins s σ H _ I h) fun v s1 ⟨x, H1, I1, r1, q1⟩ => tru_ok pins s1 σ H1 x v Q I1 r1 q1) (he _)
theorem op_add_str : OpR X (binaryOp .Add) (fun x y H Q => ∃ i j, x = .str i ∧ y = .str j ∧ i.length + j.length ≤ sizeLine ∧ Q (.str (i ++ j)) H) := by
  intro pins s σ H x y v u Q I rx ry h
  obtain ⟨i, j, rfl, rfl, hz, q⟩ := h
  obtain ⟨t, rfl⟩ := rx
  obtain ⟨t', rfl⟩ := ry
  exact add_str (fun t' tk => ⟨.str (i ++ j), H, I.tok _, ⟨_, rfl⟩, q⟩) hz
theorem vals1 {x : V} {us : List Value} (r : Vals [x] us) : ∃ u, us = [u] ∧ RelV x u := by
  cases r with
  | cons r1 r2 => cases r2; exact ⟨_, rfl, r1⟩
theorem vals2 {x y : V} {us : List Value} (r : Vals [x, y] us) : ∃ u w', us = [u, w'] ∧ RelV x u ∧ RelV y w' := by
  cases r with
  | cons r1 r2 =>
    cases r2 with
    | cons r3 r4 => cases r4; exact ⟨_, _, rfl, r1, r3⟩
theorem call_str_int : CallR X (.type "str") (fun xs H Q => ∃ i, xs = [.int i] ∧ i.natAbs.log2 < 1920 ∧ Q (.str (toString i)) H) := by
  intro pins s σ H xs us Q I r h
  obtain ⟨i, rfl, hz, q⟩ := h
  obtain ⟨u, rfl, t, rfl⟩ := vals1 r
  exact PySem.P.str_of_int hz ⟨.str _, H, I.tok _, ⟨_, rfl⟩, q⟩
theorem call_ord : CallR X (.builtin "ord") (fun xs H Q => ∃ x, xs = [.str x] ∧ x.length = 1 ∧ Q (.int (x.cps.getD 0 0 : Nat)) H) := by
  intro pins s σ H xs us Q I r h
  obtain ⟨x, rfl, hz, q⟩ := h
  obtain ⟨u, rfl, t, rfl⟩ := vals1 r
  exact ord_of_one hz ⟨.int _, H, I.tok _, ⟨_, rfl⟩, q⟩
end
end L2
namespace L2
open PySem PySem.Spec PyProof.Rows
structure ObjM (h : Heap) (x dx C : Addr) (mA : Str → Option Value) : Prop where
  obj : h.get? x = some (PySem.W.instObj C dx)
  ns : h.Ns1 dx mA
  ne : dx ≠ x
section
variable {prog : Program} {w : World} {A : Around} {E : Value → Shared → Prop} {s : Shared} {K : PySem.W.Frag} {x dx C f : Addr} {mA : Str → Option Value} {name : Str} {v : Value}
end
theorem RelO.some_of {v : V} {o : Option Value} (r : RelO (some v) o) : ∃ u, o = some u ∧ RelV v u := by
  cases o with
  | none => exact (show False from r).elim
  | some u => exact ⟨u, rfl, r⟩
section
variable {P : Program} {w : World} {H H' : Hp} {h h' : Heap} {a C dx : Addr} {fs fs' : List (Str × V)}
end
structure Cls (K : PySem.W.Frag) (C : Addr) : Prop where
  pg : PySem.W.plainGet K C Str.empty = true
  hd : PySem.W.hasDictIn K C = true
  po : PySem.W.plainOver K C = true
  sa : PySem.W.findIn K (.ref C) "__setattr__" = some (some (.builtin "object.__setattr__"))
theorem Cls.get {K : PySem.W.Frag} {C : Addr} (c : Cls K C) (f : Str) : PySem.W.plainGet K C f = true := c.pg
structure Con (K : PySem.W.Frag) (C : Addr) (f : Str) (v : V) (u : Value) : Prop where
  at_ : PySem.W.findIn K (.ref C) f = some (some u)
  rel : RelV v u
  get : PySem.W.specialIn K u "__get__" = some none
  cp : PySem.W.copiedNames.contains f = false
structure Meth (K : PySem.W.Frag) (C : Addr) (m : Str) (f : Addr) : Prop where
  at_ : PySem.W.findIn K (.ref C) m = some (some (.ref f))
  fn : PySem.W.isFn K (.ref f) = true
  kp : PySem.W.keepIn K (.ref f) = true
section
variable {X : Cx} {pins : List (Addr × Obj)} {σ : St} {H : Hp} {s : Shared} {a C dx : Addr} {fs : List (Str × V)} {f : Str} {v : V} {A : Around} {E : Value → Shared → Prop}
end
section
variable {X : Cx} {o e value : Expr} {f : Str} {pos pos' tpos : Pos} {ta tv : TE}
end
section
variable {X : Cx} {pins : List (Addr × Obj)} {σ : St} {H : Hp} {s : Shared} {A : Around} {E : Value → Shared → Prop} {Q : Value → Shared → Prop} {c : Value} {b : Bool}
inductive TyOf (K : PySem.W.Frag) (H : Hp) : V → Value → Prop where
  | non : TyOf K H .non (.type "NoneType")
  | bl (x : Bool) : TyOf K H (.bl x) (.type "bool")
  | int (i : Int) : TyOf K H (.int i) (.type "int")
  | str (x : Str) : TyOf K H (.str x) (.type "str")
  | flt (x : UInt64) : TyOf K H (.flt x) (.type "float")
  | lst {a : Addr} {xs : List V} (e : H a = some (.lst xs)) : TyOf K H (.ref a) (.type "list")
  | frz {a : Addr} {o : Obj} {xs : List V} (e : H a = some (.frz o (.lst xs))) : TyOf K H (.ref a) (.type "list")
  | tup {a : Addr} {xs : List V} (e : H a = some (.tup xs)) : TyOf K H (.ref a) (.type "tuple")
  | dK {a : Addr} {kvs : List (Key × V)} (e : H a = some (.dK kvs)) : TyOf K H (.ref a) (.type "dict")
  | dT {a : Addr} {kvs : List (List Key × V)} (e : H a = some (.dT kvs)) : TyOf K H (.ref a) (.type "dict")
  | ins {a C dx : Addr} {fs : List (Str × V)} (e : H a = some (.ins C dx fs)) (cl : Cls K C) (ha : PySem.W.findIn K (.ref C) "__class__" = some (some (.builtin "object.__class__")))
      (hn : PySem.W.specialIn K (.builtin "object.__class__") "__get__" = some (some (.builtin "getset_descriptor.__get__"))) (htk : PySem.W.takesIn K (.builtin "object.__class__") = some true)
      (hm : PySem.W.mroIn K C (.type "object") = some true) : TyOf K H (.ref a) (.ref C)
end
end L2
namespace L2
open PySem PySem.Spec PyProof.Rows
structure Room (k : Nat) (A : Around) : Prop where
  hd : A.handled = none
  dp : A.depth + 3 * k + 5 < recursionLimit
  un : A.units + 16 * k + 200 < cLine
theorem Room.mono {j k : Nat} {A : Around} (r : Room k A) (h : j ≤ k) : Room j A := ⟨r.hd, by have := r.dp; omega, by have := r.un; omega⟩
theorem Room.deeper {k : Nat} {A : Around} (r : Room (k + 1) A) (env : Env) : Room k (A.deeper env) :=
  ⟨r.hd, by have := r.dp; show A.depth + 1 + 3 * k + 5 < _; omega, by have := r.un; show A.units + 3 + 16 * k + 200 < _; omega⟩
theorem Room.in1 {k : Nat} {A : Around} (r : Room (k + 1) A) : Room k A.in1 :=
  ⟨r.hd, by have := r.dp; show A.depth + 3 * k + 5 < _; omega, by have := r.un; show A.units + 1 + 16 * k + 200 < _; omega⟩
theorem Room.depth {k : Nat} {A : Around} (r : Room k A) : A.depth < recursionLimit := by have := r.dp; omega
theorem Room.units {k : Nat} {A : Around} (r : Room k A) : A.units + 64 < cLine := by have := r.un; omega
def tNil : TA := fun _ H Q => Q [] H
def tCons (ta : TE) (tr : TA) : TA := fun σ H Q => ta σ H fun x H1 => tr σ H1 fun xs H2 => Q (x :: xs) H2
section
variable {X : Cx} {e : Expr} {es : List Expr} {te : TE} {t : TA} {pos : Pos}
theorem pa_nil : PA X [] tNil := fun _ _ _ _ H Q I h => Calls.spliced_nil ⟨[], H, I, .nil, h⟩
theorem pa_cons (ha : PE X e te) (hr : PA X es t) (hs : starEach (e :: es) X.env = (false, eval e X.env) :: starEach es X.env := by rfl) : PA X (e :: es) (tCons te t) := by
  intro pos pins s σ H Q I h
  rw [hs]
  show wpAny _ _ (spliced ((false, eval e X.env) :: backTo pos (starEach es X.env))) _ _ s
  refine Calls.spliced_cons (thn (ha pins s σ H _ I h) fun u s1 ⟨x, H1, I1, r1, q1⟩ => ?_)
  exact thn (hr pos pins s1 σ H1 _ I1 q1) fun us s2 ⟨xs, H2, I2, r2, q2⟩ => ⟨x :: xs, H2, I2, .cons r1 r2, q2⟩
def tTup (t : TA) : TE := fun σ H Q => t σ H fun xs H1 => xs.length ≤ sizeLine ∧ ∀ p, H1 p = none → Q (.ref p) (upd H1 p (.tup xs))
def tLst (t : TA) : TE := fun σ H Q => t σ H fun xs H1 => xs.length ≤ sizeLine ∧ ∀ p, H1 p = none → Q (.ref p) (upd H1 p (.lst xs))
theorem pe_tup {x1} (h : PA X es t) : PE X (.Tuple es x1 pos) (tTup t) := by
  intro pins s σ H Q I hq
  refine wpAny_Tuple_spliced (thn (h pos pins s σ H _ I hq) fun us s1 ⟨xs, H1, I1, r, z, q⟩ => ⟨by rw [← r.length]; exact z, ?_⟩)
  have hf : H1 s1.heap.objs.size = none := I1.hok.fresh (Nat.le_refl _)
  refine ⟨.ref s1.heap.objs.size, upd H1 s1.heap.objs.size (.tup xs), I1.laid (t' := s1.toks) (fun b u e => Heap.get?_push_of_some _ e) (Nat.le_refl _) ?_, rfl, q _ hf⟩
  exact ⟨z, us, r, ⟨_, Heap.get?_push_size _ rfl, rfl, _, rfl⟩⟩
theorem pe_lst (h : PA X es t) : PE X (.List es pos) (tLst t) := by
  intro pins s σ H Q I hq
  refine wpAny_List_spliced (thn (h pos pins s σ H _ I hq) fun us s1 ⟨xs, H1, I1, r, z, q⟩ => ⟨by rw [← r.length]; exact z, ?_⟩)
  have hf : H1 s1.heap.objs.size = none := I1.hok.fresh (Nat.le_refl _)
  refine ⟨.ref s1.heap.objs.size, upd H1 s1.heap.objs.size (.lst xs), I1.laid (t' := s1.toks) (fun b u e => Heap.get?_push_of_some _ e) (Nat.le_refl _) ?_, rfl, q _ hf⟩
  exact ⟨z, us, 0, r, Heap.get?_push_size _ rfl⟩
end
abbrev Sp := List V → Hp → VK → XK → Prop
abbrev CXT := List Env → Hp → Shared → XK → Value → Shared → Prop
structure Env0 (P : Program) (w : World) (K : PySem.W.Frag) (mg : Str → Option Value) (base : Heap) (A : Around) (outer : List Env) (s : Shared) (H : Hp) : Prop where
  frames : A.frames = some outer
  mod : Mod K mg base
  bs : ∀ b o, base.get? b = some o → s.heap.get? b = some o ∧ H b = none
  bsz : base.objs.size ≤ s.heap.objs.size
  funs : s.heap.FunFrames base outer
  frf : ∀ b ∈ frs outer, H b = none
  hok : HOk P w H s.heap
  bare : AllBare s.gens
def CE (outer : List Env) (P : Program) (w : World) (H : Hp) (s : Shared) (Q : VK) (u : Value) (s' : Shared) : Prop :=
  ∃ v H', s'.os = s.os ∧ AllBare s'.gens ∧ Un (frs outer) [] H H' s.heap s'.heap ∧ HOk P w H' s'.heap ∧ RelV v u ∧ Q v H'
def CR (CX : CXT) (outer : List Env) (P : Program) (w : World) (H : Hp) (s : Shared) (Q : VK) (E : XK) (r : Result) (s' : Shared) : Prop :=
  match r with
  | .ok (.ret u) => CE outer P w H s Q u s'
  | .ok _ => False
  | .error e => CX outer H s E e s'
structure FnOk (P : Program) (w : World) (K : PySem.W.Frag) (mg : Str → Option Value) (base : Heap) (CX : CXT) (k : Nat) (f : Addr) (fd : FuncData) (ps : List Str) (sp : Sp) : Prop where
  len : ∀ vs H Q E, sp vs H Q E → vs.length = ps.length
  run : ∀ (A : Around) (outer : List Env) (s : Shared) (H : Hp) (args : Args) (us : List Value) (vs : List V) (Q : VK) (E : XK), Room k A → Env0 P w K mg base A outer s H → BindsTo s fd args (ps.zip us) → Vals vs us → sp vs H Q E →
    codeAny (model P w) A (.call (.ref f) args) (CR CX outer P w H s Q E) s
theorem FnOk.mono {P : Program} {w : World} {K : PySem.W.Frag} {mg : Str → Option Value} {base : Heap} {CX : CXT} {j k : Nat} {f : Addr} {fd : FuncData} {ps : List Str} {sp : Sp} (F : FnOk P w K mg base CX j f fd ps sp) (h : j ≤ k) :
    FnOk P w K mg base CX k f fd ps sp := ⟨F.len, fun A outer s H args us vs Q E hr => F.run A outer s H args us vs Q E (hr.mono h)⟩
theorem FnOk.imp {P : Program} {w : World} {K : PySem.W.Frag} {mg : Str → Option Value} {base : Heap} {CX : CXT} {k : Nat} {f : Addr} {fd : FuncData} {ps : List Str} {sp sp' : Sp} (F : FnOk P w K mg base CX k f fd ps sp)
    (h : ∀ vs H Q E, sp' vs H Q E → sp vs H Q E) : FnOk P w K mg base CX k f fd ps sp' :=
  ⟨fun vs H Q E q => F.len vs H Q E (h _ _ _ _ q), fun A outer s H args us vs Q E hr he hb hv hs => F.run A outer s H args us vs Q E hr he hb hv (h _ _ _ _ hs)⟩
theorem Env0.in1 {P : Program} {w : World} {K : PySem.W.Frag} {mg : Str → Option Value} {base : Heap} {A : Around} {outer : List Env} {s : Shared} {H : Hp} (e : Env0 P w K mg base A outer s H) :
    Env0 P w K mg base A.in1 outer s H := ⟨e.frames, e.mod, e.bs, e.bsz, e.funs, e.frf, e.hok, e.bare⟩
section
variable {X : Cx} {pins : List (Addr × Obj)} {σ : St} {H : Hp} {s s' : Shared}
theorem Inv.env0 (I : Inv X pins σ H s) : Env0 X.prog X.w X.K X.mg X.base X.A X.stack s H :=
  ⟨I.ok.frames, I.ok.mod, I.bs, Nat.le_trans I.ok.bsz I.sz, I.stack, I.stkFree, I.hok, I.bare⟩
theorem Inv.after {Q : VK} {u : Value} (I : Inv X pins σ H s) (h : CE X.stack X.prog X.w H s Q u s') : EP X pins σ Q u s' := by
  obtain ⟨v, H', os, bare, un, hok, r, q⟩ := h
  obtain ⟨hh, g, d, t, os'⟩ := s'
  obtain rfl : os' = s.os := os
  exact ⟨v, H', I.call (h' := hh) (g' := g) (d' := d) (t' := t) (ch := []) un hok bare (fun b z => absurd z (by simp)), r, q⟩
end
def tCall (sp : Sp) (dvs : List V) (E : XK) (t : TA) : TE := fun σ H Q => t σ H fun vs H1 => sp (vs ++ dvs) H1 Q E
def Binds (K : PySem.W.Frag) (fd : FuncData) (ps : List Str) (ds : List Value) : Prop :=
  ∀ (s : Shared) (us : List Value), K.In s.heap → (us ++ ds).length = ps.length → BindsTo s fd ⟨us, []⟩ (ps.zip (us ++ ds))
theorem Binds.all {K : PySem.W.Frag} {fd : FuncData} {ps : List Str} (h : ∀ us : List Value, us.length = ps.length → bindArgs fd ⟨us, []⟩ = pure (ps.zip us)) : Binds K fd ps [] := fun s us _ hl => by
  rw [List.append_nil] at hl ⊢
  exact .of_eq (h us hl)
def Passes (CX : CXT) (X : Cx) (E : XK) : Prop := ∀ (pins : List (Addr × Obj)) (σ : St) (H : Hp) (s : Shared) (e : Value) (s' : Shared), Inv X pins σ H s → CX X.stack H s E e s' → X.xe e s'
section
variable {X : Cx} {CX : CXT} {k : Nat} {f C : Addr} {fd : FuncData} {ps : List Str} {sp : Sp} {dvs : List V} {ds : List Value} {E : XK} {x m : Str} {p pos apos : Pos} {e o : Expr} {es : List Expr} {ta : TE} {t : TA}
theorem run_fn {pins : List (Addr × Obj)} {σ : St} {H : Hp} {s : Shared} {Q : VK} {us : List Value} {vs : List V} (F : FnOk X.prog X.w X.K X.mg X.base CX k f fd ps sp) (hr : Room k X.A) (hb : Binds X.K fd ps ds) (hd : Vals dvs ds) (hx : Passes CX X E)
    (I : Inv X pins σ H s) (r : Vals vs us) (h : sp (vs ++ dvs) H Q E) : wpAny (model X.prog X.w) X.A (call (.ref f) us) (EP X pins σ Q) X.xe s := by
  have r2 : Vals (vs ++ dvs) (us ++ ds) := r.append hd
  have hl : (us ++ ds).length = ps.length := by rw [← r2.length]; exact F.len _ _ _ _ h
  refine wpAny_call (codeAny_mono (F.run X.A X.stack s H ⟨us, []⟩ (us ++ ds) (vs ++ dvs) Q E hr I.env0 (hb s us I.kIn hl) r2 h) fun r s' hq => ?_)
  cases r with
  | error e => exact hx pins σ H s e s' I hq
  | ok fl =>
    cases fl with
    | ret u => exact I.after hq
    | next => exact False.elim hq
    | brk => exact False.elim hq
    | cont => exact False.elim hq
theorem pe_call (F : FnOk X.prog X.w X.K X.mg X.base CX k f fd ps sp) (hr : Room k X.A) (hg : Gl X x) (hm : X.mg x = some (.ref f)) (hk : PySem.W.keepIn X.K (.ref f) = true) (hb : Binds X.K fd ps ds) (hd : Vals dvs ds) (hx : Passes CX X E)
    (ha : PA X (e :: es) t) (hdb : (x == ("__debug__" : Str)) = false := by decide) (he : starEach (e :: es) X.env = (false, eval e X.env) :: starEach es X.env := by rfl) (hpl : (backTo pos (starEach es X.env)).any (·.1) = false := by rfl) :
    PE X (.Call (.Name x p) (e :: es) [] pos) (tCall sp dvs E t) := by
  intro pins s σ H Q I h
  refine wpAny_Call_Name_kw (ld_glob I hg hm ?_ hdb)
  refine PySem.W.callWith_K (h₀ := X.base) I.ok.mod.kin hk (thn (ha pos pins s σ H _ I h) fun us s1 ⟨vs, H1, I1, r, q⟩ => ⟨I1.kIn, ?_⟩) he hpl
  exact run_fn F hr hb hd hx I1 r q
structure Mk (K : PySem.W.Frag) (C f : Addr) : Prop where
  makes : PySem.W.makesIn K C = true
  init : PySem.W.findIn K (.ref C) "__init__" = some (some (.ref f))
  fn : PySem.W.isFn K (.ref f) = true
  kp : PySem.W.keepIn K (.ref C) = true
end
section
variable {X : Cx} {CX : CXT} {k : Nat} {f C : Addr} {fd : FuncData} {ps ks : List Str} {sp : Sp} {E : XK} {x m : Str} {p pos apos kpos : Pos} {e o : Expr} {es : List Expr} {kws : List Keyword} {te ta : TE} {t tk : TA} {nm : Option Str}
structure KBinds (K : PySem.W.Frag) (fd : FuncData) (ps ks : List Str) (g : List Value → List Value → List Value) (gV : List V → List V → List V) : Prop where
  to : ∀ (s : Shared) (us ws : List Value), K.In s.heap → (g us ws).length = ps.length → BindsTo s fd ⟨us, ks.zip ws⟩ (ps.zip (g us ws))
  rel : ∀ {vs : List V} {us : List Value} {zs : List V} {ws : List Value}, Vals vs us → Vals zs ws → Vals (gV vs zs) (g us ws)
variable {g : List Value → List Value → List Value} {gV : List V → List V → List V}
end
structure FnScope (N P : List Str) (sc : Scope) : Prop where
  kind : sc.kind = .function
  co : sc.isCoroutine = false
  gen : sc.isGenerator = false
  nd : N.Nodup
  pre : N.take P.length = P
  par : ∀ x ∈ P, sc.names.lookup x = some .local ∨ sc.names.lookup x = some .cell
  nofree : ∀ y ∈ sc.names, y.2 ≠ .free
theorem bindL_out {kindOf : Str → Option NameKind} {x : Str} : ∀ {binds : List (Str × Value)} {m : Str → Option Value}, (∀ v, (x, v) ∉ binds) → bindL kindOf binds m x = m x
  | [], _, _ => rfl
  | (n, v) :: r, m, h => by
    unfold bindL
    rw [bindL_out fun w hw => h w (List.mem_cons_of_mem _ hw)]
    split
    · have : x ≠ n := by rintro rfl; exact h v List.mem_cons_self
      simp [this]
    · rfl
theorem bindC_out {kindOf : Str → Option NameKind} {x : Str} : ∀ {binds : List (Str × Value)} {m : Str → Option Value}, (∀ v, (x, v) ∉ binds) → bindC kindOf binds m x = m x
  | [], _, _ => rfl
  | (n, v) :: r, m, h => by
    unfold bindC
    rw [bindC_out fun w hw => h w (List.mem_cons_of_mem _ hw)]
    split
    · rfl
    · have : x ≠ n := by rintro rfl; exact h v List.mem_cons_self
      simp [this]
theorem bindL_get {kindOf : Str → Option NameKind} {x : Str} {v : Value} : ∀ {P : List Str} {vs : List Value} {i : Nat} {m : Str → Option Value}, P.Nodup → P[i]? = some x → vs[i]? = some v → kindOf x = some .local →
    bindL kindOf (P.zip vs) m x = some v
  | [], _, _, _, _, h, _, _ => by simp at h
  | _ :: _, [], _, _, _, _, h, _ => by simp at h
  | p :: P, w :: vs, 0, m, nd, h1, h2, hk => by
    simp at h1 h2; subst h1; subst h2
    show bindL kindOf ((p, w) :: P.zip vs) m p = _
    unfold bindL
    rw [bindL_out fun v hv => (List.nodup_cons.mp nd).1 (List.of_mem_zip hv).1, if_pos hk]
    simp
  | p :: P, w :: vs, i + 1, m, nd, h1, h2, hk => by
    show bindL kindOf ((p, w) :: P.zip vs) m x = _
    unfold bindL
    exact bindL_get (i := i) (List.nodup_cons.mp nd).2 (by simpa using h1) (by simpa using h2) hk
theorem bindC_get {kindOf : Str → Option NameKind} {x : Str} {v : Value} : ∀ {P : List Str} {vs : List Value} {i : Nat} {m : Str → Option Value}, P.Nodup → P[i]? = some x → vs[i]? = some v → kindOf x ≠ some .local →
    bindC kindOf (P.zip vs) m x = some v
  | [], _, _, _, _, h, _, _ => by simp at h
  | _ :: _, [], _, _, _, _, h, _ => by simp at h
  | p :: P, w :: vs, 0, m, nd, h1, h2, hk => by
    simp at h1 h2; subst h1; subst h2
    show bindC kindOf ((p, w) :: P.zip vs) m p = _
    unfold bindC
    rw [bindC_out fun v hv => (List.nodup_cons.mp nd).1 (List.of_mem_zip hv).1, if_neg hk]
    simp
  | p :: P, w :: vs, i + 1, m, nd, h1, h2, hk => by
    show bindC kindOf ((p, w) :: P.zip vs) m x = _
    unfold bindC
    exact bindC_get (i := i) (List.nodup_cons.mp nd).2 (by simpa using h1) (by simpa using h2) hk
def start (N : List Str) (vs : List V) : St := vs.map some ++ List.replicate (N.length - vs.length) none
def cxOf (CX : CXT) (P : Program) (w : World) (K : PySem.W.Frag) (mg : Str → Option Value) (base : Heap) (N : List Str) (qual : Str) (scope : Scope) (f : Addr) (cd : Value) (A : Around) (outer : List Env) (s : Shared) (H : Hp) (E : XK) : Cx where
  prog := P
  w := w
  K := K
  mg := mg
  base := base
  A := A.deeper (envOfC qual scope s.heap.objs.size f cd)
  N := N
  s₀ := s
  H₀ := H
  env := envOfC qual scope s.heap.objs.size f cd
  outer := outer
  stack := envOfC qual scope s.heap.objs.size f cd :: outer
  ex := []
  calm := true
  fn := fun _ => true
  pn := []
  xe := fun e s' => wpAny (model P w) (A.deeper (envOfC qual scope s.heap.objs.size f cd)) (leaving (envOfC qual scope s.heap.objs.size f cd) e) (fun _ s'' => CX outer H s E e s'') (fun e' s'' => CX outer H s E e' s'') s'
theorem cell_has {sc : Scope} {n : Nat} {x : Str} (h : sc.names.lookup x = some .cell) : ∃ c, (cellsFrom n sc.names []).lookup x = some c := by
  have q := PySem.W.cellsFrom_some sc.names n [] (.inl h)
  exact Option.isSome_iff_exists.mp q
theorem inv_start {CX : CXT} {P : Program} {w : World} {K : PySem.W.Frag} {mg : Str → Option Value} {base : Heap} {N ps : List Str} {qual : Str} {scope : Scope} {f : Addr} {cd : Value} {A : Around} {outer : List Env} {s s1 : Shared} {H : Hp} {E : XK} {us : List Value} {vs : List V}
    (S : FnScope N ps scope) (hd : A.handled = none) (e0 : Env0 P w K mg base A outer s H) (hl : vs.length = ps.length) (r : Vals vs us)
    (x : InCallC s s.heap.objs.size (bindL (envOfC qual scope s.heap.objs.size f cd).kindOf (ps.zip us) fun _ => none) (cellsFrom (s.heap.objs.size + 1) scope.names []) (bindC (envOfC qual scope s.heap.objs.size f cd).kindOf (ps.zip us) fun _ => none) s1) :
    Inv (cxOf CX P w K mg base N qual scope f cd A outer s H E) [] (start N vs) H s1 := by
  have hpl : ps.length ≤ N.length := by have := congrArg List.length S.pre; rw [List.length_take] at this; omega
  obtain ⟨h1, tk, rfl, hk⟩ := x.done
  have noA : ∀ b : Addr, b ∉ (cxOf CX P w K mg base N qual scope f cd A outer s H E).ex := fun b z => absurd (show b ∈ ([] : List Addr) from z) (by simp)
  refine ⟨⟨e0.mod, S.kind, rfl, rfl, Nat.le_refl _, fun y z c h1 h2 => ?_, fun y hy => ?_, fun y c _ h => ?_, fun _ => hd, Around.frames_deeper e0.frames, .inr ⟨rfl, rfl⟩, fun b z => absurd z (noA b), e0.bs, e0.bsz, fun b _ _ => noA b, fun b z => absurd z (noA b), e0.funs, e0.frf⟩,
    rfl, e0.bare, Un.kept hk, ⟨_, x.toInCall.ns, fun i y v h1 h2 h3 => ?_⟩, fun y c h => ⟨_, x.cell y c h⟩, e0.hok.fresh (Nat.le_refl _), fun y c h => ?_, fun p hp => absurd (show p ∈ ([] : List (Addr × Obj)) from hp) (by simp), e0.hok.kept hk, ?_⟩
  · exact name_of_addr x.apart (PySem.mem_of_lookup h1) (PySem.mem_of_lookup h2)
  · have hy : scope.names.lookup y = some .cell ∨ scope.names.lookup y = some .free := hy
    rcases hy with hy | hy
    · exact cell_has hy
    · exact absurd rfl (S.nofree _ (PySem.mem_of_lookup hy))
  · exact Nat.le_of_lt (x.above y c (PySem.mem_of_lookup h))
  · have hi : i < vs.length := by
      unfold start at h2
      by_cases hi : i < vs.length
      · exact hi
      · rw [List.getElem?_append_right (by simpa using hi)] at h2
        rw [List.getElem?_replicate] at h2
        split at h2 <;> cases h2
    have ha : vs[i]? = some v := by
      unfold start at h2
      rw [List.getElem?_append_left (by simpa using hi), List.getElem?_map] at h2
      cases e : vs[i]? with
      | none => rw [e] at h2; cases h2
      | some a => rw [e] at h2; cases h2; rfl
    obtain ⟨u, hu, rv⟩ := r.get ha
    have hp : ps[i]? = some y := by
      rw [← S.pre, List.getElem?_take_of_lt (by omega)]; exact h1
    have ndP : ps.Nodup := by rw [← S.pre]; exact S.nd.sublist (List.take_sublist _ _)
    refine ⟨u, rv, ?_⟩
    rcases S.par y (List.mem_of_getElem? hp) with k | k
    · exact .inl ⟨k, bindL_get ndP hp hu k⟩
    · obtain ⟨c, e⟩ := cell_has (n := s.heap.objs.size + 1) k
      refine .inr ⟨.inl k, c, e, ?_⟩
      have q := x.cell y c e
      rw [bindC_get ndP hp hu (by show scope.names.lookup y ≠ _; rw [k]; decide)] at q
      exact q
  · exact e0.hok.fresh (Nat.le_of_lt (x.above y c (PySem.mem_of_lookup h)))
  · unfold start
    show _ = N.length
    rw [List.length_append, List.length_map, List.length_replicate]
    omega
theorem fn_of {CX : CXT} {P : Program} {w : World} {K : PySem.W.Frag} {mg : Str → Option Value} {base : Heap} {k : Nat} {f : Addr} {name qual : Str} {params : Arguments} {body : List Stmt} {scope : Scope} {dV kV doc pm cdv ct oc : Value} {an od : Option Addr}
    {osl : Array (Option Value)} {N ps : List Str} {sp : Sp} (lk : K.lookup f = some ⟨oc, od, .func (PySem.W.fnOf name qual params body scope dV kV doc pm an cdv ct), osl⟩) (hcd : PySem.W.codeIn K cdv qual = true) (S : FnScope N ps scope)
    (len : ∀ vs H Q E, sp vs H Q E → vs.length = ps.length)
    (hbody : ∀ (A : Around) (outer : List Env) (s : Shared) (H : Hp) (vs : List V) (Q : VK) (E : XK), Room k (A.deeper (envOfC qual scope s.heap.objs.size f cdv)) → sp vs H Q E →
      ∃ t, PSs (cxOf CX P w K mg base N qual scope f cdv A outer s H E) body t ∧ t { nx := fun _ H' => Q .non H', rt := Q } (start N vs) H) :
    FnOk P w K mg base CX (k + 1) f (PySem.W.fnOf name qual params body scope dV kV doc pm an cdv ct) ps sp := by
  refine ⟨len, fun A outer s H args us vs Q E hr e0 hb r hsp => ?_⟩
  have hl := len _ _ _ _ hsp
  have KX : K.In s.heap := e0.mod.kin.keeps fun b o e => (e0.bs b o e).1
  have lim : s.heap.NoLimit := e0.mod.nolimit.keeps fun b o e => (e0.bs b o e).1
  have hkind : ∀ y ∈ ps.zip us, scope.names.lookup y.1 = some .local ∨ (scope.names.lookup y.1 = some .cell ∧ ((cellsFrom (s.heap.objs.size + 1) scope.names []).lookup y.1).isSome = true) := fun ⟨n, v⟩ hy => by
    rcases S.par n (List.of_mem_zip hy).1 with q | q
    · exact .inl q
    · exact .inr ⟨q, PySem.W.cellsFrom_some _ _ _ (.inl q)⟩
  refine codeAny_call_function hr.depth (KX _ _ lk) rfl S.co S.gen rfl (PySem.W.codeRec_of KX hcd) (hb _ _ _ _ ?_)
  refine wpAny_newFunctionEnv_cells S.kind hkind fun env he s1 x => ?_
  subst he
  refine ⟨lim.keeps x.toInCall.keep, codeAny_func ?_⟩
  obtain ⟨t, ht, hq⟩ := hbody A outer s H vs Q E (hr.deeper _) hsp
  have I : Inv (cxOf CX P w K mg base N qual scope f cdv A outer s H E) [] (start N vs) H s1 := inv_start S hr.hd e0 hl r x
  refine wpAny_mono (ht [] s1 (start N vs) H _ I hq) (fun fl s' hs => ?_) fun e s' hs => hs
  have fin : ∀ {σ' : St} {H' : Hp} {v : V} {u : Value}, Inv (cxOf CX P w K mg base N qual scope f cdv A outer s H E) [] σ' H' s' → RelV v u → Q v H' → CE outer P w H s Q u s' :=
    fun {σ' H' v u} J rv q => ⟨v, H', J.os, J.bare, J.base, J.hok, rv, q⟩
  cases fl with
  | ret u =>
    obtain ⟨v, σ', H', J, rv, q⟩ := hs
    exact fin J rv q
  | next =>
    obtain ⟨σ', H', J, q⟩ := hs
    exact fin (v := V.non) (u := Value.none) J rfl q
  | brk =>
    obtain ⟨_, _, _, q⟩ := hs
    exact False.elim q
  | cont =>
    obtain ⟨_, _, _, q⟩ := hs
    exact False.elim q
end L2
namespace L2
open PySem PySem.Spec PyProof.Rows
section
variable {X : Cx} {x : Str} {p pos : Pos} {e : Expr} {es : List Expr} {t : TA} {id T : String} {r : List V → Hp → VK → Prop}
def tCB (r : List V → Hp → VK → Prop) (t : TA) : TE := fun σ H Q => t σ H fun vs H1 => r vs H1 Q
theorem pe_callB (hc : CallR X (.builtin id) r) (hg : Gl X x) (hm : X.mg x = none) (hv : bootBuiltins x = some (.builtin id)) (ha : PA X (e :: es) t) (hn : x ≠ "__name__" := by decide) (hdb : (x == ("__debug__" : Str)) = false := by decide)
    (he : starEach (e :: es) X.env = (false, eval e X.env) :: starEach es X.env := by rfl) (hpl : (backTo pos (starEach es X.env)).any (·.1) = false := by rfl) : PE X (.Call (.Name x p) (e :: es) [] pos) (tCB r t) := by
  intro pins s σ H Q I h
  refine wpAny_Call_Name_kw (ld_blt I hg hm hv ?_ hn hdb)
  exact PyProof.Rows.callWith_builtin1 (thn (ha pos pins s σ H _ I h) fun us s1 ⟨vs, H1, I1, r1, q1⟩ => hc pins s1 σ H1 vs us Q I1 r1 q1) he hpl
theorem pe_callTy (hc : CallR X (.type T) r) (hg : Gl X x) (hm : X.mg x = none) (hv : bootBuiltins x = some (.type T)) (ha : PA X (e :: es) t) (hn : x ≠ "__name__" := by decide) (hdb : (x == ("__debug__" : Str)) = false := by decide)
    (he : starEach (e :: es) X.env = (false, eval e X.env) :: starEach es X.env := by rfl) (hpl : (backTo pos (starEach es X.env)).any (·.1) = false := by rfl) : PE X (.Call (.Name x p) (e :: es) [] pos) (tCB r t) := by
  intro pins s σ H Q I h
  refine wpAny_Call_Name_kw (ld_blt I hg hm hv ?_ hn hdb)
  exact PyProof.Rows.callWith_type1 (thn (ha pos pins s σ H _ I h) fun us s1 ⟨vs, H1, I1, r1, q1⟩ => hc pins s1 σ H1 vs us Q I1 r1 q1) he hpl
end
end L2
namespace HT
open PySem PyProof.Rows
section
open PySem.SeqAt
open PySem.AutoSeq1 (wpAny_loadPart')
open PySem.MeetsSeq PySem.MeetsSeq2 PySem.MeetsSeq3
end
section
variable {prog : Program} {w : World} {A : Around} {E : Value → Shared → Prop} {s : Shared}
theorem cat_tup {t b : Addr} {vs ws : List Value} {Q : Value → Shared → Prop} (ht : IsTup s.heap t vs.toArray) (hb : IsTup s.heap b ws.toArray) (hv : vs ≠ [])
    (h1 : ws = [] → Q (.ref t) s) (h2 : ws ≠ [] → Q (.ref s.heap.objs.size) { s with heap := s.heap.push { cls := .type "tuple", data := .seq (vs ++ ws).toArray } })
    (hsz : vs.length + ws.length ≤ sizeLine) : wpAny (model prog w) A (binaryOp .Add (.ref t) (.ref b)) Q E s := by
  obtain ⟨⟨cls, dd, data, sl⟩, ho, hc, n, hd⟩ := id ht
  obtain ⟨⟨cls2, dd2, data2, sl2⟩, ho2, hc2, n2, hd2⟩ := id hb
  simp only at hc hd hc2 hd2
  subst hc hd hc2 hd2
  have e : vs.toArray ++ ws.toArray = (vs ++ ws).toArray := by simp
  by_cases hw : ws = []
  · exact concat_meets ⟨_, ho, rfl⟩ ⟨_, ho2, rfl⟩ noFill_tuple_add seq_tuple_add PySem.F.slot_tuple_add PySem.F.entry_tuple_add (PySem.F.args_tuple_add_2 _ _)
      (tuple_addW1 t b vs.toArray ws.toArray n n2 dd dd2 sl sl2 (by simpa using hv) (by simp [hw])) ⟨ho, ho2, h1 hw⟩
  · refine concat_meets ⟨_, ho, rfl⟩ ⟨_, ho2, rfl⟩ noFill_tuple_add seq_tuple_add PySem.F.slot_tuple_add PySem.F.entry_tuple_add (PySem.F.args_tuple_add_2 _ _)
      (tuple_addW2 t b vs.toArray ws.toArray n n2 dd dd2 sl sl2 (by simpa using hv) (by simpa using hw) (by rw [List.size_toArray, List.size_toArray]; exact hsz)) ⟨ho, ho2, ?_⟩
    rw [e]
    exact h2 hw
def sIx (n d : Nat) : Option Int → Nat
  | none => d
  | some v => if v < 0 then (v + (n : Int)).toNat else min v.toNat n
theorem sIx_le (n d : Nat) (hd : d ≤ n) (o : Option Int) : sIx n d o ≤ n := by
  cases o with
  | none => exact hd
  | some v =>
    show (if v < 0 then (v + (n : Int)).toNat else min v.toNat n) ≤ n
    by_cases hv : v < 0
    · rw [if_pos hv]; omega
    · rw [if_neg hv]; exact Nat.min_le_right _ _
theorem clip_eq (v : Int) (n d : Nat) : (if v < 0 then max (v + (n : Int)) 0 else min v (n : Int)) = ((sIx n d (some v) : Nat) : Int) := by
  show (if v < 0 then max (v + (n : Int)) 0 else min v (n : Int)) = (((if v < 0 then (v + (n : Int)).toNat else min v.toNat n) : Nat) : Int)
  by_cases hv : v < 0
  · simp only [if_pos hv]; omega
  · simp only [if_neg hv]; omega
theorem adjust_gen (lo hi : Option Int) (n : Nat) : Builtin.Slice.sliceAdjust lo hi 1 (n : Int) = (((sIx n 0 lo : Nat) : Int), ((sIx n n hi : Nat) : Int)) := by
  have h1 : ¬ ((1 : Int) < 0) := by omega
  unfold Builtin.Slice.sliceAdjust
  simp only [h1, if_false]
  refine Prod.ext ?_ ?_
  · cases lo with
    | none => rfl
    | some v => exact clip_eq v n 0
  · cases hi with
    | none => rfl
    | some v => exact clip_eq v n n
theorem places_gen (i j : Nat) : Builtin.Slice.slicePlaces (i : Int) (j : Int) 1 = j - i := by
  unfold Builtin.Slice.slicePlaces
  have h1 : (1 : Int) > 0 := by omega
  simp only [h1, if_true, Int.ediv_one]
  split <;> omega
theorem slicePart_ {v : Value} {o : Option Int} {Q : Option Int → Shared → Prop} (p : IsPart v o) (h : Q o s) : wpAny (model prog w) A (Builtin.Slice.slicePartIndex v) Q E s := by
  cases p with
  | none => exact slicePart_none h
  | int i t => exact slicePart_int h
theorem sliceApplied_gen {sl : Addr} {vl vu : Value} {lo hi : Option Int} {n : Nat} {Q : Int × Int × Nat → Shared → Prop} (hs : s.heap.IsSliceOf sl vl vu .none) (pl : IsPart vl lo) (pu : IsPart vu hi)
    (h : Q (((sIx n 0 lo : Nat) : Int), 1, sIx n n hi - sIx n 0 lo) s) : wpAny (model prog w) A (Builtin.Slice.sliceApplied (.ref sl) (pure (n : Int))) Q E s := by
  obtain ⟨os, hos, hcs, hds⟩ := id hs
  unfold Builtin.Slice.sliceApplied Builtin.Slice.sliceFields
  refine wpAny_bind (wpAny_bind (wpAny_field hos hds (x := vl) rfl (wpAny_bind (wpAny_field hos hds (x := vu) rfl (wpAny_bind (wpAny_field hos hds (x := .none) rfl (wpAny_pure ?_)))))))
  refine wpAny_bind (slicePart_none ?_)
  show wpAny _ _ (if ((1 : Int) == 0) = true then _ else _) _ _ s
  rw [if_neg (by decide)]
  refine wpAny_bind (slicePart_ pl (wpAny_bind (slicePart_ pu (wpAny_bind (wpAny_pure ?_)))))
  show wpAny _ _ (match Builtin.Slice.sliceAdjust lo hi 1 (n : Int) with | (lo, hi) => pure (lo, (1 : Int), Builtin.Slice.slicePlaces lo hi 1)) _ _ s
  rw [adjust_gen lo hi n]
  show wpAny _ _ (pure (((sIx n 0 lo : Nat) : Int), (1 : Int), Builtin.Slice.slicePlaces ((sIx n 0 lo : Nat) : Int) ((sIx n n hi : Nat) : Int) 1)) _ _ s
  rw [places_gen]
  exact wpAny_pure h
theorem pick_gen (xs : Array Value) (i k : Nat) : ((List.range k).filterMap fun (m : Nat) => xs[((i : Int) + (m : Int) * 1).toNat]?).toArray = ((xs.toList.drop i).take k).toArray := by
  have e : (fun (m : Nat) => xs[((i : Int) + (m : Int) * 1).toNat]?) = fun m => xs[i + m]? := by
    funext m
    have : ((i : Int) + (m : Int) * 1).toNat = i + m := by omega
    rw [this]
  rw [e]
  have := pick_run xs i k
  rw [List.filterMap_map] at this
  have e2 : ((fun x => xs[x]?) ∘ fun x => i + x) = fun m => xs[i + m]? := rfl
  rw [e2] at this
  rw [this]
theorem getItem_tuple_cut {t sl : Addr} {items : Array Value} {vl vu : Value} {lo hi : Option Int} {Q : Value → Shared → Prop} (ht : IsTup s.heap t items) (hs : s.heap.IsSliceOf sl vl vu .none) (pl : IsPart vl lo) (pu : IsPart vu hi)
    (hw : ¬ (sIx items.size 0 lo = 0 ∧ sIx items.size items.size hi = items.size))
    (h : Q (.ref s.heap.objs.size) { s with heap := s.heap.push { cls := .type "tuple", data := .seq ((items.toList.drop (sIx items.size 0 lo)).take (sIx items.size items.size hi - sIx items.size 0 lo)).toArray } })
    (hsz : items.size ≤ sizeLine) : wpAny (model prog w) A (getItem (.ref t) (.ref sl)) Q E s := by
  have htake : sizeOk (.seq ((items.toList.drop (sIx items.size 0 lo)).take (sIx items.size items.size hi - sIx items.size 0 lo)).toArray) := by
    show ((items.toList.drop (sIx items.size 0 lo)).take (sIx items.size items.size hi - sIx items.size 0 lo)).toArray.size ≤ sizeLine
    rw [List.size_toArray, List.length_take, List.length_drop, Array.length_toList]
    omega
  have hj : sIx items.size items.size hi ≤ items.size := sIx_le _ _ (Nat.le_refl _) hi
  obtain ⟨os, hos, hcs, hds⟩ := id hs
  have hTs : s.TypeIs (.ref sl) "slice" := ⟨os, hos, hcs⟩
  unfold getItem
  try with_reducible refine wpAny_holding ?_
  first | refine wpAny_bind (wpAny_pure ?_) | skip
  refine wpAny_bind (wpAny_sequenceKey ht.typeIs (by decide) ?_)
  refine wpAny_bind (wpAny_callSpecial?_slot (name := Str.ofString "__getitem__") ht.typeIs PyProof.Rows.slot_tuple_getitem
    (wpAny_call_entry PyProof.Rows.slot_tuple_getitem ht.typeIs entry_tuple_getitem ?_ (args_tuple_getitem _ _)))
  show wpAny _ _ (Builtin.Tuple.tupleItemsOf (.ref t) >>= _) _ _ s
  refine wpAny_bind (tupleItemsOf_ ht ?_)
  refine wpAny_bind (wpAny_typeOf hTs ?_)
  rw [if_pos (by decide)]
  refine wpAny_bind (sliceApplied_gen hs pl pu ?_)
  have hno : ¬ ((((sIx items.size 0 lo : Nat) : Int) == 0 && (1 : Int) == 1 && (sIx items.size items.size hi - sIx items.size 0 lo) == items.size) = true) := by
    intro q
    rw [Bool.and_eq_true, Bool.and_eq_true] at q
    have q1 : ((sIx items.size 0 lo : Nat) : Int) = 0 := eq_of_beq q.1.1
    have q2 : sIx items.size items.size hi - sIx items.size 0 lo = items.size := eq_of_beq q.2
    exact hw ⟨by omega, by omega⟩
  show wpAny _ _ (if (((sIx items.size 0 lo : Nat) : Int) == 0 && (1 : Int) == 1 && (sIx items.size items.size hi - sIx items.size 0 lo) == items.size) = true then _ else _) _ _ s
  rw [if_neg hno, pick_gen]
  first
    | exact wpAny_bind (m := Builtin.Tuple.tupleExact _) (wpAny_newObj_type (wpAny_pure ⟨_, rfl, wpAny_pure h⟩) htake)
    | exact wpAny_bind (m := Builtin.Tuple.tupleExact _) (wpAny_newObj_type (wpAny_bind (wpAny_pure (wpAny_pure ⟨_, rfl, wpAny_pure h⟩))) htake)
    | exact wpAny_bind (wpAny_bind (m := Builtin.Tuple.tupleExact _) (wpAny_newObj_type (wpAny_pure (wpAny_pure ⟨_, rfl, wpAny_pure h⟩)) htake))
    | exact wpAny_bind (wpAny_bind (m := Builtin.Tuple.tupleExact _) (wpAny_newObj_type (wpAny_pure ⟨_, rfl, wpAny_pure h⟩) htake))
end
end HT
namespace L2
open PySem PySem.Spec PyProof.Rows
abbrev TO := St → Hp → (Option Int → Hp → Prop) → Prop
def PO (X : Cx) (e : Option Expr) (t : TO) : Prop :=
  ∀ (pins : List (Addr × Obj)) (s : Shared) (σ : St) (H : Hp) (Q : Option Int → Hp → Prop), Inv X pins σ H s → t σ H Q →
    wpAny (model X.prog X.w) X.A (evalPart e X.env) (fun u s' => ∃ o H', Inv X pins σ H' s' ∧ IsPart u o ∧ Q o H') X.xe s
def tNoPart : TO := fun _ H Q => Q none H
def tPart (t : TE) : TO := fun σ H Q => t σ H fun x H1 => ∃ i, x = .int i ∧ Q (some i) H1
section
variable {X : Cx} {e : Expr} {te : TE} {lo hi : Option Expr} {tl th : TO} {pos p2 : Pos}
theorem po_none : PO X none tNoPart := by
  intro pins s σ H Q I h
  rw [evalPart_none]
  exact wpAny_pure ⟨none, H, I, .none, h⟩
theorem po_some (h : PE X e te) : PO X (some e) (tPart te) := by
  intro pins s σ H Q I hw
  rw [evalPart_some]
  refine thn (h pins s σ H _ I hw) fun u s1 ⟨x, H1, I1, r1, q1⟩ => ?_
  obtain ⟨i, rfl, q⟩ := q1
  obtain ⟨t, rfl⟩ := r1
  exact ⟨some i, H1, I1, .int i t, q⟩
def SlR (X : Cx) (r : V → Option Int → Option Int → Hp → VK → Prop) : Prop :=
  ∀ (pins : List (Addr × Obj)) (s : Shared) (σ : St) (H : Hp) (x : V) (v vl vu : Value) (lo hi : Option Int) (sl : Addr) (Q : VK), Inv X pins σ H s → RelV x v → s.heap.IsSliceOf sl vl vu .none → IsPart vl lo → IsPart vu hi → r x lo hi H Q →
    ∃ T id, typeLookup (.type T) "__getitem__" = pure (some (.builtin id)) ∧ s.TypeIs v T ∧ wpAny (model X.prog X.w) X.A (getItem v (.ref sl)) (EP X pins σ Q) X.xe s
def tSl (r : V → Option Int → Option Int → Hp → VK → Prop) (te : TE) (tl th : TO) : TE := fun σ H Q => te σ H fun x H1 => tl σ H1 fun l H2 => th σ H2 fun u H3 => r x l u H3 Q
theorem pe_slice {r : V → Option Int → Option Int → Hp → VK → Prop} (hr : SlR X r) (he : PE X e te) (hl : PO X lo tl) (hu : PO X hi th) : PE X (.Subscript e (.Slice lo hi none p2) pos) (tSl r te tl th) := by
  intro pins s σ H Q I h
  refine Subscript_ (thn (he pins s σ H _ I h) fun v s1 ⟨x, H1, I1, r1, q1⟩ => ?_)
  refine wpAny_Slice (thn (hl pins s1 σ H1 _ I1 q1) fun vl s2 ⟨l, H2, I2, pl, q2⟩ => thn (hu pins s2 σ H2 _ I2 q2) fun vu s3 ⟨u, H3, I3, pu, q3⟩ => ?_)
  rw [evalPart_none]
  refine wpAny_pure ?_
  have I4 : Inv X pins σ H3 { s3 with heap := s3.heap.push { cls := .type "slice", data := .fields #[vl, vu, .none] } } := I3.kept (t' := s3.toks) fun b ob q => Heap.get?_push_of_some _ q
  obtain ⟨T, id, hT, ht, hg⟩ := hr pins { s3 with heap := s3.heap.push { cls := .type "slice", data := .fields #[vl, vu, .none] } } σ H3 x v vl vu l u s3.heap.objs.size Q I4 r1 (Heap.IsSliceOf.new ..) pl pu q3
  show wpAny (model X.prog X.w) X.A (subscriptTail e (.Slice lo hi none p2) v (.ref s3.heap.objs.size)) (EP X pins σ Q) X.xe { s3 with heap := s3.heap.push { cls := .type "slice", data := .fields #[vl, vu, .none] } }
  exact tail_any (ops := [.ref s3.heap.objs.size, v]) ht hT hg (by with_unfolding_all rfl)
def cutV (xs : List V) (lo hi : Option Int) : List V := (xs.drop (HT.sIx xs.length 0 lo)).take (HT.sIx xs.length xs.length hi - HT.sIx xs.length 0 lo)
theorem cutV_length (xs : List V) (lo hi : Option Int) : (cutV xs lo hi).length ≤ xs.length := by
  unfold cutV
  rw [List.length_take, List.length_drop]
  omega
def rSlT (K : PySem.W.Frag) : V → Option Int → Option Int → Hp → VK → Prop := fun x lo hi H Q => ∃ a xs, x = .ref a ∧ SqT K H a xs ∧
  ¬ (HT.sIx xs.length 0 lo = 0 ∧ HT.sIx xs.length xs.length hi = xs.length) ∧ ∀ p, H p = none → Q (.ref p) (upd H p (.tup (cutV xs lo hi)))
theorem sl_tup : SlR X (rSlT X.K) := by
  intro pins s σ H x v vl vu lo hi sl Q I rx hs pl pu h
  obtain ⟨a, xs, rfl, hx, hw, q⟩ := h
  cases rx
  obtain ⟨its, r, ht, hz⟩ := I.tuple hx
  have hlen : its.toArray.size = xs.length := by rw [List.size_toArray]; exact r.length.symm
  refine ⟨"tuple", _, PyProof.Rows.slot_tuple_getitem.lookup, ht.typeIs, ?_⟩
  refine HT.getItem_tuple_cut ht hs pl pu (by rw [hlen]; exact hw) ?_ (by rw [hlen]; exact hz)
  rw [hlen]
  refine ⟨.ref s.heap.objs.size, _, I.laid (t' := s.toks) (o := .tup (cutV xs lo hi)) (fun b ob q => Heap.get?_push_of_some _ q) (Nat.le_refl _) ?_, rfl, q _ (I.hok.fresh (Nat.le_refl _))⟩
  exact ⟨Nat.le_trans (cutV_length xs lo hi) hz, _, (r.drop (HT.sIx xs.length 0 lo)).take (HT.sIx xs.length xs.length hi - HT.sIx xs.length 0 lo), IsTup.new _ _⟩
def rCatT (K : PySem.W.Frag) : R2 := fun x y H Q => ∃ a b xs ys, x = .ref a ∧ y = .ref b ∧ SqT K H a xs ∧ SqT K H b ys ∧ xs ≠ [] ∧ xs.length + ys.length ≤ sizeLine ∧
  (ys = [] → Q (.ref a) H) ∧ (ys ≠ [] → ∀ p, H p = none → Q (.ref p) (upd H p (.tup (xs ++ ys))))
theorem Vals.nil_iff {xs : List V} {us : List Value} (r : Vals xs us) : us = [] ↔ xs = [] := by
  cases r with
  | nil => simp
  | cons _ _ => simp
theorem op_catT : OpR X (binaryOp .Add) (rCatT X.K) := by
  intro pins s σ H x y v u Q I rx ry h
  obtain ⟨a, b, xs, ys, rfl, rfl, ha, hb, hx, hz, q1, q2⟩ := h
  cases rx
  cases ry
  obtain ⟨its, r1, p1, _⟩ := I.tuple ha
  obtain ⟨its2, r2, p2, _⟩ := I.tuple hb
  refine HT.cat_tup p1 p2 (fun z => hx (r1.nil_iff.mp z)) (fun z => ⟨.ref a, H, I, rfl, q1 (r2.nil_iff.mp z)⟩) (fun z => ?_) (by rw [← r1.length, ← r2.length]; exact hz)
  refine ⟨.ref s.heap.objs.size, _, I.laid (t' := s.toks) (o := .tup (xs ++ ys)) (fun b ob q => Heap.get?_push_of_some _ q) (Nat.le_refl _) ?_, rfl, q2 (fun w => z (r2.nil_iff.mpr w)) _ (I.hok.fresh (Nat.le_refl _))⟩
  exact ⟨by rw [List.length_append]; exact hz, _, r1.append r2, IsTup.new _ _⟩
end
end L2
namespace L2
open PySem PySem.Spec PyProof.Rows
def ixN (n : Nat) (i : Int) : Option Nat := if 0 ≤ i then (if i < n then some i.toNat else none) else if -(n : Int) ≤ i then some (i + n).toNat else none
def atI {α : Type} (xs : List α) (i : Int) : Option α := (ixN xs.length i).bind fun j => xs[j]?
theorem ixN_seq {n : Nat} {i : Int} {j : Nat} (h : ixN n i = some j) : seqIndex? i n = some j ∧ j < n ∧ -(n : Int) ≤ i ∧ i < n := by
  unfold ixN at h
  by_cases h0 : 0 ≤ i
  · rw [if_pos h0] at h
    by_cases h1 : i < n
    · rw [if_pos h1] at h
      have e : i.toNat = j := Option.some.inj h
      exact ⟨by rw [seqIndex_of h0 h1, e], by omega, by omega, h1⟩
    · rw [if_neg h1] at h; cases h
  · rw [if_neg h0] at h
    by_cases h1 : -(n : Int) ≤ i
    · rw [if_pos h1] at h
      have e : (i + n).toNat = j := Option.some.inj h
      exact ⟨by rw [seqIndex_neg (by omega) h1, e], by omega, h1, by omega⟩
    · rw [if_neg h1] at h; cases h
theorem atI_get {α : Type} {xs : List α} {i : Int} {v : α} (h : atI xs i = some v) : ∃ j, seqIndex? i xs.length = some j ∧ xs[j]? = some v ∧ j < xs.length ∧ -(xs.length : Int) ≤ i ∧ i < xs.length := by
  unfold atI at h
  cases e : ixN xs.length i with
  | none => rw [e] at h; cases h
  | some j =>
    rw [e] at h
    obtain ⟨h1, h2, h3, h4⟩ := ixN_seq e
    exact ⟨j, h1, h, h2, h3, h4⟩
theorem atI_nat {α : Type} {xs : List α} {j : Nat} {v : α} (h : xs[j]? = some v) : atI xs (j : Int) = some v := by
  have hj : j < xs.length := (List.getElem?_eq_some_iff.mp h).1
  have e : ixN xs.length (j : Int) = some j := by
    unfold ixN
    rw [if_pos (by omega), if_pos (by omega)]; simp
  unfold atI; rw [e]; exact h
def PlainIx (b : Expr) : Prop := ∀ o i, subscripted b false o i = operate [o, i] (getItem o i)
def IxR (X : Cx) (r : R2) : Prop :=
  ∀ (value slice : Expr) (pins : List (Addr × Obj)) (s : Shared) (σ : St) (H : Hp) (x y : V) (v u : Value) (Q : VK), Inv X pins σ H s → RelV x v → RelV y u → r x y H Q →
    subscripted slice false v u = operate [v, u] (getItem v u) → wpAny (model X.prog X.w) X.A (subscriptTail value slice v u) (EP X pins σ Q) X.xe s
def MtR (X : Cx) (id : String) (r : V → List V → Hp → VK → Prop) : Prop :=
  ∀ (pins : List (Addr × Obj)) (s : Shared) (σ : St) (H : Hp) (x : V) (xs : List V) (v : Value) (us : List Value) (Q : VK), Inv X pins σ H s → RelV x v → Vals xs us → r x xs H Q →
    wpAny (model X.prog X.w) X.A (call (.builtin id) (v :: us)) (EP X pins σ Q) X.xe s
section
variable {X : Cx} {a b : Expr} {ta tb : TE} {pos : Pos}
theorem pe_ix {r : R2} (hr : IxR X r) (ha : PE X a ta) (hb : PE X b tb) (hs : PlainIx b) : PE X (.Subscript a b pos) (tOp r ta tb) := by
  intro pins s σ H Q I h
  exact Subscript_ (binT ha hb I h fun v u s2 x y H2 I2 rx ry q => hr a b pins s2 σ H2 x y v u Q I2 rx ry q (hs _ _))
def rIxL (K : PySem.W.Frag) : R2 := fun x y H Q => ∃ p xs i v, x = .ref p ∧ y = .int i ∧ SqL K H p xs ∧ atI xs i = some v ∧ Q v H
def rIxT (K : PySem.W.Frag) : R2 := fun x y H Q => ∃ p xs i v, x = .ref p ∧ y = .int i ∧ SqT K H p xs ∧ atI xs i = some v ∧ Q v H
def rIxS : R2 := fun x y H Q => ∃ z i c, x = .str z ∧ y = .int i ∧ z.length ≤ sizeLine ∧ atI z.cps.toList i = some c ∧ Q (.str ⟨#[c]⟩) H
theorem ix_list : IxR X (rIxL X.K) := by
  intro value slice pins s σ H x y v u Q I rx ry h hs
  obtain ⟨p, xs, i, z, rfl, rfl, hq, he, q⟩ := h
  cases rx
  obtain ⟨t, rfl⟩ := ry
  obtain ⟨its, r, pl, hz⟩ := I.list hq
  obtain ⟨j, h1, h2, h3, h4, h5⟩ := atI_get he
  obtain ⟨w, ew, rw'⟩ := r.get h2
  have hl := r.length
  have hn := line63
  have fin : EP X pins σ Q w s := ⟨z, H, I, rw', q⟩
  by_cases h0 : 0 ≤ i
  · have hj : i.toNat = j := by
      rw [seqIndex_of h0 h5] at h1
      exact Option.some.inj h1
    exact item_listR pl.isList h0 (by omega) (by rw [hj]; simpa using ew) fin hs
  · have hj : (i + (its.toArray.size : Int)).toNat = j := by
      rw [seqIndex_neg (by omega) h4] at h1
      rw [List.size_toArray, ← hl]
      exact Option.some.inj h1
    exact subscriptTail_builtinR (x := w) pl.isList.typeIs slot_list_getitem.lookup
      (wpAny_getItem_list_neg (Q := fun r s' => r = w ∧ EP X pins σ Q r s') pl.isList (by omega) (by rw [List.size_toArray] <;> omega) (by omega) (by rw [hj]; simpa using ew) ⟨rfl, fin⟩) hs
theorem ix_tup : IxR X (rIxT X.K) := by
  intro value slice pins s σ H x y v u Q I rx ry h hs
  obtain ⟨p, xs, i, z, rfl, rfl, hq, he, q⟩ := h
  cases rx
  obtain ⟨t, rfl⟩ := ry
  obtain ⟨its, r, pl, hz⟩ := I.tuple hq
  obtain ⟨j, h1, h2, h3, h4, h5⟩ := atI_get he
  obtain ⟨w, ew, rw'⟩ := r.get h2
  have hl := r.length
  have hn := line63
  have fin : EP X pins σ Q w s := ⟨z, H, I, rw', q⟩
  exact subscriptTail_builtinR (x := w) pl.typeIs slot_tuple_getitem.lookup
    (getItem_tuple (j := j) (Q := fun r s' => r = w ∧ EP X pins σ Q r s') pl (by omega) (by omega) (by rw [List.size_toArray, ← hl]; exact h1) (by simpa using ew) ⟨rfl, fin⟩) hs
theorem ix_str : IxR X rIxS := by
  intro value slice pins s σ H x y v u Q I rx ry h hs
  obtain ⟨z, i, c, rfl, rfl, hz, he, q⟩ := h
  obtain ⟨t, rfl⟩ := rx
  obtain ⟨t', rfl⟩ := ry
  obtain ⟨j, h1, h2, h3, h4, h5⟩ := atI_get he
  have hl : z.cps.toList.length = z.length := by simp [Str.length]
  rw [hl] at h1 h4 h5
  have hn := line63
  exact tail_any (typeIs_str s z t) slot_str_getitem.lookup (getItem_str (c := c) (by
    have e1 : decide (i < -(2 ^ 63 : Int)) = false := decide_eq_false (by omega)
    have e2 : decide (i ≥ 2 ^ 63) = false := decide_eq_false (by omega)
    rw [e1, e2, Bool.or_false]) (by rw [h1]; simpa using h2) ⟨.str ⟨#[c]⟩, H, I.tok _, ⟨_, rfl⟩, q⟩) hs
theorem mapSeq_set (its : List Value) (n j : Nat) (u : Value) : Obj.mapSeq (·.setIfInBounds j u) { cls := .type "list", data := .seq its.toArray n } = { cls := .type "list", data := .seq (its.set j u).toArray n } := by
  simp [Obj.mapSeq]
theorem Inv.lst {pins : List (Addr × Obj)} {σ : St} {H : Hp} {s : Shared} {p : Addr} {xs : List V} (I : Inv X pins σ H s) (h : H p = some (.lst xs)) :
    ∃ (its : List Value) (n : Nat), Vals xs its ∧ s.heap.get? p = some { cls := .type "list", data := .seq its.toArray n } ∧ xs.length ≤ sizeLine := by
  obtain ⟨z, its, n, r, e⟩ := I.hok p _ h
  exact ⟨its, n, r, e, z⟩
theorem Inv.lstUpd {pins : List (Addr × Obj)} {σ : St} {H : Hp} {s : Shared} {p : Addr} {xs ys : List V} {its its' : List Value} {n n' : Nat} {f : Obj → Obj} (I : Inv X pins σ H s) (h : H p = some (.lst xs))
    (ho : s.heap.get? p = some { cls := .type "list", data := .seq its.toArray n }) (hf : f { cls := .type "list", data := .seq its.toArray n } = { cls := .type "list", data := .seq its'.toArray n' }) (r : Vals ys its') (hz : ys.length ≤ sizeLine) (t : Nat) :
    Inv X pins σ (upd H p (.lst ys)) { s with heap := s.heap.update p f, toks := t } := by
  have e : (s.heap.update p f).get? p = some { cls := .type "list", data := .seq its'.toArray n' } := by
    rw [Heap.get?_update_self f ho (by rw [hf] <;> rfl), hf]
  refine I.write (x := p) (e := p) (by rw [h]; trivial) (.inl rfl) (fun b u hb q => (Heap.get?_update_other _ _ (Ne.symm hb)).trans q) ⟨_, e⟩ ?_
  exact ⟨hz, its', n', r, e⟩
def rSetL : V → V → V → Hp → (Hp → Prop) → Prop := fun o i v H Q => ∃ p xs k j, o = .ref p ∧ i = .int k ∧ H p = some (.lst xs) ∧ ixN xs.length k = some j ∧ Q (upd H p (.lst (xs.set j v)))
theorem set_list : PSet X rSetL := by
  intro pins s σ H o i v ov iv u Q I ro ri rv h
  obtain ⟨p, xs, k, j, rfl, rfl, hp, hj, q⟩ := h
  cases ro
  obtain ⟨t, rfl⟩ := ri
  obtain ⟨its, n, r, ho, hz⟩ := I.lst hp
  obtain ⟨h1, h2, h3, h4⟩ := ixN_seq hj
  have hl := r.length
  have hn := line63
  have I' : Inv X pins σ (upd H p (.lst (xs.set j v))) { s with heap := s.heap.update p (Obj.mapSeq (·.setIfInBounds j u)) } :=
    I.lstUpd hp ho (mapSeq_set its n j u) (r.set rv j) (by rw [List.length_set]; exact hz) s.toks
  by_cases h0 : 0 ≤ k
  · have hk : k.toNat = j := by
      rw [seqIndex_of h0 h4] at h1
      exact Option.some.inj h1
    exact PySem.W.ki_setAt ho h0 (by omega) (by rw [List.size_toArray, ← hl]; exact h4) (by rw [hk]; exact ⟨_, I', q⟩)
  · have hk : (k + (its.toArray.size : Int)).toNat = j := by
      rw [seqIndex_neg (by omega) h3] at h1
      rw [List.size_toArray, ← hl]
      exact Option.some.inj h1
    exact PySem.W.ki_setBack ho (by omega) (by rw [List.size_toArray, ← hl]; exact h3) (by omega) (by rw [hk]; exact ⟨_, I', q⟩)
theorem slice_bounds (lo hi : Option Int) (n : Nat) : (sliceBounds lo hi none n).1 = ((HT.sIx n 0 lo : Nat) : Int) ∧ (sliceBounds lo hi none n).2.1 = ((HT.sIx n n hi : Nat) : Int) ∧ (sliceBounds lo hi none n).2.2 = 1 := by
  refine ⟨?_, ?_, rfl⟩
  · cases lo with
    | none => simp [sliceBounds, HT.sIx]
    | some i =>
      simp only [sliceBounds, HT.sIx, Option.getD_none, show (1 : Int) > 0 by decide, if_true]
      by_cases h : i < 0
      · simp only [h, if_true] <;> omega
      · simp only [h, if_false] <;> omega
  · cases hi with
    | none => simp [sliceBounds, HT.sIx]
    | some i =>
      simp only [sliceBounds, HT.sIx, Option.getD_none, show (1 : Int) > 0 by decide, if_true]
      by_cases h : i < 0
      · simp only [h, if_true] <;> omega
      · simp only [h, if_false] <;> omega
theorem slicePick_cut (its : List Value) (lo hi : Option Int) : slicePick its.toArray lo hi none = ((its.drop (HT.sIx its.length 0 lo)).take (HT.sIx its.length its.length hi - HT.sIx its.length 0 lo)).toArray := by
  obtain ⟨h1, h2, h3⟩ := slice_bounds lo hi its.toArray.size
  unfold slicePick
  rw [h1, h2, h3]
  simp only [sliceRange_one, pick_run, List.size_toArray] <;> rfl
def rSlL (K : PySem.W.Frag) : V → Option Int → Option Int → Hp → VK → Prop := fun x lo hi H Q => ∃ a xs, x = .ref a ∧ SqL K H a xs ∧ ∀ p, H p = none → Q (.ref p) (upd H p (.lst (cutV xs lo hi)))
theorem sl_list : SlR X (rSlL X.K) := by
  intro pins s σ H x v vl vu lo hi sl Q I rx hs pl pu h
  obtain ⟨a, xs, rfl, hx, q⟩ := h
  cases rx
  obtain ⟨its, r, ht, hz⟩ := I.list hx
  have hlen := r.length
  refine ⟨"list", _, slot_list_getitem.lookup, ht.isList.typeIs, ?_⟩
  refine wpAny_getItem_list_slice ht.isList hs pl pu .none (by simp) ?_ (by rw [List.size_toArray] <;> omega)
  rw [slicePick_cut, ← hlen]
  refine ⟨.ref s.heap.objs.size, _, I.laid (t' := s.toks) (o := .lst (cutV xs lo hi)) (fun b ob q => Heap.get?_push_of_some _ q) (Nat.le_refl _) ?_, rfl, q _ (I.hok.fresh (Nat.le_refl _))⟩
  exact ⟨Nat.le_trans (cutV_length xs lo hi) hz, _, 0, (r.drop (HT.sIx xs.length 0 lo)).take (HT.sIx xs.length xs.length hi - HT.sIx xs.length 0 lo), Heap.get?_push_size _ rfl⟩
theorem call_len_seq : CallR X (.builtin "len") (fun xs H Q => ∃ p ys, xs = [.ref p] ∧ (SqL X.K H p ys ∨ SqT X.K H p ys) ∧ Q (.int ys.length) H) := by
  intro pins s σ H xs us Q I r h
  obtain ⟨p, ys, rfl, hq, q⟩ := h
  obtain ⟨u, rfl, rx⟩ := vals1 r
  cases rx
  have hn := line63
  rcases hq with hq | hq
  · obtain ⟨its, r', pl, hz⟩ := I.list hq
    have hlen := r'.length
    exact Calls.call_len_list pl.isList (by simp only [List.size_toArray] <;> omega) ⟨.int ys.length, H, I.tok _, ⟨s.toks + 1, by rw [List.size_toArray, hlen]⟩, q⟩
  · obtain ⟨its, r', pl, hz⟩ := I.tuple hq
    have hlen := r'.length
    exact len_tuple pl (by simp only [List.size_toArray] <;> omega) ⟨.int ys.length, H, I.tok _, ⟨s.toks + 1, by rw [List.size_toArray, hlen]⟩, q⟩
theorem call_len_str : CallR X (.builtin "len") (fun xs H Q => ∃ z, xs = [.str z] ∧ z.length ≤ sizeLine ∧ Q (.int z.length) H) := by
  intro pins s σ H xs us Q I r h
  obtain ⟨z, rfl, hz, q⟩ := h
  obtain ⟨u, rfl, t, rfl⟩ := vals1 r
  have hn := line63
  exact len_str (by omega) ⟨.int z.length, H, I.tok _, ⟨_, rfl⟩, q⟩
theorem call_tuple_of : CallR X (.type "tuple") (fun xs H Q => ∃ p ys, xs = [.ref p] ∧ ((SqL X.K H p ys ∧ ∀ l, H l = none → Q (.ref l) (upd H l (.tup ys))) ∨ (SqT X.K H p ys ∧ Q (.ref p) H))) := by
  intro pins s σ H xs us Q I r h
  obtain ⟨p, ys, rfl, h⟩ := h
  obtain ⟨u, rfl, rx⟩ := vals1 r
  cases rx
  rcases h with ⟨hq, q⟩ | ⟨hq, q⟩
  · obtain ⟨its, r', pl, hz⟩ := I.list hq
    have hlen := r'.length
    refine call_tuple_list pl.isList (fun h' kp => ?_) (by simp only [List.size_toArray] <;> omega)
    have I1 : Inv X pins σ H { s with heap := h' } := I.kept (t' := s.toks) kp
    have I2 : Inv X pins σ (upd H h'.objs.size (.tup ys)) { s with heap := h'.push { cls := .type "tuple", data := .seq its.toArray } } :=
      I1.laid (t' := s.toks) (fun b o e => Heap.get?_push_of_some _ e) (Nat.le_refl _) (show ObjOk X.prog X.w _ _ _ (.tup ys) from ⟨hz, its, r', IsTup.new _ _⟩)
    exact ⟨.ref h'.objs.size, _, I2, rfl, q _ (I1.hok.fresh (Nat.le_refl _))⟩
  · obtain ⟨its, r', pl, hz⟩ := I.tuple hq
    exact call_tuple_same pl ⟨.ref p, H, I, rfl, q⟩
def tyV (K : PySem.W.Frag) (T : String) (x : V) (H : Hp) : Prop := match x with
  | .str _ => T = "str"
  | .int _ => T = "int"
  | .ref p => (T = "list" ∧ ∃ xs, SqL K H p xs) ∨ (T = "tuple" ∧ ∃ o, K.lookup p = some o ∧ o.cls = .type "tuple" ∧ o.dict = none) ∨
      (T = "dict" ∧ ((∃ kvs, H p = some (.dK kvs)) ∨ ∃ kvs, H p = some (.dT kvs))) ∨ (T = "set" ∧ ∃ S n, H p = some (.set S n))
  | _ => False
theorem tyV_is {pins : List (Addr × Obj)} {σ : St} {H : Hp} {s : Shared} {T : String} {x : V} {v : Value} (I : Inv X pins σ H s) (r : RelV x v) (ty : tyV X.K T x H) :
    s.TypeIs v T ∧ ∀ a, v = .ref a → ∃ ob, s.heap.get? a = some ob ∧ ob.dict = none := by
  cases x with
  | str z =>
    obtain ⟨t, rfl⟩ := r
    cases (show T = "str" from ty)
    exact ⟨typeIs_str s z t, fun _ e => nomatch e⟩
  | int i =>
    obtain ⟨t, rfl⟩ := r
    cases (show T = "int" from ty)
    exact ⟨typeIs_int s i t, fun _ e => nomatch e⟩
  | ref p =>
    cases r
    rcases ty with ⟨rfl, xs, hq⟩ | ⟨rfl, o, hk, hc, hd⟩ | ⟨rfl, hk⟩ | ⟨rfl, S, n, hk⟩
    · obtain ⟨its, _, pl, _⟩ := I.list hq
      refine ⟨pl.isList.typeIs, fun a e => ?_⟩
      cases e
      obtain ⟨o, n, e, c, hd, _⟩ := pl
      exact ⟨o, e, hd⟩
    · refine ⟨⟨o, I.kIn p o hk, hc⟩, fun a e => ?_⟩
      cases e
      exact ⟨o, I.kIn _ o hk, hd⟩
    · have z : ∃ o, s.heap.get? p = some o ∧ o.ExactDict := by
        rcases hk with ⟨kvs, hk⟩ | ⟨kvs, hk⟩
        · obtain ⟨_, _, _, _, o, _, _, e, ex, _⟩ := I.hok p _ hk
          exact ⟨o, e, ex⟩
        · obtain ⟨_, _, _, _, o, _, _, e, ex, _⟩ := I.hok p _ hk
          exact ⟨o, e, ex⟩
      obtain ⟨o, e, ex⟩ := z
      refine ⟨⟨o, e, ex.1⟩, fun a e2 => ?_⟩
      cases e2
      exact ⟨o, e, ex.2.1⟩
    · obtain ⟨o, _, _, _, e, ex, _⟩ := I.hok p _ hk
      refine ⟨⟨o, e, ex.1⟩, fun a e2 => ?_⟩
      cases e2
      exact ⟨o, e, ex.2.1⟩
  | _ => exact False.elim ty
def tBM (K : PySem.W.Frag) (T : String) (r : V → List V → Hp → VK → Prop) (to : TE) (t : TA) : TE := fun σ H Q => to σ H fun x H1 => tyV K T x H1 ∧ t σ H1 fun xs H2 => r x xs H2 Q
variable {o e : Expr} {es : List Expr} {to : TE} {t : TA} {name : Str} {apos cpos : Pos} {T id : String} {r : V → List V → Hp → VK → Prop}
theorem pe_bm (pa : PlainAttrs T) (slot : Slot T name id) (hty : typeOf (.builtin id) = pure (.type "method_descriptor")) (hm : MtR X id r) (ho : PE X o to) (ha : PA X (e :: es) t)
    (hbase : attributeBase o name X.env (eval o X.env) = eval o X.env := by rfl)
    (hfew : ((backTo cpos (starEach (e :: es) X.env)).all (fun x => !x.1) && (backToKw cpos (keywordEach [] X.env)).all (fun x => x.1.isSome)
      && decide ((e :: es).length + ([] : List Keyword).length + (if ([] : List Keyword).isEmpty then 0 else 1) < 30)) = true := by rfl)
    (hline : (apos.endLine == cpos.line) = true := by rfl) (hs : starEach (e :: es) X.env = (false, eval e X.env) :: starEach es X.env := by rfl) (hplain : (backTo cpos (starEach es X.env)).any (·.1) = false := by rfl) :
    PE X (.Call (.Attribute o name apos) (e :: es) [] cpos) (tBM X.K T r to t) := by
  intro pins s σ H Q I h
  refine wpAny_Call_method_late hbase hfew hline rfl (thn (ho pins s σ H _ I h) fun v s1 ⟨x, H1, I1, r1, ty, q1⟩ => ?_)
  obtain ⟨h1, h2⟩ := tyV_is I1 r1 ty
  refine ⟨T, id, pa, slot, hty, h1, h2, ?_⟩
  have hA := ha cpos pins s1 σ H1 _ I1 q1
  rw [hs] at hA ⊢
  refine Calls.callWith_builtin (by show (false || (backTo cpos (starEach es X.env)).any (·.1)) = false; rw [hplain] <;> rfl) (Calls.evalArgs_plain ?_)
  exact thn hA fun us s2 ⟨vs, H2, I2, r2, q2⟩ => hm pins s2 σ H2 x vs v us Q I2 r1 r2 q2
end
end L2
namespace L2
open PySem PySem.Spec PyProof.Rows
def MtM (X : Cx) (id : String) (r : V → List V → Hp → VK → Prop) : Prop :=
  ∀ (pins : List (Addr × Obj)) (s : Shared) (σ : St) (H : Hp) (x : V) (xs : List V) (v : Value) (us : List Value) (Q : VK), Inv X pins σ H s → RelV x v → Vals xs us → r x xs H Q →
    wpAny (model X.prog X.w) X.A (call (.builtin id) (v :: us)) (EP X pins σ Q) X.xe s
theorem Vals.one : ∀ {x : V} {us : List Value}, Vals [x] us → ∃ u, us = [u] ∧ RelV x u
  | _, _, .cons r .nil => ⟨_, rfl, r⟩
theorem Vals.two : ∀ {x y : V} {us : List Value}, Vals [x, y] us → ∃ u v, us = [u, v] ∧ RelV x u ∧ RelV y v
  | _, _, _, .cons r (.cons q .nil) => ⟨_, _, rfl, r, q⟩
theorem Vals.zero : ∀ {us : List Value}, Vals [] us → us = []
  | _, .nil => rfl
theorem Vals.rep {xs : List V} {us : List Value} (h : Vals xs us) : ∀ k : Nat, Vals (List.replicate k xs).flatten (List.replicate k us).flatten
  | 0 => .nil
  | k + 1 => by
    rw [List.replicate_succ, List.replicate_succ, List.flatten_cons, List.flatten_cons]
    exact Vals.append h (Vals.rep h k)
theorem foldl_rep (its : List Value) : ∀ (k : Nat) (acc : List Value),
    List.foldl (fun x1 x2 => x1 ++ x2) acc.toArray (List.replicate k its.toArray) = (acc ++ (List.replicate k its).flatten).toArray
  | 0, acc => by simp
  | k + 1, acc => by
    have e : acc.toArray ++ its.toArray = (acc ++ its).toArray := by simp
    have e2 : (acc ++ its) ++ (List.replicate k its).flatten = acc ++ (List.replicate (k + 1) its).flatten := by
      rw [List.replicate_succ, List.flatten_cons, List.append_assoc]
    rw [← e2, ← foldl_rep its k (acc ++ its), ← e, List.replicate_succ, List.foldl_cons]
section
variable {X : Cx} {pins : List (Addr × Obj)} {σ : St} {H : Hp} {s : Shared} {l b : Addr} {xs ys zs : List V}
theorem Inv.lset {its its' : List Value} {n : Nat} {f : Array Value → Array Value} {t' : Nat} (I : Inv X pins σ H s) (hH : H l = some (.lst xs))
    (e : s.heap.get? l = some { cls := .type "list", data := .seq its.toArray n }) (hf : f its.toArray = its'.toArray) (hv : Vals ys its') (hz : ys.length ≤ sizeLine) :
    Inv X pins σ (upd H l (.lst ys)) { s with heap := s.heap.update l (Obj.mapSeq f), toks := t' } := by
  have q := PySem.IsL.update e f
  rw [hf] at q
  refine I.write (x := l) (e := l) (by rw [hH]; exact trivial) (.inl rfl) (fun b' u hb hu => (Heap.get?_update_other s.heap (Obj.mapSeq f) (Ne.symm hb)).trans hu) ⟨_, q⟩ ?_
  exact ⟨hz, its', _, hv, q⟩
theorem Inv.lnew {its : List Value} {t' : Nat} (I : Inv X pins σ H s) (hv : Vals ys its) (hz : ys.length ≤ sizeLine) :
    Inv X pins σ (upd H s.heap.objs.size (.lst ys)) { s with heap := s.heap.push { cls := .type "list", data := .seq its.toArray }, toks := t' } :=
  I.laid (fun _ _ q => Heap.get?_push_of_some _ q) (Nat.le_refl _) ⟨hz, its, 0, hv, Heap.get?_push_size _ rfl⟩
theorem Inv.fresh (I : Inv X pins σ H s) : H s.heap.objs.size = none := I.hok.fresh (Nat.le_refl _)
theorem Inv.lstM (I : Inv X pins σ H s) (hH : H l = some (.lst xs)) : xs.length ≤ sizeLine ∧ ∃ (its : List Value) (n : Nat), Vals xs its ∧ xs.length = its.length ∧ s.heap.get? l = some { cls := .type "list", data := .seq its.toArray n } := by
  obtain ⟨z, its, n, r, e⟩ := I.hok l _ hH
  exact ⟨z, its, n, r, r.length, e⟩
theorem notLongL {n : Nat} (h : n ≤ sizeLine) : Builtin.List.listTooLong n = false := by
  unfold Builtin.List.listTooLong
  exact decide_eq_false (by omega)
end
section
variable {X : Cx}
def rAppend : V → List V → Hp → VK → Prop := fun x vs H Q => ∃ l xs y, x = .ref l ∧ vs = [y] ∧ H l = some (.lst xs) ∧ xs.length < sizeLine ∧ Q .non (upd H l (.lst (xs ++ [y])))
theorem mt_append : MtM X "list.append" rAppend := by
  intro pins s σ H x vs v us Q I rx rv h
  obtain ⟨l, xs, y, rfl, rfl, hH, hz, q⟩ := h
  cases rx
  obtain ⟨u, rfl, ru⟩ := rv.one
  obtain ⟨z, its, n, r, hl, e⟩ := I.lstM hH
  refine call_meets F.slot_list_append ⟨_, e, rfl⟩ F.entry_list_append (F.args_list_append_2 _ _) (PySem.list_append l its.toArray n u (by rw [List.size_toArray]; omega)) ⟨e, ?_⟩
  refine ⟨.non, _, I.lset (its' := its ++ [u]) hH e (by simp) (r.append (.cons ru .nil)) ?_, rfl, q⟩
  rw [List.length_append, List.length_singleton]
  omega
def rRep : R2 := fun x y H Q => ∃ l k xs, x = .ref l ∧ y = .int k ∧ H l = some (.lst xs) ∧ -(2 ^ 63) ≤ k ∧ k < 2 ^ 63 ∧ xs.length * k.toNat ≤ sizeLine ∧
  ∀ p, H p = none → Q (.ref p) (upd H p (.lst (List.replicate k.toNat xs).flatten))
theorem len_rep {α : Type} (xs : List α) (k : Nat) : (List.replicate k xs).flatten.length = k * xs.length := by
  induction k with
  | zero => simp
  | succ k ih => rw [List.replicate_succ, List.flatten_cons, List.length_append, ih, Nat.succ_mul, Nat.add_comm]
theorem op_rep : OpR X (binaryOp .Mult) rRep := by
  intro pins s σ H x y v u Q I rx ry h
  obtain ⟨l, k, xs, rfl, rfl, hH, h1, h2, hz, q⟩ := h
  cases rx
  obtain ⟨t, rfl⟩ := ry
  obtain ⟨z, its, n, r, hl, e⟩ := I.lstM hH
  have hlen : its.toArray.size * k.toNat ≤ sizeLine := by rw [List.size_toArray, ← hl]; exact hz
  have hcap : ¬ its.toArray.size * k.toNat > (2 ^ 63 - 1) / 8 := by
    have : (sizeLine : Nat) ≤ (2 ^ 63 - 1) / 8 := by decide
    omega
  have hfit : ¬ (!Builtin.List.listFitsIndex k) = true := by
    rw [fitsIndex_both h1 h2]
    exact Bool.false_ne_true
  have hlong : ¬ Builtin.List.listTooLong (its.toArray.size * k.toNat) = true := by
    rw [notLongL hlen]
    exact Bool.false_ne_true
  have hnew : List.foldl (fun x1 x2 => x1 ++ x2) #[] (List.replicate (if its.toArray.isEmpty = true then 0 else k.toNat) its.toArray) = (List.replicate k.toNat its).flatten.toArray := by
    have f0 : ∀ m : Nat, List.foldl (fun x1 x2 => x1 ++ x2) #[] (List.replicate m its.toArray) = (List.replicate m its).flatten.toArray := fun m => by
      have := foldl_rep its m []
      rw [List.nil_append] at this
      exact this
    rw [f0]
    cases its with
    | nil => simp
    | cons a r' => rw [if_neg (by simp)]
  refine wpAny_binaryOp_repeat_ref (T := "list") (U := "int") (by decide) ⟨_, e, rfl⟩ (fun s' => typeIs_int s' k t) noFill_list_mul F.fills_int_mul F.slot_int_rmul repeat_list F.slot_int_index.lookup
    (call_meets F.slot_int_rmul (typeIs_int s k t) F.entry_int_rmul (F.args_int_rmul_2 _ _) (int___rmul___int_list k t l its.toArray n)
      ⟨e, rfl, ⟨_, e, rfl⟩, call_meets F.slot_list_mul ⟨_, e, rfl⟩ F.entry_list_mul (F.args_list_mul_2 _ _) (AutoListH.list___mul___list_int_3 l its.toArray n k t hfit hcap hlong) ⟨e, ?_⟩⟩)
  rw [hnew]
  exact ⟨.ref _, _, I.lnew (t' := s.toks) (r.rep k.toNat) (by rw [len_rep, Nat.mul_comm]; exact hz), rfl, q _ I.fresh⟩
end
section
variable {prog : Program} {w : World} {A : Around} {E : Value → Shared → Prop} {s : Shared}
end
section
variable {X : Cx}
end
end L2
namespace L2
open PySem PySem.Spec PyProof.Rows
section
variable {κ : Type} [DecidableEq κ]
def valV (kvs : List (κ × V)) (k : κ) : Option V := (kvs.find? fun kv => decide (kv.1 = k)).map (·.2)
def putK (kvs : List (κ × V)) (k : κ) (v : V) : List (κ × V) :=
  if (kvs.any fun kv => decide (kv.1 = k)) = true then kvs.map (fun kv => if kv.1 = k then (kv.1, v) else kv) else kvs ++ [(k, v)]
def dropK (kvs : List (κ × V)) (k : κ) : List (κ × V) := kvs.filter fun kv => decide (kv.1 ≠ k)
theorem valV_pos {p : κ × V} {r : List (κ × V)} {k : κ} (e : p.1 = k) : valV (p :: r) k = some p.2 := by simp [valV, List.find?_cons, e]
theorem valV_neg {p : κ × V} {r : List (κ × V)} {k : κ} (e : ¬ p.1 = k) : valV (p :: r) k = valV r k := by simp [valV, List.find?_cons, e]
theorem valV_any (k : κ) : ∀ kvs : List (κ × V), (kvs.any fun kv => decide (kv.1 = k)) = (valV kvs k).isSome
  | [] => rfl
  | p :: r => by
    rw [List.any_cons]
    by_cases e : p.1 = k
    · simp only [valV_pos e, decide_eq_true e, Bool.true_or, Option.isSome_some]
    · rw [valV_neg e, decide_eq_false e, Bool.false_or]; exact valV_any k r
theorem RelO.isSome_eq {o : Option V} {u : Option Value} (r : RelO o u) : o.isSome = u.isSome := by
  cases o with
  | none => cases u with
    | none => rfl
    | some _ => exact (show False from r).elim
  | some _ => cases u with
    | none => exact (show False from r).elim
    | some _ => rfl
theorem RelO.getD {o : Option V} {u : Option Value} {d : V} {d' : Value} (r : RelO o u) (rd : RelV d d') : RelV (o.getD d) (u.getD d') := by
  cases o with
  | none => cases u with
    | none => exact rd
    | some _ => exact (show False from r).elim
  | some _ => cases u with
    | none => exact (show False from r).elim
    | some _ => exact r
theorem KV.val {kvs : List (κ × V)} {vs : List (κ × Value)} (r : KV kvs vs) (k : κ) : RelO (valV kvs k) (valueAt vs k) := by
  unfold KV at r
  induction r with
  | nil => exact True.intro
  | @cons p q ps qs h t ih =>
    obtain ⟨h1, h2⟩ := h
    by_cases e : p.1 = k
    · have e' : q.1 = k := h1.symm.trans e
      have b : valueAt (q :: qs) k = some q.2 := by simp [valueAt, List.find?_cons, e']
      rw [valV_pos e, b]; exact h2
    · have e' : ¬ q.1 = k := fun z => e (h1.trans z)
      have b : valueAt (q :: qs) k = valueAt qs k := by simp [valueAt, List.find?_cons, e']
      rw [valV_neg e, b]; exact ih
theorem KV.any {kvs : List (κ × V)} {vs : List (κ × Value)} (r : KV kvs vs) (k : κ) : (kvs.any fun kv => decide (kv.1 = k)) = vs.any fun kv => decide (kv.1 = k) := by
  unfold KV at r
  induction r with
  | nil => rfl
  | cons h t ih => rw [List.any_cons, List.any_cons, ih, h.1]
theorem KV.repl {kvs : List (κ × V)} {vs : List (κ × Value)} (r : KV kvs vs) (k : κ) {y : V} {u : Value} (ry : RelV y u) :
    KV (kvs.map fun kv => if kv.1 = k then (kv.1, y) else kv) (vs.map fun kv => if kv.1 = k then (kv.1, u) else kv) := by
  unfold KV at r ⊢
  induction r with
  | nil => exact .nil
  | @cons p q ps qs h t ih =>
    rw [List.map_cons, List.map_cons]
    refine .cons ?_ ih
    obtain ⟨h1, h2⟩ := h
    by_cases e : p.1 = k
    · rw [if_pos e, if_pos (h1.symm.trans e)]; exact ⟨h1, ry⟩
    · rw [if_neg e, if_neg (fun z => e (h1.trans z))]; exact ⟨h1, h2⟩
theorem KV.put {kvs : List (κ × V)} {vs : List (κ × Value)} (r : KV kvs vs) (k : κ) {y : V} {u : Value} (ry : RelV y u) : KV (putK kvs k y) (stored vs k u) := by
  unfold putK stored
  rw [r.any k]
  by_cases e : (vs.any fun kv => decide (kv.1 = k)) = true
  · rw [if_pos e, if_pos e]; exact r.repl k ry
  · rw [if_neg e, if_neg e]; exact Paired.snoc r ⟨rfl, ry⟩
theorem KV.drop {kvs : List (κ × V)} {vs : List (κ × Value)} (r : KV kvs vs) (k : κ) : KV (dropK kvs k) (without vs k) := by
  unfold KV at r ⊢
  unfold dropK without
  induction r with
  | nil => exact .nil
  | @cons p q ps qs h t ih =>
    obtain ⟨h1, h2⟩ := h
    rw [List.filter_cons, List.filter_cons]
    by_cases e : p.1 = k
    · have a : ¬ decide (p.1 ≠ k) = true := by simp [e]
      have b : ¬ decide (q.1 ≠ k) = true := by simp [h1.symm.trans e]
      rw [if_neg a, if_neg b]; exact ih
    · have e' : ¬ q.1 = k := fun z => e (h1.trans z)
      have a : decide (p.1 ≠ k) = true := by simp [e]
      have b : decide (q.1 ≠ k) = true := by simp [e']
      rw [if_pos a, if_pos b]; exact .cons ⟨h1, h2⟩ ih
theorem KV.keys {kvs : List (κ × V)} {vs : List (κ × Value)} (r : KV kvs vs) : kvs.map (·.1) = vs.map (·.1) := by
  unfold KV at r
  induction r with
  | nil => rfl
  | cons h t ih => rw [List.map_cons, List.map_cons, ih, h.1]
theorem KV.length {kvs : List (κ × V)} {vs : List (κ × Value)} (r : KV kvs vs) : kvs.length = vs.length := Paired.length r
end
theorem kV_is {P : Program} {w : World} {k : Key} {u : Value} (r : RelV (kV k) u) : (mixKind P w).is k u = true := by
  cases k with
  | inl i => obtain ⟨t, e⟩ := (show ∃ t, u = Value.int i t from r); subst e; exact mixKind_int P w i t
  | inr x => obtain ⟨t, e⟩ := (show ∃ t, u = Value.str x t from r); subst e; exact mixKind_str P w x t
abbrev KT (H : Hp) : List (List Key × V) → List (List Key × Addr × Value) → Prop := Paired fun p q => p.1 = q.1 ∧ H q.2.1 = some (.tup (p.1.map kV)) ∧ RelV p.2 q.2.2
theorem KT.val {H : Hp} {kvs : List (List Key × V)} {xs : List (List Key × Addr × Value)} (r : KT H kvs xs) (k : List Key) : RelO (valV kvs k) ((atKey xs k).map (·.2)) := by
  induction r with
  | nil => exact True.intro
  | @cons p q ps qs h t ih =>
    obtain ⟨h1, _, h2⟩ := h
    by_cases e : p.1 = k
    · have e' : q.1 = k := h1.symm.trans e
      have b : atKey (q :: qs) k = some q.2 := by simp [atKey, List.find?_cons, e']
      rw [valV_pos e, b]; exact h2
    · have e' : ¬ q.1 = k := fun z => e (h1.trans z)
      have b : atKey (q :: qs) k = atKey qs k := by simp [atKey, List.find?_cons, e']
      rw [valV_neg e, b]; exact ih
theorem KT.repl {H : Hp} {kvs : List (List Key × V)} {xs : List (List Key × Addr × Value)} (r : KT H kvs xs) (k : List Key) {y : V} {u : Value} (ry : RelV y u) :
    KT H (kvs.map fun kv => if kv.1 = k then (kv.1, y) else kv) (xs.map (putAt k u)) := by
  induction r with
  | nil => exact .nil
  | @cons p q ps qs h t ih =>
    rw [List.map_cons, List.map_cons]
    refine .cons ?_ ih
    obtain ⟨h1, h2, h3⟩ := h
    unfold putAt
    by_cases e : p.1 = k
    · rw [if_pos e, if_pos (h1.symm.trans e)]; exact ⟨h1, h2, ry⟩
    · rw [if_neg e, if_neg (fun z => e (h1.trans z))]; exact ⟨h1, h2, h3⟩
theorem KT.put {H : Hp} {kvs : List (List Key × V)} {xs : List (List Key × Addr × Value)} (r : KT H kvs xs) (k : List Key) {b : Addr} {y : V} {u : Value} (hb : H b = some (.tup (k.map kV))) (ry : RelV y u) :
    KT H (putK kvs k y) (storedH xs k b u) := by
  have e : (kvs.any fun kv => decide (kv.1 = k)) = (atKey xs k).isSome := by
    rw [valV_any, (r.val k).isSome_eq, Option.isSome_map]
  unfold putK storedH
  rw [e]
  by_cases q : (atKey xs k).isSome = true
  · rw [if_pos q, if_pos q]; exact r.repl k ry
  · rw [if_neg q, if_neg q]; exact Paired.snoc r ⟨rfl, hb, ry⟩
theorem KT.keeps {H H' : Hp} {kvs : List (List Key × V)} {xs : List (List Key × Addr × Value)} (r : KT H kvs xs) (ht : ∀ b ys, H b = some (.tup ys) → H' b = some (.tup ys)) : KT H' kvs xs :=
  Paired.mapP r fun _ _ z => ⟨z.1, ht _ _ z.2.1, z.2.2⟩
section
variable {P : Program} {w : World} {H : Hp} {h : Heap} {a : Addr}
end
def DGet (H : Hp) (a : Addr) (y : V) (r : Option V) : Prop :=
  (∃ kvs k, Rd H a (.dK kvs) ∧ y = kV k ∧ r = valV kvs k) ∨ ∃ kvs k b, Rd H a (.dT kvs) ∧ y = .ref b ∧ H b = some (.tup (k.map kV)) ∧ r = valV kvs k
def DPut (H : Hp) (a : Addr) (y v : V) (H' : Hp) : Prop :=
  (∃ kvs k, H a = some (.dK kvs) ∧ y = kV k ∧ kvs.length < sizeLine ∧ H' = upd H a (.dK (putK kvs k v))) ∨
  ∃ kvs k b, H a = some (.dT kvs) ∧ y = .ref b ∧ H b = some (.tup (k.map kV)) ∧ kvs.length < sizeLine ∧ H' = upd H a (.dT (putK kvs k v))
theorem DGet.k {H : Hp} {a : Addr} {kvs : List (Key × V)} {k : Key} (e : H a = some (.dK kvs)) : DGet H a (kV k) (valV kvs k) := .inl ⟨kvs, k, .inl e, rfl, rfl⟩
theorem DGet.t {H : Hp} {a b : Addr} {kvs : List (List Key × V)} {k : List Key} (e : H a = some (.dT kvs)) (eb : H b = some (.tup (k.map kV))) : DGet H a (.ref b) (valV kvs k) := .inr ⟨kvs, k, b, .inl e, rfl, eb, rfl⟩
theorem DPut.k {H : Hp} {a : Addr} {kvs : List (Key × V)} {k : Key} {v : V} (e : H a = some (.dK kvs)) (hl : kvs.length < sizeLine) : DPut H a (kV k) v (upd H a (.dK (putK kvs k v))) := .inl ⟨kvs, k, e, rfl, hl, rfl⟩
theorem DPut.t {H : Hp} {a b : Addr} {kvs : List (List Key × V)} {k : List Key} {v : V} (e : H a = some (.dT kvs)) (eb : H b = some (.tup (k.map kV))) (hl : kvs.length < sizeLine) :
    DPut H a (.ref b) v (upd H a (.dT (putK kvs k v))) := .inr ⟨kvs, k, b, e, rfl, eb, hl, rfl⟩
section
variable {X : Cx} {pins : List (Addr × Obj)} {σ : St} {H : Hp} {s : Shared} {a : Addr} {y v : V} {u r : Value} {o : Option V} {A : Around} {E : Value → Shared → Prop}
end
section
variable {X : Cx} {pins : List (Addr × Obj)} {σ : St} {H : Hp} {s : Shared} {a : Addr} {kvs : List (Key × V)} {k : Key} {u : Value} {A : Around} {E : Value → Shared → Prop}
end
def NoSl (i : Expr) : Prop := ∀ ov iv, subscripted i false ov iv = operate [ov, iv] (getItem ov iv)
theorem subD_of {prog : Program} {w : World} {A : Around} {E : Value → Shared → Prop} {s : Shared} {env : Env} {value slice : Expr} {pos : Pos} {T id : String} {Q : Value → Shared → Prop}
    (hl : typeLookup (.type T) "__getitem__" = pure (some (.builtin id))) (hs : NoSl slice)
    (h : wpAny (model prog w) A (eval value env) (fun o s₁ => wpAny (model prog w) A (eval slice env) (fun i s₂ => s₂.TypeIs o T ∧ wpAny (model prog w) A (getItem o i) Q E s₂) E s₁) E s) :
    wpAny (model prog w) A (eval (.Subscript value slice pos) env) Q E s := by
  refine Subscript_ (wpAny_mono h (fun o s₁ h₁ => wpAny_mono h₁ (fun i s₂ h₂ => ?_) fun _ _ x => x) fun _ _ x => x)
  obtain ⟨hT, h₂⟩ := h₂
  unfold subscriptTail
  refine wpAny_bind ?_
  rw [getitemInPython_of_ne hT.not_modules]
  refine wpAny_bind (wpAny_specialOf hT hl ?_)
  have fin : wpAny (model prog w) A (subscripted slice false o i) (fun r s₃ => wpAny (model prog w) A (letTemporaryGo value o r >>= fun _ => pure r) Q E s₃) E s₂ := by
    rw [hs o i]
    exact wpAny_operating (wpAny_mono h₂ (fun r s₃ h₃ => wpAny_bind (wpAny_letTemporaryGo (wpAny_pure h₃))) fun _ _ x => x)
  first
    | exact wpAny_pure (wpAny_bind fin)
    | exact wpAny_bind (wpAny_pure (wpAny_bind fin))
    | exact wpAny_bind fin
section
variable {X : Cx} {o i e value : Expr} {pos pos' tpos : Pos} {td ty tv : TE}
end
section
variable {X : Cx} {pos : Pos}
end
structure M1 (X : Cx) (o : Expr) (m : Str) (apos : Pos) (e : Expr) (cpos : Pos) : Prop where
  base : attributeBase o m X.env (eval o X.env) = eval o X.env
  few : ((backTo cpos (starEach [e] X.env)).all (fun x => !x.1) && (backToKw cpos (keywordEach [] X.env)).all (fun x => x.1.isSome)
    && decide (([e] : List Expr).length + ([] : List Keyword).length + (if ([] : List Keyword).isEmpty then 0 else 1) < 30)) = true
  line : (apos.endLine == cpos.line) = true
  trees : backTo cpos (starEach [e] X.env) = [(false, eval e X.env)]
structure M2 (X : Cx) (o : Expr) (m : Str) (apos : Pos) (e f : Expr) (cpos : Pos) : Prop where
  base : attributeBase o m X.env (eval o X.env) = eval o X.env
  few : ((backTo cpos (starEach [e, f] X.env)).all (fun x => !x.1) && (backToKw cpos (keywordEach [] X.env)).all (fun x => x.1.isSome)
    && decide (([e, f] : List Expr).length + ([] : List Keyword).length + (if ([] : List Keyword).isEmpty then 0 else 1) < 30)) = true
  line : (apos.endLine == cpos.line) = true
  trees : backTo cpos (starEach [e, f] X.env) = [(false, eval e X.env), (false, eval f X.env)]
section
variable {X : Cx} {pins : List (Addr × Obj)} {σ : St} {H : Hp} {s : Shared} {a : Addr} {y d : V} {u r : Value} {o : Option V} {A : Around} {E : Value → Shared → Prop}
end
section
variable {X : Cx} {o e f : Expr} {apos cpos : Pos} {td ty tx : TE}
end
section
variable {X : Cx} {pins : List (Addr × Obj)} {σ : St} {H : Hp} {s : Shared} {a : Addr} {kvs : List (Key × V)} {A : Around} {E : Value → Shared → Prop}
end
section
variable {X : Cx} {pins : List (Addr × Obj)} {σ : St} {H : Hp} {s : Shared} {a : Addr} {y : V} {u : Value} {A : Around} {E : Value → Shared → Prop}
end
end L2
namespace Att
open PySem PySem.W PySem.Calls PyProof.Rows
theorem ints_of_wellAll {P : Params} {h : Heap} : ∀ (ns : List Int) (vs : List Value), WellAll P h vs (ns.map WData.int) → IntsAre vs ns := by
  intro ns
  induction ns with
  | nil =>
    intro vs w
    rw [List.map_nil] at w
    cases w
    exact .nil
  | cons n ns ih =>
    intro vs w
    rw [List.map_cons] at w
    cases w with
    | cons a b =>
      cases a
      exact .cons _ _ (ih _ b)
theorem script_of {l : OpenLaw} {n : Nat} (hn : l.most = some n) {P : Params} {h : Heap} {args : List WData} {vals : List Value}
    (hpre : l.row.toRowW.claim.pre args = true) (hwl : WellAll P h vals args) :
    ∃ a vs ns, vals = [Value.ref a] ∧ args = [WData.list (ns.map WData.int)] ∧ h.get? a = some { cls := .type "list", data := .seq vs.toArray } ∧ IntsAre vs ns ∧ ns.length ≤ n := by
  have hsh : WShape.hasAll [] args [.list .int] = true := (pre_splitW hpre).1
  have hc : l.pre.holds [] { args := args } = true := (pre_splitW hpre).2
  obtain ⟨d, r, rfl, h1, h2⟩ := hasAllW_cons hsh
  obtain rfl := hasAllW_nil h2
  obtain ⟨xs, rfl, h3⟩ := hasW_list h1
  obtain ⟨ns, rfl⟩ := items_int h3
  have hlen : ns.length ≤ n := by
    unfold OpenLaw.pre at hc
    have h4 : (WTm.not (.lt (.lit (.int (n : Int))) (.len (.arg 0)))).holds [] { args := [.list (ns.map .int)] } = true := by
      have h4 := (holds_andW hc).1
      rw [hn] at h4
      exact h4
    have h5 := condW_of h4 (w_not (w_lt w_lit (w_len_list (w_arg rfl))))
    rw [List.length_map] at h5
    refine Nat.le_of_not_lt fun q => ?_
    have q' : (n : Int) < ((ns.length : Nat) : Int) := by omega
    first
      | (rw [decide_eq_true q'] at h5; exact absurd h5 (by decide))
      | (simp at h5; omega)
  cases hwl with
  | cons w1 w2 =>
    cases w2
    cases w1 with
    | list ho hall => exact ⟨_, _, ns, rfl, rfl, ho, ints_of_wellAll ns _ hall, hlen⟩
theorem post_true (l : OpenLaw) (args : List WData) : l.row.toRowW.claim.post args (.bool true) args = true :=
  postW_of (r := l.row.toRowW) (X := (true == true))
    (show WShape.has [] (.bool true) .bool = true by first | rfl | decide | simp [WShape.has, WShape.arms, WShape.armsAll])
    (show (WTm.eq .res (.lit (.bool true))).value [] { args := args, res := some (.bool true), after := args } = some (.bool (true == true)) from w_eq_bool (w_res rfl) w_lit) rfl
theorem attach_call {l : OpenLaw} {n : Nat} {q : Program} {loose : List Str} {XP : (Str → Option Value) → Heap → Prop} {YP : World → Heap → Prop} {d : DefRec}
    (hn : l.most = some n) (hdf : d.params.defaults = [])
    (call : ∀ (w : World) (s₀ s₁ : Shared) (mg mb : Str → Option Value) (fa : Addr) (o : Obj) (pm cd doc : Value) (a : Addr) (vs : List Value) (ns : List Int),
      Ground q loose [] XP w s₀ mg mb s₁.heap → YP w s₁.heap →
      s₁.heap.get? fa = some o → o.data = .func (docDef d.name d.params d.body d.scope pm cd doc) → s₁.heap.CodeRec cd d.name → mg d.name = some (.ref fa) →
      s₁.heap.get? a = some { cls := .type "list", data := .seq vs.toArray } → IntsAre vs ns → ns.length ≤ n → s₁.gens = #[] →
      codeAny (model l.prog w) callerA (.call (.ref fa) ⟨[.ref a], []⟩) (fun r s' => r = .ok (.ret (.bool true)) ∧ OldK s₁.heap s'.heap ∧ s'.os = s₁.os ∧ AllBare s'.gens) s₁) :
    WalkO q loose XP YP l.row.toRowW d [] (fun f vs => PySem.call f vs) := by
  intro w s₀ s₁ mg mb G Y fa o pm cd doc dV kV ho hd hcd hD hmg hg args vals as hpre hlay hrd hwl hlo
  obtain rfl : dV = .none := Dflts.none hD hdf
  obtain rfl : kV = .none := Dflts.noKw hD
  obtain ⟨a, vs, ns, rfl, rfl, hobj, hints, hlen⟩ := script_of hn hpre hwl
  refine enter_call (codeAny_mono (call w s₀ s₁ mg mb fa o pm cd doc a vs ns G Y ho (fd_plain hd) hcd hmg hobj hints hlen hg) fun r s' hq => ?_)
  obtain ⟨rfl, h2, h3, h4⟩ := hq
  exact ⟨.inl ⟨.bool true, .bool true, [], rfl, fun _ => rfl, .bool true, post_true l _, fun _ => ⟨List.Pairwise.nil, fun _ hm => (nomatch hm)⟩⟩, h2, h3, h4⟩
section
variable {prog : Program} {w : World} {A : Around} {E : Value → Shared → Prop} {s : Shared} {K : Frag}
end
end Att
namespace L2
open PySem PySem.Spec PyProof.Rows
theorem vals_ints : ∀ {vs : List Value} {ns : List Int}, IntsAre vs ns → Vals (ns.map V.int) vs
  | _, _, .nil => .nil
  | _, _, .cons n t h => .cons ⟨t, rfl⟩ (vals_ints h)
def Only (H : Hp) : Prop := ∀ b, H b = none ∨ ∃ o xs, H b = some (.frz o (.lst xs))
theorem law_call {P : Program} {w : World} {K : PySem.W.Frag} {mg mb : Str → Option Value} {CX : CXT} {k : Nat} {fa a : Addr} {fd : FuncData} {x : Str} {sp : Sp} {s₁ : Shared} {vs : List Value} {ns : List Int}
    (KX : K.In s₁.heap) (hns : s₁.heap.Ns mainGlobals mg) (hb : s₁.heap.Ns builtinsNs mb) (hbb : ∀ x : Str, x ≠ "__name__" → mb x = bootBuiltins x) (hlim : s₁.heap.NoLimit) (hg : s₁.gens = #[])
    (ha : s₁.heap.get? a = some { cls := .type "list", data := .seq vs.toArray }) (hi : IntsAre vs ns) (hl : ns.length ≤ sizeLine) (hr : Room k callerA)
    (F : ∀ base : Heap, K.In base → base.Ns mainGlobals mg → FnOk P w K mg base CX k fa fd [x] sp) (hbind : ∀ (s : Shared) (u : Value), BindsTo s fd ⟨[u], []⟩ [(x, u)])
    (hsp : ∀ H : Hp, Only H → SqL K H a (ns.map V.int) → sp [.ref a] H (fun v _ => v = .bl true) fun _ _ _ => False)
    (hCX : ∀ H e s', CX [] H s₁ (fun _ _ _ => False) e s' → False) :
    codeAny (model P w) callerA (.call (.ref fa) ⟨[.ref a], []⟩) (fun r s' => r = .ok (.ret (.bool true)) ∧ OldK s₁.heap s'.heap ∧ s'.os = s₁.os ∧ AllBare s'.gens) s₁ := by
  have rv := vals_ints hi
  have lenV := hi.length
  -- from an abstract heap in which nothing but the script may be tracked
  have core : ∀ H : Hp, Only H → SqL K H a (ns.map V.int) → HOk P w H s₁.heap → (∀ b, H b ≠ none → b = a) → (H a ≠ none → K.lookup a = none) →
      codeAny (model P w) callerA (.call (.ref fa) ⟨[.ref a], []⟩) (fun r s' => r = .ok (.ret (.bool true)) ∧ OldK s₁.heap s'.heap ∧ s'.os = s₁.os ∧ AllBare s'.gens) s₁ := by
    intro H hO hS hok hA hK
    have base_of : ∀ {b : Addr} {o : Obj}, s₁.heap.get? b = some o → H b = none → (hidT s₁.heap H).get? b = some o := fun e n => hidT_get e n
    have noA : ∀ {b : Addr} {o : Obj} {es : Array DictEntry} {ep : Nat}, s₁.heap.get? b = some o → o.data = .dict es ep → H b = none := fun {b o es ep} e d => by
      cases q : H b with
      | none => rfl
      | some u =>
        have e' : b = a := hA b (by rw [q]; simp)
        subst e'
        rw [ha] at e; cases e
        have d' : Data.seq vs.toArray _ = Data.dict es ep := d
        cases d'
    have nsK : ∀ {b : Addr} {m : Str → Option Value}, s₁.heap.Ns b m → (hidT s₁.heap H).Ns b m := fun {b m} ⟨o, es, ep, e, d, r⟩ => ⟨o, es, ep, base_of e (noA e d), d, r⟩
    have hKb : K.In (hidT s₁.heap H) := fun b o e => base_of (KX b o e) (by
      cases q : H b with
      | none => rfl
      | some u =>
        have e' : b = a := hA b (by rw [q]; simp)
        subst e'
        rw [hK (by rw [q]; simp)] at e; cases e)
    have hM : Mod K mg (hidT s₁.heap H) := ⟨hKb, nsK hns, ⟨mb, nsK hb, hbb⟩, let ⟨mc, h1, h2⟩ := hlim; ⟨mc, nsK h1, h2⟩⟩
    have e0 : Env0 P w K mg (hidT s₁.heap H) callerA [] s₁ H := ⟨rfl, hM, fun b o e => of_hidT e, Nat.le_of_eq (hidT_size _ _), trivial, fun b hb => absurd (show b ∈ ([] : List Addr) from hb) (by simp), hok, .of_eq hg⟩
    refine codeAny_mono ((F _ hKb (nsK hns)).run callerA [] s₁ H ⟨[.ref a], []⟩ [.ref a] [.ref a] _ _ hr e0 (hbind s₁ (.ref a)) (.cons rfl .nil) (hsp H hO hS)) fun r s' h => ?_
    cases r with
    | error e => exact (hCX H e s' h).elim
    | ok fl =>
      cases fl with
      | next => exact False.elim h
      | brk => exact False.elim h
      | cont => exact False.elim h
      | ret u =>
        obtain ⟨v, H', os, bare, un, hok', r', q⟩ := h
        have q' : v = .bl true := q
        subst q'
        obtain rfl : u = Value.bool true := r'
        refine ⟨rfl, OldK.of_keep fun b o e => ?_, os, bare⟩
        cases q : H b with
        | none => exact un.keep b o e q (by intro z; exact absurd (show b ∈ ([] : List Addr) from z) (by simp)) (by simp)
        | some u =>
          rcases hO b with z | ⟨ob, xs, z⟩
          · rw [q] at z; cases z
          · have z2 := un.frzs b ob _ z
            obtain ⟨e1, _⟩ := hok b _ z
            obtain ⟨e2, _⟩ := hok' b _ z2
            rw [e] at e1; cases e1
            exact e2
  cases hk : K.lookup a with
  | some o =>
    -- the script is one of the module's own objects
    have e := KX a o hk
    rw [ha] at e
    cases e
    refine core (fun _ => none) (fun _ => .inl rfl) (.inr ⟨_, vs.toArray, _, hk, rfl, rfl, rfl, by rw [List.size_toArray, lenV]; exact hl, by simpa using rv⟩) (fun b u z => by have z' : (none : Option HO) = some u := z; cases z') (fun b z => absurd rfl z) fun z => absurd rfl z
  | none =>
    refine core (fun b => if b = a then some (.frz { cls := .type "list", data := .seq vs.toArray } (.lst (ns.map V.int))) else none) (fun b => ?_) (.inl (.inr ⟨{ cls := .type "list", data := .seq vs.toArray }, if_pos rfl⟩)) (fun b u z => ?_) (fun b z => ?_) fun _ => hk
    · by_cases hb : b = a
      · exact .inr ⟨_, _, if_pos hb⟩
      · exact .inl (if_neg hb)
    · by_cases hb : b = a
      · have z' := (if_pos hb).symm.trans z
        cases z'
        subst hb
        exact ⟨ha, by rw [List.length_map]; exact hl, vs, _, rv, ha⟩
      · have z' := (if_neg hb).symm.trans z
        cases z'
    · by_cases hb : b = a
      · exact hb
      · exact absurd (if_neg hb) z
end L2
namespace L2
open PySem PySem.Spec PyProof.Rows
theorem walk_of {l : PySem.W.OpenLaw} {n k : Nat} {q : Program} {loose : List Str} {XP : (Str → Option Value) → Heap → Prop} {YP : World → Heap → Prop} {d : DefRec} {K : Params → PySem.W.Frag} {CX : World → CXT} {sp : World → Sp} {x : Str}
    (hn : l.most = some n) (hn2 : n ≤ sizeLine) (hdf : d.params.defaults = []) (hr : Room k callerA)
    (hY : ∀ (w : World) (h : Heap), YP w h → (K w.params).In h)
    (F : ∀ (w : World) (mg : Str → Option Value) (fa : Addr) (h : Heap), (K w.params).In h → h.Ns mainGlobals mg → mg d.name = some (.ref fa) →
      ∃ fd : FuncData, (∀ (s : Shared) (u : Value), BindsTo s fd ⟨[u], []⟩ [(x, u)]) ∧
        ∀ base : Heap, (K w.params).In base → base.Ns mainGlobals mg → FnOk l.prog w (K w.params) mg base (CX w) k fa fd [x] (sp w))
    (hsp : ∀ (w : World) (H : Hp) (a : Addr) (ns : List Int), ns.length ≤ n → Only H → SqL (K w.params) H a (ns.map V.int) → sp w [.ref a] H (fun v _ => v = .bl true) fun _ _ _ => False)
    (hCX : ∀ (w : World) (H : Hp) (s : Shared) (e : Value) (s' : Shared), CX w [] H s (fun _ _ _ => False) e s' → False) :
    PySem.W.WalkO q loose XP YP l.row.toRowW d [] (fun f vs => PySem.call f vs) := by
  refine Att.attach_call hn hdf fun w s₀ s₁ mg mb fa o pm cd doc a vs ns G Y ho hd hcd hmg hobj hints hlen hg => ?_
  have KX := hY w _ Y
  obtain ⟨fd, hb, hF⟩ := F w mg fa _ KX G.T.g hmg
  exact law_call KX G.T.g G.T.b G.T.builtins G.T.nolimit hg hobj hints (Nat.le_trans hlen hn2) hr hF hb (fun H hO hS => hsp w H a ns hlen hO hS) fun H e s' => hCX w H s₁ e s'
end L2
namespace L2
open PySem PySem.Spec PyProof.Rows
def defArgs (s : Stmt) : Arguments := match s with
  | .FunctionDef _ a _ _ _ _ _ _ _ _ => a
  | _ => { posonlyargs := [], args := [], vararg := none, kwonlyargs := [], kw_defaults := [], kwarg := none, defaults := [] }
def defBody (s : Stmt) : List Stmt := match s with
  | .FunctionDef _ _ b _ _ _ _ _ _ _ => b
  | _ => []
def defScope (s : Stmt) : Scope := match s with
  | .FunctionDef _ _ _ _ _ _ sc _ _ _ => sc
  | _ => { kind := .function, names := [], isGenerator := false, isCoroutine := false }
abbrev CX0 : CXT := fun _ _ _ _ _ _ => False
abbrev E0 : XK := fun _ _ _ => False
theorem pass0 {X : Cx} : Passes CX0 X E0 := fun _ _ _ _ _ _ _ h => h.elim
structure Fun (K : PySem.W.Frag) (x qual : Str) (st : Stmt) (f : Addr) (fd : FuncData) : Prop where
  ex : ∃ (oc : Value) (od : Option Addr) (kV doc pm : Value) (an : Option Addr) (cdv ct : Value) (osl : Array (Option Value)),
    fd = PySem.W.fnOf x qual (defArgs st) (defBody st) (defScope st) .none kV doc pm an cdv ct ∧ K.lookup f = some ⟨oc, od, .func fd, osl⟩ ∧ PySem.W.codeIn K cdv qual = true
  kp : PySem.W.keepIn K (.ref f) = true
section
variable {P : Program} {w : World} {K : PySem.W.Frag} {mg : Str → Option Value} {base : Heap}
theorem Fun.ok {x qual : Str} {st : Stmt} {f : Addr} {fd : FuncData} {N ps : List Str} {k : Nat} {sp : Sp} (F : Fun K x qual st f fd) (S : FnScope N ps (defScope st)) (len : ∀ vs H Q E, sp vs H Q E → vs.length = ps.length)
    (hbody : ∀ (cdv : Value) (A : Around) (outer : List Env) (s : Shared) (H : Hp) (vs : List V) (Q : VK) (E : XK), Room k (A.deeper (envOfC qual (defScope st) s.heap.objs.size f cdv)) → sp vs H Q E →
      ∃ t, PSs (cxOf CX0 P w K mg base N qual (defScope st) f cdv A outer s H E).nox (defBody st) t ∧ t { nx := fun _ H' => Q .non H', rt := Q } (start N vs) H) : FnOk P w K mg base CX0 (k + 1) f fd ps sp := by
  obtain ⟨oc, od, kV, doc, pm, an, cdv, ct, osl, rfl, lk, hcd⟩ := F.ex
  refine fn_of lk hcd S len fun A outer s H vs Q E hr hsp => ?_
  obtain ⟨t, h, q⟩ := hbody cdv A outer s H vs Q E hr hsp
  exact ⟨t, h.nox, q⟩
theorem Fun.binds {x qual : Str} {st : Stmt} {f : Addr} {fd : FuncData} {ps : List Str} (F : Fun K x qual st f fd)
    (h : ∀ (kV doc pm : Value) (an : Option Addr) (cdv ct : Value) (us : List Value), us.length = ps.length → bindArgs (PySem.W.fnOf x qual (defArgs st) (defBody st) (defScope st) .none kV doc pm an cdv ct) ⟨us, []⟩ = pure (ps.zip us)) : Binds K fd ps [] := by
  obtain ⟨oc, od, kV, doc, pm, an, cdv, ct, osl, rfl, lk, hcd⟩ := F.ex
  exact .all (h kV doc pm an cdv ct)
theorem fun_mk {x qual : Str} {st : Stmt} {f : Addr} {oc : Value} {od an : Option Addr} {osl : Array (Option Value)} {kV doc pm cdv ct : Value} (l : K.lookup f = some ⟨oc, od, .func (PySem.W.fnOf x qual (defArgs st) (defBody st) (defScope st) .none kV doc pm an cdv ct), osl⟩)
    (c : PySem.W.codeIn K cdv qual = true) (k : PySem.W.keepIn K (.ref f) = true) : Fun K x qual st f (PySem.W.fnOf x qual (defArgs st) (defBody st) (defScope st) .none kV doc pm an cdv ct) := ⟨⟨oc, od, kV, doc, pm, an, cdv, ct, osl, rfl, l, c⟩, k⟩
end
section
variable {X : Cx}
end
theorem iteF {A B : Prop} (h : B) : if false = true then A else B := by
  rw [if_neg Bool.false_ne_true]
  exact h
theorem iteT {A B : Prop} (h : A) : if true = true then A else B := by
  rw [if_pos rfl]
  exact h
def Same (H H' : Hp) : Prop := ∀ b o, H b = some o → H' b = some o
theorem Same.refl (H : Hp) : Same H H := fun _ _ h => h
theorem Same.trans {H H1 H2 : Hp} (a : Same H H1) (b : Same H1 H2) : Same H H2 := fun c o h => b c o (a c o h)
theorem Same.free {H H' : Hp} (e : Same H H') {l : Addr} (h : H' l = Option.none) : H l = Option.none := by
  cases q : H l with
  | none => rfl
  | some o =>
    rw [e l o q] at h
    cases h
theorem Same.seq {K : PySem.W.Frag} {H H' : Hp} {a : Addr} {xs : List V} (e : Same H H') (h : SqL K H a xs) : SqL K H' a xs := by
  rcases h with (h | ⟨o, h⟩) | h
  · exact .inl (.inl (e _ _ h))
  · exact .inl (.inr ⟨o, e _ _ h⟩)
  · exact .inr h
end L2
namespace L2
open PySem PySem.Spec PyProof.Rows
section
variable {X : Cx}
end
section
variable {κ : Type} [DecidableEq κ]
end
end L2
end
namespace R
open PySem PySem.Spec PyProof.Rows L2
inductive RV where
  | non | bl (b : Bool) | int (i : Int) | str (x : Str) | ref (a : Addr) | ty (n : String)
  | tup (xs : List RV) | ls (xs : List RV)
def Fz (K : PySem.W.Frag) (H : Hp) (a : Addr) (vs : List V) : Prop :=
  (∃ o, H a = some (.frz o (.lst vs))) ∨
    ∃ (o : Obj) (its : Array Value) (n : Nat), K.lookup a = some o ∧ o.cls = .type "list" ∧ o.dict = Option.none ∧ o.data = .seq its n ∧ its.size ≤ sizeLine ∧ Vals vs its.toList
theorem Fz.sq {K : PySem.W.Frag} {H : Hp} {a : Addr} {vs : List V} (h : Fz K H a vs) : SqL K H a vs := by
  rcases h with ⟨o, h⟩ | h
  · exact .inl (.inr ⟨o, h⟩)
  · exact .inr h
mutual
def Rep (K : PySem.W.Frag) (H : Hp) : RV → V → Prop
  | .non, v => v = .non
  | .bl b, v => v = .bl b
  | .int i, v => v = .int i
  | .str x, v => v = .str x
  | .ref a, v => v = .ref a
  | .ty n, v => v = .ty n
  | .tup xs, v => ∃ a vs, v = .ref a ∧ SqT K H a vs ∧ Reps K H xs vs
  | .ls xs, v => ∃ a vs, v = .ref a ∧ Fz K H a vs ∧ Reps K H xs vs
def Reps (K : PySem.W.Frag) (H : Hp) : List RV → List V → Prop
  | [], vs => vs = []
  | x :: xs, vs => ∃ v r, vs = v :: r ∧ Rep K H x v ∧ Reps K H xs r
end
structure Ext (H H' : Hp) : Prop where
  tups : ∀ b xs, H b = some (.tup xs) → H' b = some (.tup xs)
  frzs : ∀ b o u, H b = some (.frz o u) → H' b = some (.frz o u)
theorem Ext.refl (H : Hp) : Ext H H := ⟨fun _ _ h => h, fun _ _ _ h => h⟩
theorem Ext.trans {H H1 H2 : Hp} (a : Ext H H1) (b : Ext H1 H2) : Ext H H2 := ⟨fun c x h => b.tups c x (a.tups c x h), fun c o x h => b.frzs c o x (a.frzs c o x h)⟩
theorem Ext.new {H : Hp} {p : Addr} {o : HO} (h : H p = none) : Ext H (upd H p o) :=
  ⟨fun b xs e => by rw [upd_ne (ne_of_none e h)]; exact e, fun b o xs e => by rw [upd_ne (ne_of_none e h)]; exact e⟩
def Soft : HO → Bool
  | .tup _ => false
  | .frz _ _ => false
  | _ => true
theorem Ext.write {H : Hp} {p : Addr} {o o' : HO} (h : H p = some o) (s : Soft o = true) : Ext H (upd H p o') := by
  refine ⟨fun b xs e => ?_, fun b ob xs e => ?_⟩
  · have n : b ≠ p := by rintro rfl; rw [h] at e; cases e; cases s
    rw [upd_ne n]; exact e
  · have n : b ≠ p := by rintro rfl; rw [h] at e; cases e; cases s
    rw [upd_ne n]; exact e
theorem SqT.ext {K : PySem.W.Frag} {H H' : Hp} {a : Addr} {vs : List V} (e : Ext H H') (h : SqT K H a vs) : SqT K H' a vs := by
  rcases h with (h | ⟨o, h⟩) | h
  · exact .inl (.inl (e.tups _ _ h))
  · exact .inl (.inr ⟨o, e.frzs _ _ _ h⟩)
  · exact .inr h
theorem Fz.ext {K : PySem.W.Frag} {H H' : Hp} {a : Addr} {vs : List V} (e : Ext H H') (h : Fz K H a vs) : Fz K H' a vs := by
  rcases h with ⟨o, h⟩ | h
  · exact .inl ⟨o, e.frzs _ _ _ h⟩
  · exact .inr h
mutual
theorem Rep.ext {K : PySem.W.Frag} {H H' : Hp} (e : Ext H H') : ∀ (r : RV) (v : V), Rep K H r v → Rep K H' r v
  | .non, v, h => by simpa only [Rep] using h
  | .bl _, v, h => by simpa only [Rep] using h
  | .int _, v, h => by simpa only [Rep] using h
  | .str _, v, h => by simpa only [Rep] using h
  | .ref _, v, h => by simpa only [Rep] using h
  | .ty _, v, h => by simpa only [Rep] using h
  | .tup xs, v, h => by
    simp only [Rep] at h ⊢
    obtain ⟨a, vs, e1, h1, h2⟩ := h
    exact ⟨a, vs, e1, SqT.ext e h1, Reps.ext e xs vs h2⟩
  | .ls xs, v, h => by
    simp only [Rep] at h ⊢
    obtain ⟨a, vs, e1, h1, h2⟩ := h
    exact ⟨a, vs, e1, h1.ext e, Reps.ext e xs vs h2⟩
theorem Reps.ext {K : PySem.W.Frag} {H H' : Hp} (e : Ext H H') : ∀ (rs : List RV) (vs : List V), Reps K H rs vs → Reps K H' rs vs
  | [], vs, h => by simpa only [Reps] using h
  | x :: xs, vs, h => by
    simp only [Reps] at h ⊢
    obtain ⟨v, r, e1, h1, h2⟩ := h
    exact ⟨v, r, e1, Rep.ext e x v h1, Reps.ext e xs r h2⟩
end
section
variable {K : PySem.W.Frag} {H : Hp}
theorem Reps.cons {x : RV} {xs : List RV} {v : V} {vs : List V} (h : Rep K H x v) (t : Reps K H xs vs) : Reps K H (x :: xs) (v :: vs) := by
  simp only [Reps]; exact ⟨v, vs, rfl, h, t⟩
theorem Reps.nil : Reps K H [] [] := by simp only [Reps]
theorem Reps.length : ∀ {xs : List RV} {vs : List V}, Reps K H xs vs → xs.length = vs.length
  | [], vs, h => by simp only [Reps] at h; subst h; rfl
  | x :: xs, vs, h => by
    simp only [Reps] at h
    obtain ⟨v, r, rfl, _, t⟩ := h
    simp [Reps.length t]
theorem Reps.get : ∀ {xs : List RV} {vs : List V} {i : Nat} {x : RV}, Reps K H xs vs → xs[i]? = some x → ∃ v, vs[i]? = some v ∧ Rep K H x v
  | [], _, _, _, _, e => by simp at e
  | y :: xs, vs, 0, x, h, e => by
    simp only [Reps] at h
    obtain ⟨v, r, rfl, h1, _⟩ := h
    simp at e; subst e
    exact ⟨v, by simp, h1⟩
  | y :: xs, vs, i + 1, x, h, e => by
    simp only [Reps] at h
    obtain ⟨v, r, rfl, _, t⟩ := h
    obtain ⟨u, h1, h2⟩ := Reps.get (i := i) t (by simpa using e)
    exact ⟨u, by simpa using h1, h2⟩
theorem Reps.append : ∀ {xs ys : List RV} {vs ws : List V}, Reps K H xs vs → Reps K H ys ws → Reps K H (xs ++ ys) (vs ++ ws)
  | [], _, vs, _, h, t => by simp only [Reps] at h; subst h; simpa using t
  | x :: xs, ys, vs, ws, h, t => by
    simp only [Reps] at h
    obtain ⟨v, r, rfl, h1, h2⟩ := h
    exact Reps.cons h1 (Reps.append h2 t)
theorem Reps.take : ∀ {xs : List RV} {vs : List V} (n : Nat), Reps K H xs vs → Reps K H (xs.take n) (vs.take n)
  | _, _, 0, _ => by simpa using Reps.nil
  | [], vs, n + 1, h => by simp only [Reps] at h; subst h; simpa using Reps.nil
  | x :: xs, vs, n + 1, h => by
    simp only [Reps] at h
    obtain ⟨v, r, rfl, h1, h2⟩ := h
    exact Reps.cons h1 (Reps.take n h2)
theorem Reps.drop : ∀ {xs : List RV} {vs : List V} (n : Nat), Reps K H xs vs → Reps K H (xs.drop n) (vs.drop n)
  | _, _, 0, h => by simpa using h
  | [], vs, n + 1, h => by simp only [Reps] at h; subst h; simpa using Reps.nil
  | x :: xs, vs, n + 1, h => by
    simp only [Reps] at h
    obtain ⟨v, r, rfl, h1, h2⟩ := h
    exact Reps.drop n h2
theorem Reps.set {x : RV} {v : V} (hx : Rep K H x v) : ∀ {xs : List RV} {vs : List V} (i : Nat), Reps K H xs vs → Reps K H (xs.set i x) (vs.set i v)
  | [], vs, i, h => by simp only [Reps] at h; subst h; simpa using Reps.nil
  | y :: xs, vs, 0, h => by
    simp only [Reps] at h
    obtain ⟨w, r, rfl, h1, h2⟩ := h
    exact Reps.cons hx h2
  | y :: xs, vs, i + 1, h => by
    simp only [Reps] at h
    obtain ⟨w, r, rfl, h1, h2⟩ := h
    exact Reps.cons h1 (Reps.set hx i h2)
theorem Reps.atI {xs : List RV} {vs : List V} {i : Int} {x : RV} (h : Reps K H xs vs) (e : L2.atI xs i = some x) : ∃ v, L2.atI vs i = some v ∧ Rep K H x v := by
  unfold L2.atI at e ⊢
  rw [← h.length]
  cases q : ixN xs.length i with
  | none => rw [q] at e; cases e
  | some j => rw [q] at e; exact h.get (by simpa using e)
end
inductive RO where
  | lst (xs : List RV)
  | dk (kvs : List (Key × RV))
  | ins (C : Addr) (fs : List (Str × RV))
abbrev RM := Addr → Option RO
def put (M : RM) (a : Addr) (o : RO) : RM := fun b => if b = a then some o else M b
theorem put_same {M : RM} {a : Addr} {o : RO} : put M a o a = some o := by unfold put; rw [if_pos rfl]
theorem put_ne {M : RM} {a b : Addr} {o : RO} (h : b ≠ a) : put M a o b = M b := by unfold put; rw [if_neg h]
theorem put_put {M : RM} {a : Addr} {o o' : RO} : put (put M a o) a o' = put M a o' := by
  funext b; unfold put; split <;> rfl
def RepP {κ : Type} (K : PySem.W.Frag) (H : Hp) : List (κ × RV) → List (κ × V) → Prop
  | [], ws => ws = []
  | (k, x) :: r, ws => ∃ v t, ws = (k, v) :: t ∧ Rep K H x v ∧ RepP K H r t
theorem RepP.ext {κ : Type} {K : PySem.W.Frag} {H H' : Hp} (e : Ext H H') : ∀ {xs : List (κ × RV)} {ws : List (κ × V)}, RepP K H xs ws → RepP K H' xs ws
  | [], _, h => h
  | (k, x) :: r, ws, h => by
    obtain ⟨v, t, e1, h1, h2⟩ := h
    exact ⟨v, t, e1, Rep.ext e x v h1, RepP.ext e h2⟩
def RepO (K : PySem.W.Frag) (H : Hp) : RO → HO → Prop
  | .lst xs, o => ∃ vs, o = .lst vs ∧ Reps K H xs vs
  | .dk kvs, o => ∃ ws, o = .dK ws ∧ RepP K H kvs ws
  | .ins C fs, o => ∃ dx gs, o = .ins C dx gs ∧ RepP K H fs gs
theorem RepO.ext {K : PySem.W.Frag} {H H' : Hp} (e : Ext H H') : ∀ {o : RO} {ho : HO}, RepO K H o ho → RepO K H' o ho
  | .lst xs, _, h => by obtain ⟨vs, e1, h1⟩ := h; exact ⟨vs, e1, Reps.ext e xs vs h1⟩
  | .dk _, _, h => by obtain ⟨ws, e1, h1⟩ := h; exact ⟨ws, e1, h1.ext e⟩
  | .ins _ _, _, h => by obtain ⟨dx, gs, e1, h1⟩ := h; exact ⟨dx, gs, e1, h1.ext e⟩
theorem RepO.soft {K : PySem.W.Frag} {H : Hp} : ∀ {o : RO} {ho : HO}, RepO K H o ho → Soft ho = true
  | .lst _, _, h => by obtain ⟨_, rfl, _⟩ := h; rfl
  | .dk _, _, h => by obtain ⟨_, rfl, _⟩ := h; rfl
  | .ins _ _, _, h => by obtain ⟨_, _, rfl, _⟩ := h; rfl
def View (K : PySem.W.Frag) (H : Hp) (M : RM) : Prop := ∀ a o, M a = some o → ∃ ho, H a = some ho ∧ RepO K H o ho
section
variable {K : PySem.W.Frag} {H H' : Hp} {M : RM} {p : Addr} {ho : HO} {o : RO}
theorem View.free (w : View K H M) (h : H p = none) : M p = none := by
  cases q : M p with
  | none => rfl
  | some o => obtain ⟨ho, e, _⟩ := w p o q; rw [h] at e; cases e
theorem View.new (w : View K H M) (h : H p = none) : View K (upd H p ho) M := fun a o e => by
  obtain ⟨ho', e1, r⟩ := w a o e
  exact ⟨ho', by rw [upd_ne (ne_of_none e1 h)]; exact e1, r.ext (Ext.new h)⟩
theorem View.newPut (w : View K H M) (h : H p = none) (r : RepO K (upd H p ho) o ho) : View K (upd H p ho) (put M p o) := fun a o' e => by
  by_cases ha : a = p
  · subst ha; rw [put_same] at e; cases e; exact ⟨ho, upd_same, r⟩
  · rw [put_ne ha] at e; exact w.new h a o' e
theorem View.write {o' : RO} (w : View K H M) (h : M p = some o') (r : RepO K (upd H p ho) o ho) : View K (upd H p ho) (put M p o) := fun a o'' e => by
  by_cases ha : a = p
  · subst ha; rw [put_same] at e; cases e; exact ⟨ho, upd_same, r⟩
  · rw [put_ne ha] at e
    obtain ⟨ho', e1, r1⟩ := w a o'' e
    obtain ⟨hp, e2, r2⟩ := w p o' h
    exact ⟨ho', by rw [upd_ne ha]; exact e1, r1.ext (Ext.write e2 r2.soft)⟩
end
abbrev RSt := List (Option RV)
abbrev RVK := RV → RM → Prop
abbrev RTE := RSt → RM → RVK → Prop
abbrev RTT := RSt → RM → (Bool → RM → Prop) → Prop
abbrev RTA := RSt → RM → (List RV → RM → Prop) → Prop
def RepSt (K : PySem.W.Frag) (H : Hp) (σ : RSt) (σ0 : L2.St) : Prop := σ.length = σ0.length ∧ ∀ (i : Nat) r, σ[i]? = some (some r) → ∃ v, σ0[i]? = some (some v) ∧ Rep K H r v
theorem RepSt.ext {K : PySem.W.Frag} {H H' : Hp} {σ : RSt} {σ0 : L2.St} (h : RepSt K H σ σ0) (e : Ext H H') : RepSt K H' σ σ0 :=
  ⟨h.1, fun i r q => by obtain ⟨v, e1, h1⟩ := h.2 i r q; exact ⟨v, e1, Rep.ext e r v h1⟩⟩
theorem RepSt.set {K : PySem.W.Frag} {H : Hp} {σ : RSt} {σ0 : L2.St} {r : RV} {v : V} (h : RepSt K H σ σ0) (hr : Rep K H r v) (i : Nat) : RepSt K H (σ.set i (some r)) (σ0.set i (some v)) := by
  refine ⟨by simp [h.1], fun j r' q => ?_⟩
  by_cases hj : i = j
  · subst hj
    rw [List.getElem?_set] at q
    split at q
    · split at q
      · cases q; rename_i hl _ ; exact ⟨v, by rw [List.getElem?_set_self (by rw [← h.1]; assumption)], hr⟩
      · cases q
    · rename_i z; exact absurd rfl z
  · rw [List.getElem?_set_ne hj] at q
    obtain ⟨w, e1, h1⟩ := h.2 j r' q
    exact ⟨w, by rw [List.getElem?_set_ne hj]; exact e1, h1⟩
def UpK (K : PySem.W.Frag) (H : Hp) (Q : RVK) (Q0 : VK) : Prop := ∀ rv M' v H', Q rv M' → Ext H H' → View K H' M' → Rep K H' rv v → Q0 v H'
theorem UpK.ext {K : PySem.W.Frag} {H H' : Hp} {Q : RVK} {Q0 : VK} (h : UpK K H Q Q0) (e : Ext H H') : UpK K H' Q Q0 := fun rv M' v H2 q e2 w r => h rv M' v H2 q (e.trans e2) w r
def up (K : PySem.W.Frag) (t : RTE) : TE := fun σ0 H Q0 => ∃ σ M Q, RepSt K H σ σ0 ∧ View K H M ∧ t σ M Q ∧ UpK K H Q Q0
def upT (K : PySem.W.Frag) (t : RTT) : TT := fun σ0 H Q0 => ∃ σ M Q, RepSt K H σ σ0 ∧ View K H M ∧ t σ M Q ∧ ∀ b M' H', Q b M' → Ext H H' → View K H' M' → Q0 b H'
def upA (K : PySem.W.Frag) (t : RTA) : TA := fun σ0 H Q0 => ∃ σ M Q, RepSt K H σ σ0 ∧ View K H M ∧ t σ M Q ∧ ∀ rs M' vs H', Q rs M' → Ext H H' → View K H' M' → Reps K H' rs vs → Q0 vs H'
structure RD where
  nx : RSt → RM → Prop
  rt : RVK
  bk : RSt → RM → Prop := fun _ _ => False
  ct : RSt → RM → Prop := fun _ _ => False
abbrev RTS := RD → RSt → RM → Prop
def UpS (K : PySem.W.Frag) (H : Hp) (q : RSt → RM → Prop) (q0 : L2.St → Hp → Prop) : Prop := ∀ σ M σ0 H', q σ M → Ext H H' → View K H' M → RepSt K H' σ σ0 → q0 σ0 H'
theorem UpS.ext {K : PySem.W.Frag} {H H' : Hp} {Q : RSt → RM → Prop} {Q0 : L2.St → Hp → Prop} (h : UpS K H Q Q0) (e : Ext H H') : UpS K H' Q Q0 := fun σ M σ0 H2 q e2 w r => h σ M σ0 H2 q (e.trans e2) w r
structure UpD (K : PySem.W.Frag) (H : Hp) (D : RD) (D0 : Ends) : Prop where
  nx : UpS K H D.nx D0.nx
  rt : UpK K H D.rt D0.rt
  bk : UpS K H D.bk D0.bk
  ct : UpS K H D.ct D0.ct
theorem UpD.ext {K : PySem.W.Frag} {H H' : Hp} {D : RD} {D0 : Ends} (h : UpD K H D D0) (e : Ext H H') : UpD K H' D D0 := ⟨h.nx.ext e, h.rt.ext e, h.bk.ext e, h.ct.ext e⟩
def upS (K : PySem.W.Frag) (t : RTS) : TS := fun D0 σ0 H => ∃ σ M D, RepSt K H σ σ0 ∧ View K H M ∧ t D σ M ∧ UpD K H D D0
def RPE (X : Cx) (e : Expr) (t : RTE) : Prop := PE X e (up X.K t)
def RPT (X : Cx) (e : Expr) (t : RTT) : Prop := PT X e (upT X.K t)
def RPW (X : Cx) (e : Expr) (t : RTT) : Prop := PW X e (upT X.K t)
def RPA (X : Cx) (es : List Expr) (t : RTA) : Prop := PA X es (upA X.K t)
def RPS (X : Cx) (s : Stmt) (t : RTS) : Prop := PS X s (upS X.K t)
def RPSs (X : Cx) (s : List Stmt) (t : RTS) : Prop := PSs X s (upS X.K t)
section
variable {X : Cx}
theorem PE.imp {e : Expr} {t t' : TE} (h : PE X e t) (i : ∀ σ H Q, t' σ H Q → t σ H Q) : PE X e t' := fun pins s σ H Q I w => h pins s σ H Q I (i σ H Q w)
theorem PT.imp {e : Expr} {t t' : TT} (h : PT X e t) (i : ∀ σ H Q, t' σ H Q → t σ H Q) : PT X e t' := fun pins s σ H Q I w => h pins s σ H Q I (i σ H Q w)
theorem PW.imp {e : Expr} {t t' : TT} (h : PW X e t) (i : ∀ σ H Q, t' σ H Q → t σ H Q) : PW X e t' := fun wh pins s σ H Q I w => h wh pins s σ H Q I (i σ H Q w)
theorem PA.imp {e : List Expr} {t t' : TA} (h : PA X e t) (i : ∀ σ H Q, t' σ H Q → t σ H Q) : PA X e t' := fun pos pins s σ H Q I w => h pos pins s σ H Q I (i σ H Q w)
theorem PS.imp {e : Stmt} {t t' : TS} (h : PS X e t) (i : ∀ D σ H, t' D σ H → t D σ H) : PS X e t' := fun pins s σ H D I w => h pins s σ H D I (i D σ H w)
theorem PSs.imp {e : List Stmt} {t t' : TS} (h : PSs X e t) (i : ∀ D σ H, t' D σ H → t D σ H) : PSs X e t' := fun pins s σ H D I w => h pins s σ H D I (i D σ H w)
end
end R
namespace R
open PySem PySem.Spec PyProof.Rows L2
section
variable {X : Cx} {a b c : Expr} {ta tb tc : RTE} {tA tB : RTT} {pos : Pos} {rest : List Expr}
def rVar (i : Nat) : RTE := fun σ M Q => match σ[i]? with | some (some v) => Q v M | _ => False
def rC (v : RV) : RTE := fun _ M Q => Q v M
theorem rv (i : Nat) {x : Str} {pos : Pos} (hN : X.N[i]? = some x := by rfl) (hv : Vis X.env.scope x := by first | exact Or.inl rfl | exact Or.inr (Or.inl rfl) | exact Or.inr (Or.inr rfl)) (hd : (x == ("__debug__" : Str)) = false := by decide)
    (hcd : (x == ("__classdict__" : Str)) = false := by decide) : RPE X (.Name x pos) (rVar i) := PE.imp (pe_var hN hv hd hcd) fun σ0 H Q h => by
  obtain ⟨σ, M, Qr, hs, hv, ht, hk⟩ := h
  unfold rVar at ht
  split at ht
  · rename_i r e
    obtain ⟨v, e1, h1⟩ := hs.2 i r e
    exact ⟨v, e1, hk r M v H ht (.refl H) hv h1⟩
  · exact ht.elim
theorem rconst {e : Expr} {v : V} {r : RV} (h : PE X e (tC v)) (hr : ∀ H, Rep X.K H r v) : RPE X e (rC r) := PE.imp h fun σ0 H Q h => by
  obtain ⟨σ, M, Qr, hs, hv, ht, hk⟩ := h
  exact hk r M v H ht (.refl H) hv (hr H)
theorem ri {i j pos} : RPE X (.Constant (.int i) j pos) (rC (.int i)) := rconst pe_int fun H => by simp only [Rep]
theorem rb {b j pos} : RPE X (.Constant (.bool b) j pos) (rC (.bl b)) := rconst pe_bl fun H => by simp only [Rep]
theorem rn {j pos} : RPE X (.Constant .none j pos) (rC .non) := rconst pe_non fun H => by simp only [Rep]
theorem rs {x j pos} : RPE X (.Constant (.str x) j pos) (rC (.str x)) := rconst pe_str fun H => by simp only [Rep]
theorem rglob {x : Str} {v : V} {r : RV} {u : Value} {pos : Pos} (hm : X.mg x = some u) (rl : RelV v u) (hr : ∀ H, Rep X.K H r v) (hg : Gl X x := by rfl) (hd : (x == ("__debug__" : Str)) = false := by decide) : RPE X (.Name x pos) (rC r) :=
  rconst (pe_glob hg hm rl hd) hr
theorem rbltn {x : Str} {v : V} {r : RV} {u : Value} {pos : Pos} (hm : X.mg x = none) (hv : bootBuiltins x = some u) (rl : RelV v u) (hr : ∀ H, Rep X.K H r v) (hg : Gl X x := by rfl) (hn : x ≠ "__name__" := by decide) (hd : (x == ("__debug__" : Str)) = false := by decide) : RPE X (.Name x pos) (rC r) :=
  rconst (pe_bltn hg hm hv rl hn hd) hr
abbrev RR2 := RV → RV → RM → RVK → Prop
def upO (K : PySem.W.Frag) (rr : RR2) : R2 := fun x y H Q0 => ∃ rx ry M Q, Rep K H rx x ∧ Rep K H ry y ∧ View K H M ∧ rr rx ry M Q ∧ UpK K H Q Q0
def ROp (X : Cx) (f : Value → Value → Sem Value) (rr : RR2) : Prop := OpR X f (upO X.K rr)
def rOp (rr : RR2) (ta tb : RTE) : RTE := fun σ M Q => ta σ M fun x M1 => tb σ M1 fun y M2 => rr x y M2 Q
theorem rop_imp {K : PySem.W.Frag} {rr : RR2} {σ0 : L2.St} {H : Hp} {Q0 : VK} (h : up K (rOp rr ta tb) σ0 H Q0) : tOp (upO K rr) (up K ta) (up K tb) σ0 H Q0 := by
  obtain ⟨σ, M, Q, hs, hv, ht, hk⟩ := h
  refine ⟨σ, M, _, hs, hv, ht, fun rx M1 x H1 hb e1 v1 r1 => ?_⟩
  refine ⟨σ, M1, _, hs.ext e1, v1, hb, fun ry M2 y H2 hr e2 v2 r2 => ?_⟩
  exact ⟨rx, ry, M2, Q, Rep.ext e2 rx x r1, r2, v2, hr, hk.ext (e1.trans e2)⟩
theorem rop {op : Operator} {rr : RR2} (ho : ROp X (binaryOp op) rr) (ha : RPE X a ta) (hb : RPE X b tb) : RPE X (.BinOp a op b pos) (rOp rr ta tb) := PE.imp (pe_op ho ha hb) fun _ _ _ h => rop_imp h
theorem rcmp {op : CmpOp} {rr : RR2} (ho : ROp X (compareOp op) rr) (ha : RPE X a ta) (hb : RPE X b tb) (hm : behindInMarks op b = false := by first | exact nomark _ | (with_unfolding_all rfl)) : RPE X (.Compare a [op] [b] pos) (rOp rr ta tb) :=
  PE.imp (pe_cmpR ho ha hb hm) fun _ _ _ h => rop_imp h
def rTest (t : RTE) : RTT := fun σ M Q => t σ M fun v M' => match v with | .bl k => Q k M' | _ => False
theorem test_up {K : PySem.W.Frag} {H : Hp} {Q : Bool → RM → Prop} {Q0 : Bool → Hp → Prop} (hk : ∀ b M' H', Q b M' → Ext H H' → View K H' M' → Q0 b H') :
    UpK K H (fun v M' => match v with | .bl k => Q k M' | _ => False) (fun x H' => ∃ k, x = .bl k ∧ Q0 k H') := fun rv M' v H' q e w r => by
  cases rv with
  | bl k => simp only [Rep] at r; exact ⟨k, r, hk k M' H' q e w⟩
  | _ => exact q.elim
theorem rtcmp {op : CmpOp} {rr : RR2} (ho : ROp X (compareOp op) rr) (ha : RPE X a ta) (hb : RPE X b tb) (hm : behindInMarks op b = false := by first | exact nomark _ | (with_unfolding_all rfl)) : RPT X (.Compare a [op] [b] pos) (rTest (rOp rr ta tb)) :=
  PT.imp (pt_cmpR ho ha hb hm) fun σ0 H Q0 h => by
    obtain ⟨σ, M, Q, hs, hv, ht, hk⟩ := h
    exact rop_imp ⟨σ, M, _, hs, hv, ht, test_up hk⟩
theorem rtval {e : Expr} {t : RTE} (h : RPE X e t) (he : ∀ whole, isTrue e X.env whole = (do let v ← whole; standAt e.pos; holding [v] (truthy v)) := by intro _; rfl) : RPT X e (rTest t) :=
  PT.imp (pt_val h he) fun σ0 H Q0 h => by
    obtain ⟨σ, M, Q, hs, hv, ht, hk⟩ := h
    exact ⟨σ, M, _, hs, hv, ht, test_up hk⟩
def rChain (rr rr' : RR2) (ta tb tc : RTE) : RTE := fun σ M Q => ta σ M fun x M1 => tb σ M1 fun y M2 => rr x y M2 fun z M3 => match z with
  | .bl k => (k = true → tc σ M3 fun w M4 => rr' y w M4 Q) ∧ (k = false → Q (.bl false) M3)
  | _ => False
theorem chain_imp {K : PySem.W.Frag} {rr rr' : RR2} {σ0 : L2.St} {H : Hp} {Q0 : VK} (h : up K (rChain rr rr' ta tb tc) σ0 H Q0) : tChain (upO K rr) (upO K rr') (up K ta) (up K tb) (up K tc) σ0 H Q0 := by
  obtain ⟨σ, M, Q, hs, hv, ht, hk⟩ := h
  refine ⟨σ, M, _, hs, hv, ht, fun rx M1 x H1 hb e1 v1 r1 => ?_⟩
  refine ⟨σ, M1, _, hs.ext e1, v1, hb, fun ry M2 y H2 hr e2 v2 r2 => ?_⟩
  refine ⟨rx, ry, M2, _, Rep.ext e2 rx x r1, r2, v2, hr, fun rz M3 z H3 hz e3 v3 r3 => ?_⟩
  cases rz with
  | bl k =>
    simp only [Rep] at r3
    refine ⟨k, r3, ?_⟩
    have e13 := (e1.trans e2).trans e3
    cases k with
    | true =>
      refine iteT ?_
      refine ⟨σ, M3, _, hs.ext e13, v3, hz.1 rfl, fun rw M4 w H4 hw e4 v4 r4 => ?_⟩
      exact ⟨ry, rw, M4, Q, Rep.ext (e3.trans e4) ry y r2, r4, v4, hw, hk.ext (e13.trans e4)⟩
    | false => exact iteF (hk _ M3 _ H3 (hz.2 rfl) e13 v3 (by simp only [Rep]))
  | _ => exact hz.elim
theorem rchain {op op' : CmpOp} {rr rr' : RR2} (ho : ROp X (compareOp op) rr) (ho' : ROp X (compareOp op') rr') (ha : RPE X a ta) (hb : RPE X b tb) (hc : RPE X c tc) (hm : lastMarks [op, op'] [b, c] = false := by with_unfolding_all rfl) :
    RPE X (.Compare a [op, op'] [b, c] pos) (rChain rr rr' ta tb tc) := PE.imp (pe_chain ho ho' ha hb hc hm) fun _ _ _ h => chain_imp h
theorem rtchain {op op' : CmpOp} {rr rr' : RR2} (ho : ROp X (compareOp op) rr) (ho' : ROp X (compareOp op') rr') (ha : RPE X a ta) (hb : RPE X b tb) (hc : RPE X c tc) (hm : lastMarks [op, op'] [b, c] = false := by with_unfolding_all rfl) :
    RPT X (.Compare a [op, op'] [b, c] pos) (rTest (rChain rr rr' ta tb tc)) := PT.imp (pt_chain ho ho' ha hb hc hm) fun σ0 H Q0 h => by
  obtain ⟨σ, M, Q, hs, hv, ht, hk⟩ := h
  exact chain_imp ⟨σ, M, _, hs, hv, ht, test_up hk⟩
def rUn (g : RV → RM → RVK → Prop) (ta : RTE) : RTE := fun σ M Q => ta σ M fun x M1 => g x M1 Q
def upU (K : PySem.W.Frag) (g : RV → RM → RVK → Prop) : V → Hp → VK → Prop := fun x H Q0 => ∃ rx M Q, Rep K H rx x ∧ View K H M ∧ g rx M Q ∧ UpK K H Q Q0
theorem run_imp {K : PySem.W.Frag} {g : RV → RM → RVK → Prop} {σ0 : L2.St} {H : Hp} {Q0 : VK} (h : up K (rUn g ta) σ0 H Q0) : tUn (upU K g) (up K ta) σ0 H Q0 := by
  obtain ⟨σ, M, Q, hs, hv, ht, hk⟩ := h
  exact ⟨σ, M, _, hs, hv, ht, fun rx M1 x H1 hb e1 v1 r1 => ⟨rx, M1, Q, r1, v1, hb, hk.ext e1⟩⟩
theorem run {op : UnaryOp} {g : RV → RM → RVK → Prop} (ho : UnR X (unaryOp op) (upU X.K g)) (ha : RPE X a ta) : RPE X (.UnaryOp op a pos) (rUn g ta) := PE.imp (pe_un ho ha) fun _ _ _ h => run_imp h
def rAnd (t u : RTT) : RTT := fun σ M Q => t σ M fun c M1 => (c = true → u σ M1 Q) ∧ (c = false → Q false M1)
def rOr (t u : RTT) : RTT := fun σ M Q => t σ M fun c M1 => (c = true → Q true M1) ∧ (c = false → u σ M1 Q)
def rNot (t : RTT) : RTT := fun σ M Q => t σ M fun c M1 => Q (!c) M1
theorem rand1 (ha : RPT X a tA) : RPW X (.BoolOp .And [a] pos) tA := pw_and1 ha
theorem ror1 (ha : RPT X a tA) : RPW X (.BoolOp .Or [a] pos) tA := pw_or1 ha
theorem rand (ha : RPT X a tA) (hb : RPW X (.BoolOp .And (b :: rest) pos) tB) : RPW X (.BoolOp .And (a :: b :: rest) pos) (rAnd tA tB) := PW.imp (pw_and ha hb) fun σ0 H Q0 h => by
  obtain ⟨σ, M, Q, hs, hv, ht, hk⟩ := h
  refine ⟨σ, M, _, hs, hv, ht, fun k M1 H1 q e1 v1 => ?_⟩
  cases k with
  | true => exact iteT ⟨σ, M1, Q, hs.ext e1, v1, q.1 rfl, fun b M' H' z e2 w => hk b M' H' z (e1.trans e2) w⟩
  | false => exact iteF (hk false M1 H1 (q.2 rfl) e1 v1)
theorem ror (ha : RPT X a tA) (hb : RPW X (.BoolOp .Or (b :: rest) pos) tB) : RPW X (.BoolOp .Or (a :: b :: rest) pos) (rOr tA tB) := PW.imp (pw_or ha hb) fun σ0 H Q0 h => by
  obtain ⟨σ, M, Q, hs, hv, ht, hk⟩ := h
  refine ⟨σ, M, _, hs, hv, ht, fun k M1 H1 q e1 v1 => ?_⟩
  cases k with
  | true => exact iteT (hk true M1 H1 (q.1 rfl) e1 v1)
  | false => exact iteF ⟨σ, M1, Q, hs.ext e1, v1, q.2 rfl, fun b M' H' z e2 w => hk b M' H' z (e1.trans e2) w⟩
theorem rtw (h : RPW X a tA) : RPT X a tA := PW.pt h
theorem rtnot (ha : RPT X a tA) : RPT X (.UnaryOp .Not a pos) (rNot tA) := PT.imp (pt_not ha) fun σ0 H Q0 h => by
  obtain ⟨σ, M, Q, hs, hv, ht, hk⟩ := h
  exact ⟨σ, M, _, hs, hv, ht, fun k M1 H1 q e1 v1 => hk (!k) M1 H1 q e1 v1⟩
def rAndV (ta tb : RTE) : RTE := fun σ M Q => ta σ M fun x M1 => match x with | .bl c => (c = true → tb σ M1 Q) ∧ (c = false → Q (.bl false) M1) | _ => False
def rOrV (ta tb : RTE) : RTE := fun σ M Q => ta σ M fun x M1 => match x with | .bl c => (c = true → Q (.bl true) M1) ∧ (c = false → tb σ M1 Q) | _ => False
def rNotV (ta : RTE) : RTE := fun σ M Q => ta σ M fun x M1 => match x with | .bl c => Q (.bl (!c)) M1 | _ => False
theorem rone {op} {t : RTE} (h : RPE X a t) : RPE X (.BoolOp op [a] pos) t := pe_one h
theorem randv (ha : RPE X a ta) (hb : RPE X (.BoolOp .And (b :: rest) pos) tb) : RPE X (.BoolOp .And (a :: b :: rest) pos) (rAndV ta tb) := PE.imp (pe_and ha hb) fun σ0 H Q0 h => by
  obtain ⟨σ, M, Q, hs, hv, ht, hk⟩ := h
  refine ⟨σ, M, _, hs, hv, ht, fun rx M1 x H1 q e1 v1 r1 => ?_⟩
  cases rx with
  | bl k =>
    simp only [Rep] at r1
    refine ⟨k, r1, ?_⟩
    cases k with
    | true => exact iteT ⟨σ, M1, Q, hs.ext e1, v1, q.1 rfl, hk.ext e1⟩
    | false => exact iteF (hk _ M1 _ H1 (q.2 rfl) e1 v1 (by simp only [Rep]))
  | _ => exact q.elim
theorem rnotv (ha : RPE X a ta) : RPE X (.UnaryOp .Not a pos) (rNotV ta) := PE.imp (pe_not ha) fun σ0 H Q0 h => by
  obtain ⟨σ, M, Q, hs, hv, ht, hk⟩ := h
  refine ⟨σ, M, _, hs, hv, ht, fun rx M1 x H1 q e1 v1 r1 => ?_⟩
  cases rx with
  | bl k => simp only [Rep] at r1; exact ⟨k, r1, hk _ M1 _ H1 q e1 v1 (by simp only [Rep])⟩
  | _ => exact q.elim
def rIf (t : RTT) (ta tb : RTE) : RTE := fun σ M Q => t σ M fun c M1 => (c = true → ta σ M1 Q) ∧ (c = false → tb σ M1 Q)
theorem rif {c : Expr} (hc : RPT X c tA) (ha : RPE X a ta) (hb : RPE X b tb) : RPE X (.IfExp c a b pos) (rIf tA ta tb) := PE.imp (pe_ifExp hc ha hb) fun σ0 H Q0 h => by
  obtain ⟨σ, M, Q, hs, hv, ht, hk⟩ := h
  refine ⟨σ, M, _, hs, hv, ht, fun k M1 H1 q e1 v1 => ?_⟩
  cases k with
  | true => exact iteT ⟨σ, M1, Q, hs.ext e1, v1, q.1 rfl, hk.ext e1⟩
  | false => exact iteF ⟨σ, M1, Q, hs.ext e1, v1, q.2 rfl, hk.ext e1⟩
variable {e : Expr} {es : List Expr} {te : RTE} {t : RTA}
def rNil : RTA := fun _ M Q => Q [] M
def rCons (ta : RTE) (tr : RTA) : RTA := fun σ M Q => ta σ M fun x M1 => tr σ M1 fun xs M2 => Q (x :: xs) M2
theorem anil : RPA X [] rNil := PA.imp pa_nil fun σ0 H Q0 h => by
  obtain ⟨σ, M, Q, hs, hv, ht, hk⟩ := h
  exact hk [] M [] H ht (.refl H) hv Reps.nil
theorem acons (ha : RPE X e te) (hr : RPA X es t) (hs : starEach (e :: es) X.env = (false, eval e X.env) :: starEach es X.env := by rfl) : RPA X (e :: es) (rCons te t) := PA.imp (pa_cons ha hr hs) fun σ0 H Q0 h => by
  obtain ⟨σ, M, Q, hs, hv, ht, hk⟩ := h
  refine ⟨σ, M, _, hs, hv, ht, fun rx M1 x H1 q e1 v1 r1 => ?_⟩
  refine ⟨σ, M1, _, hs.ext e1, v1, q, fun rs M2 vs H2 q2 e2 v2 r2 => ?_⟩
  exact hk (rx :: rs) M2 (x :: vs) H2 q2 (e1.trans e2) v2 (Reps.cons (Rep.ext e2 rx x r1) r2)
def rTup (t : RTA) : RTE := fun σ M Q => t σ M fun rs M1 => rs.length ≤ sizeLine ∧ Q (.tup rs) M1
theorem rep_tup {K : PySem.W.Frag} {H : Hp} {p : Addr} {rs : List RV} {vs : List V} (h : H p = none) (r : Reps K H rs vs) : Rep K (upd H p (.tup vs)) (.tup rs) (.ref p) := by
  simp only [Rep]; exact ⟨p, vs, rfl, SqT.of upd_same, Reps.ext (Ext.new h) rs vs r⟩
theorem rep_ls {K : PySem.W.Frag} {H : Hp} {p : Addr} {o : Obj} {rs : List RV} {vs : List V} (h : H p = none) (r : Reps K H rs vs) : Rep K (upd H p (.frz o (.lst vs))) (.ls rs) (.ref p) := by
  simp only [Rep]; exact ⟨p, vs, rfl, .inl ⟨o, upd_same⟩, Reps.ext (Ext.new h) rs vs r⟩
theorem rtup {x1} (h : RPA X es t) : RPE X (.Tuple es x1 pos) (rTup t) := PE.imp (pe_tup h) fun σ0 H Q0 h => by
  obtain ⟨σ, M, Q, hs, hv, ht, hk⟩ := h
  refine ⟨σ, M, _, hs, hv, ht, fun rs M1 vs H1 q e1 v1 r1 => ⟨by rw [← r1.length]; exact q.1, fun p hp => ?_⟩⟩
  exact hk _ M1 _ _ q.2 (e1.trans (Ext.new hp)) (v1.new hp) (rep_tup hp r1)
def rLst (t : RTA) : RTE := fun σ M Q => t σ M fun rs M1 => rs.length ≤ sizeLine ∧ ∀ p, M1 p = none → Q (.ref p) (put M1 p (.lst rs))
theorem rlst (h : RPA X es t) : RPE X (.List es pos) (rLst t) := PE.imp (pe_lst h) fun σ0 H Q0 h => by
  obtain ⟨σ, M, Q, hs, hv, ht, hk⟩ := h
  refine ⟨σ, M, _, hs, hv, ht, fun rs M1 vs H1 q e1 v1 r1 => ⟨by rw [← r1.length]; exact q.1, fun p hp => ?_⟩⟩
  exact hk _ _ _ _ (q.2 p (v1.free hp)) (e1.trans (Ext.new hp)) (v1.newPut hp ⟨vs, rfl, Reps.ext (Ext.new hp) rs vs r1⟩) (by simp only [Rep])
end
section
variable {X : Cx} {pins : List (Addr × Obj)} {σ : L2.St} {H : Hp} {s : Shared}
theorem freeze {p : Addr} {xs : List V} (I : Inv X pins σ H s) (h : H p = some (.lst xs)) : ∃ o, Inv X pins σ (upd H p (.frz o (.lst xs))) s := by
  have hz : xs.length ≤ sizeLine ∧ ∃ (its : List Value) (n : Nat), Vals xs its ∧ s.heap.get? p = some { cls := .type "list", data := .seq its.toArray n } := I.hok p _ h
  obtain ⟨z, its, n, r, e⟩ := id hz
  have np : ∀ b, H b = none → b ≠ p := fun b q w => by subst w; rw [h] at q; cases q
  refine ⟨{ cls := .type "list", data := .seq its.toArray n }, ⟨I.ok, I.os, I.bare, ⟨I.base.keep, I.base.slot, fun b o q w x => ?_, I.base.there, fun b xs' q => ?_, fun b o u q => ?_, fun b ps q => ?_⟩, I.loc, I.cell, ?_, fun x c q => ?_, fun q hq => ?_, fun b u q => ?_, I.len⟩⟩
  · have := I.base.free b o q w x
    rw [upd_ne (np b this)]; exact this
  · have e1 := I.base.tups b xs' q
    rw [upd_ne (ne_of e1 h (by intro z; cases z))]; exact e1
  · have e1 := I.base.frzs b o u q
    rw [upd_ne (ne_of e1 h (by intro z; cases z))]; exact e1
  · obtain ⟨more, e1⟩ := I.base.tbls b ps q
    exact ⟨more, by rw [upd_ne (ne_of e1 h (by intro z; cases z))]; exact e1⟩
  · rw [upd_ne (np _ I.free)]; exact I.free
  · have := I.freeC x c q
    rw [upd_ne (np _ this)]; exact this
  · obtain ⟨a1, a2, a3⟩ := I.pin q hq
    exact ⟨a1, by rw [upd_ne (np _ a2)]; exact a2, a3⟩
  · by_cases hb : b = p
    · subst hb
      rw [upd_same] at q; cases q
      exact ⟨e, z, its, n, r, e⟩
    · rw [upd_ne hb] at q
      refine (I.hok b u q).stay (fun _ _ _ q => q) (fun c q => ?_) fun c ys q => ?_
      · rw [upd_ne (ne_of q h (by intro z; cases z))]; exact q
      · rw [upd_ne (ne_of q h (by intro z; cases z))]; exact q
theorem frozen {Q : VK} {u : Value} (h : EP X pins σ (fun v H' => ∃ H1 p xs, v = .ref p ∧ H1 p = none ∧ H' = upd H1 p (.lst xs) ∧ ∀ o, Q (.ref p) (upd H1 p (.frz o (.lst xs)))) u s) : EP X pins σ Q u s := by
  obtain ⟨v, H', I, r, H1, p, xs, rfl, hn, rfl, q⟩ := h
  obtain ⟨o, I'⟩ := freeze I (p := p) (xs := xs) upd_same
  rw [upd_upd] at I'
  exact ⟨.ref p, _, I', r, q o⟩
end
section
variable {X : Cx} {es : List Expr} {t : RTA} {pos : Pos}
def rLsF (t : RTA) : RTE := fun σ M Q => t σ M fun rs M1 => rs.length ≤ sizeLine ∧ Q (.ls rs) M1
theorem rlsf (h : RPA X es t) : RPE X (.List es pos) (rLsF t) := fun pins s σ0 H Q0 I hw => by
  obtain ⟨σ, M, Q, hs, hv, ht, hk⟩ := hw
  refine thn (pe_lst h pins s σ0 H (fun v H' => ∃ H1 p xs, v = .ref p ∧ H1 p = none ∧ H' = upd H1 p (.lst xs) ∧ ∀ o, Q0 (.ref p) (upd H1 p (.frz o (.lst xs)))) I ?_) fun _ _ e => frozen e
  refine ⟨σ, M, _, hs, hv, ht, fun rs M1 vs H1 q e1 v1 r1 => ⟨by rw [← r1.length]; exact q.1, fun p hp => ⟨H1, p, vs, rfl, hp, rfl, fun o => ?_⟩⟩⟩
  exact hk _ M1 _ _ q.2 (e1.trans (Ext.new hp)) (v1.new hp) (rep_ls hp r1)
end
section
variable {X : Cx} {st : Stmt} {rest : List Stmt} {t u : RTS} {e : Expr} {te : RTE} {pos : Pos}
def rNext : RTS := fun D σ M => D.nx σ M
def rSeq (t u : RTS) : RTS := fun D σ M => t { D with nx := u D } σ M
theorem snil : RPSs X [] rNext := PSs.imp pss_nil fun D0 σ0 H h => by
  obtain ⟨σ, M, D, hs, hv, ht, hd⟩ := h
  exact hd.nx σ M σ0 H ht (.refl H) hv hs
theorem scons (h1 : RPS X st t) (h2 : RPSs X rest u) : RPSs X (st :: rest) (rSeq t u) := PSs.imp (pss_cons h1 h2) fun D0 σ0 H h => by
  obtain ⟨σ, M, D, hs, hv, ht, hd⟩ := h
  refine ⟨σ, M, _, hs, hv, ht, ⟨fun σ' M' σ0' H' q e w r => ?_, hd.rt, hd.bk, hd.ct⟩⟩
  exact ⟨σ', M', D, r, w, q, hd.ext e⟩
theorem sone (h1 : RPS X st t) : RPSs X [st] t := pss_one h1
def rDrop (te : RTE) : RTS := fun D σ M => te σ M fun _ M1 => D.nx σ M1
theorem sexpr (he : RPE X e te) (hs : swapsWith e none pos.line X.env = pure false := by rfl) : RPS X (.Expr e pos) (rDrop te) := PS.imp (ps_expr he hs) fun D0 σ0 H h => by
  obtain ⟨σ, M, D, hs, hv, ht, hd⟩ := h
  exact ⟨σ, M, _, hs, hv, ht, fun rx M1 x H1 q e1 v1 r1 => hd.nx σ M1 σ0 H1 q e1 v1 (hs.ext e1)⟩
def rRet (te : RTE) : RTS := fun D σ M => te σ M D.rt
theorem sret (he : RPE X e te) : RPS X (.Return (some e) pos) (rRet te) := PS.imp (ps_ret he) fun D0 σ0 H h => by
  obtain ⟨σ, M, D, hs, hv, ht, hd⟩ := h
  exact ⟨σ, M, _, hs, hv, ht, hd.rt⟩
def rRetN : RTS := fun D _ M => D.rt .non M
def rIfS (c : RTT) (t u : RTS) : RTS := fun D σ M => c σ M fun b M1 => (b = true → t D σ M1) ∧ (b = false → u D σ M1)
theorem sif {c : Expr} {a b : List Stmt} {tc : RTT} (hc : RPT X c tc) (ha : RPSs X a t) (hb : RPSs X b u) : RPS X (.If c a b pos) (rIfS tc t u) := PS.imp (ps_if hc ha hb) fun D0 σ0 H h => by
  obtain ⟨σ, M, D, hs, hv, ht, hd⟩ := h
  refine ⟨σ, M, _, hs, hv, ht, fun k M1 H1 q e1 v1 => ?_⟩
  cases k with
  | true => exact iteT ⟨σ, M1, D, hs.ext e1, v1, q.1 rfl, hd.ext e1⟩
  | false => exact iteF ⟨σ, M1, D, hs.ext e1, v1, q.2 rfl, hd.ext e1⟩
def rSet (i : Nat) (te : RTE) : RTS := fun D σ M => te σ M fun x M1 => D.nx (σ.set i (some x)) M1
theorem sset (i : Nat) {x : Str} {pos' : Pos} (he : RPE X e te) (hN : X.N.Nodup) (hi : X.N[i]? = some x := by rfl) (hx : Loc X.env.scope x := by first | exact Or.inl rfl | exact Or.inr rfl) (hs : swapsWith e (some (.Name x pos')) pos.line X.env = pure false := by rfl)
    (hf : X.fn x = true ∨ X.env.scope.names.lookup x = some .local := by first | exact .inl rfl | exact .inr rfl) : RPS X (.Assign [.Name x pos'] e pos) (rSet i te) := PS.imp (ps_set hN hi hx he hs hf) fun D0 σ0 H h => by
  obtain ⟨σ, M, D, hs, hv, ht, hd⟩ := h
  exact ⟨σ, M, _, hs, hv, ht, fun rx M1 x H1 q e1 v1 r1 => hd.nx _ M1 _ H1 q e1 v1 ((hs.ext e1).set r1 i)⟩
abbrev RTG := RV → RSt → RM → (RSt → RM → Prop) → Prop
def upG (K : PySem.W.Frag) (g : RTG) : TG := fun v σ0 H Q0 => ∃ rv σ M Q, Rep K H rv v ∧ RepSt K H σ σ0 ∧ View K H M ∧ g rv σ M Q ∧ UpS K H Q Q0
def RPG (X : Cx) (target : Expr) (g : RTG) : Prop := PG X target (upG X.K g)
theorem PG.imp {tg : Expr} {t t' : TG} (h : PG X tg t) (i : ∀ v σ H Q, t' v σ H Q → t v σ H Q) : PG X tg t' := fun pins s σ H v u Q I r w => h pins s σ H v u Q I r (i v σ H Q w)
def rgN (i : Nat) : RTG := fun x σ M Q => Q (σ.set i (some x)) M
theorem gname (i : Nat) {x : Str} {pos : Pos} (hN : X.N.Nodup) (hi : X.N[i]? = some x := by rfl) (hx : Loc X.env.scope x := by first | exact Or.inl rfl | exact Or.inr rfl)
    (hf : X.fn x = true ∨ X.env.scope.names.lookup x = some .local := by first | exact .inl rfl | exact .inr rfl) : RPG X (.Name x pos) (rgN i) := PG.imp (pg_name hN hi hx hf) fun v σ0 H Q0 h => by
  obtain ⟨rv, σ, M, Q, hr, hs, hv, hg, hk⟩ := h
  exact hk _ M _ H hg (.refl H) hv (hs.set hr i)
def setAll : RSt → List Nat → List RV → RSt
  | σ, i :: is, x :: xs => setAll (σ.set i (some x)) is xs
  | σ, _, _ => σ
def gAll : List Nat → TGs
  | [] => gNil
  | i :: is => gCons (gName i) (gAll is)
theorem gAll_of {K : PySem.W.Frag} {H : Hp} {Q0 : L2.St → Hp → Prop} : ∀ {is : List Nat} {rs : List RV} {vs : List V} {σ : RSt} {σ0 : L2.St}, rs.length = is.length → Reps K H rs vs → RepSt K H σ σ0 →
    (∀ σ0', RepSt K H (setAll σ is rs) σ0' → Q0 σ0' H) → gAll is vs σ0 H Q0
  | [], [], vs, σ, σ0, _, r, hs, k => by
    simp only [Reps] at r
    exact ⟨r, k σ0 hs⟩
  | i :: is, x :: rs, vs, σ, σ0, hl, r, hs, k => by
    simp only [Reps] at r
    obtain ⟨v, vs', rfl, h1, h2⟩ := r
    refine ⟨v, vs', rfl, ?_⟩
    show gAll is vs' (σ0.set i (some v)) H Q0
    exact gAll_of (σ := σ.set i (some x)) (by simpa using hl) h2 (hs.set h1 i) k
def rgU (is : List Nat) : RTG := fun x σ M Q => match x with | .tup xs => xs.length = is.length ∧ Q (setAll σ is xs) M | _ => False
theorem gtup {es : List Expr} {k : Nat} {is : List Nat} {n : Nat} {pos : Pos} (hc : X.calm = true) (h : PGs X es (gAll is)) (hl : n = is.length := by rfl)
    (hn : (assignEach es X.env).length = n := by rfl) (hst : (assignEach es X.env).findIdx? (·.1) = none := by rfl) : RPG X (.Tuple es k pos) (rgU is) := PG.imp (pg_tup hc h hn hst) fun v σ0 H Q0 h => by
  obtain ⟨rv, σ, M, Q, hr, hs, hv, hg, hk⟩ := h
  cases rv with
  | tup xs =>
    simp only [Rep] at hr
    obtain ⟨a, vs, rfl, h1, h2⟩ := hr
    exact ⟨a, vs, rfl, h1, by rw [← h2.length, hl]; exact hg.1, gAll_of hg.1 h2 hs fun σ0' q => hk _ M σ0' H hg.2 (.refl H) hv q⟩
  | _ => exact hg.elim
def rAsg (te : RTE) (g : RTG) : RTS := fun D σ M => te σ M fun x M1 => g x σ M1 D.nx
theorem sasg {tg e : Expr} {te : RTE} {g : RTG} {pos : Pos} (he : RPE X e te) (hg : RPG X tg g) (hs : swapsWithSole [tg] e pos.line X.env = pure false := by rfl) (hw : swappedStores [tg] e X.env = pure none := by rfl)
    (h1 : (assignEach [tg] X.env).map (·.2) = [assign tg X.env] := by rfl) : RPS X (.Assign [tg] e pos) (rAsg te g) := PS.imp (ps_asg he hg hs hw h1) fun D0 σ0 H h => by
  obtain ⟨σ, M, D, hs, hv, ht, hd⟩ := h
  exact ⟨σ, M, _, hs, hv, ht, fun rx M1 x H1 q e1 v1 r1 => ⟨rx, σ, M1, D.nx, r1, hs.ext e1, v1, q, hd.nx.ext e1⟩⟩
abbrev RTSet := RV → RV → RV → RM → (RM → Prop) → Prop
def upSet (K : PySem.W.Frag) (g : RTSet) : TSet := fun o i v H Q0 => ∃ ro ri rx M Q, Rep K H ro o ∧ Rep K H ri i ∧ Rep K H rx v ∧ View K H M ∧ g ro ri rx M Q ∧ ∀ M' H', Q M' → Ext H H' → View K H' M' → Q0 H'
def rgSub (to ti : RTE) (g : RTSet) : RTG := fun v σ M Q => to σ M fun o M1 => ti σ M1 fun i M2 => g o i v M2 fun M3 => Q σ M3
theorem gsub {o i : Expr} {to ti : RTE} {g : RTSet} {pos : Pos} (ho : RPE X o to) (hi : RPE X i ti) (hs : PSet X (upSet X.K g))
    (ha : ∀ v, assign (.Subscript o i pos) X.env v = (do
      let ov ← holding [v] (eval o X.env)
      let iv ← holding [v, ov] (eval i X.env)
      standAt pos
      holding [v, ov, iv] (setItem ov iv v)
      release [v, ov, iv] []) := by intro _; rfl) : RPG X (.Subscript o i pos) (rgSub to ti g) := PG.imp (pg_sub ho hi hs ha) fun v σ0 H Q0 h => by
  obtain ⟨rv, σ, M, Q, hr, hs, hv, hg, hk⟩ := h
  refine ⟨σ, M, _, hs, hv, hg, fun ro M1 o H1 q e1 v1 r1 => ?_⟩
  refine ⟨σ, M1, _, hs.ext e1, v1, q, fun ri M2 i H2 q2 e2 v2 r2 => ?_⟩
  refine ⟨ro, ri, rv, M2, _, Rep.ext e2 ro o r1, r2, Rep.ext (e1.trans e2) rv v hr, v2, q2, fun M3 H3 q3 e3 v3 => ?_⟩
  have e := (e1.trans e2).trans e3
  exact hk σ M3 σ0 H3 q3 e v3 (hs.ext e)
def rForL (g : RTG) (tb : RTS) (D : RD) : List RV → RSt → RM → Prop
  | [], σ, M => D.nx σ M
  | x :: r, σ, M => g x σ M fun σ2 M2 => tb { D with nx := rForL g tb D r, ct := rForL g tb D r, bk := D.nx } σ2 M2
end
end R
namespace R
open PySem PySem.Spec PyProof.Rows L2
open PySem.SeqAt (EqAt RcAt RcNeAt)
mutual
def eqR : RV → RV → Bool
  | .non, .non => true
  | .bl a, .bl b => a == b
  | .bl a, .int b => (if a then 1 else 0) == b
  | .int a, .bl b => a == (if b then 1 else 0)
  | .int a, .int b => a == b
  | .str a, .str b => a == b
  | .tup xs, .tup ys => eqRs xs ys
  | .ls xs, .ls ys => eqRs xs ys
  | _, _ => false
def eqRs : List RV → List RV → Bool
  | [], [] => true
  | x :: xs, y :: ys => eqR x y && eqRs xs ys
  | _, _ => false
end
def okR : Nat → RV → Bool
  | _, .non => true
  | _, .bl _ => true
  | _, .int _ => true
  | _, .str _ => true
  | n + 1, .tup xs => xs.all (okR n)
  | n + 1, .ls xs => xs.all (okR n)
  | _, _ => false
mutual
def Den (h : Heap) : RV → Value → Prop
  | .non, u => u = .none
  | .bl b, u => u = .bool b
  | .int i, u => ∃ t, u = .int i t
  | .str x, u => ∃ t, u = .str x t
  | .tup xs, u => ∃ a its, u = .ref a ∧ h.IsTuple a its.toArray ∧ Dens h xs its
  | .ls xs, u => ∃ a its, u = .ref a ∧ h.IsList a its.toArray ∧ Dens h xs its
  | .ref _, _ => False
  | .ty _, _ => False
def Dens (h : Heap) : List RV → List Value → Prop
  | [], us => us = []
  | x :: xs, us => ∃ u r, us = u :: r ∧ Den h x u ∧ Dens h xs r
end
theorem Dens.length {h : Heap} : ∀ {xs : List RV} {us : List Value}, Dens h xs us → xs.length = us.length
  | [], us, d => by simp only [Dens] at d; subst d; rfl
  | x :: xs, us, d => by
    simp only [Dens] at d
    obtain ⟨u, r, rfl, _, t⟩ := d
    simp [Dens.length t]
theorem Dens.get {h : Heap} : ∀ {xs : List RV} {us : List Value} {j : Nat} {u : Value}, Dens h xs us → us[j]? = some u → Den h (xs.getD j .non) u ∧ xs.getD j .non ∈ xs
  | [], us, _, _, d, e => by simp only [Dens] at d; subst d; simp at e
  | x :: xs, us, 0, u, d, e => by
    simp only [Dens] at d
    obtain ⟨v, r, rfl, h1, _⟩ := d
    simp at e; subst e
    exact ⟨by simpa using h1, by simp⟩
  | x :: xs, us, j + 1, u, d, e => by
    simp only [Dens] at d
    obtain ⟨v, r, rfl, _, t⟩ := d
    obtain ⟨a, b⟩ := Dens.get (j := j) t (by simpa using e)
    exact ⟨by simpa using a, by simp only [List.getD_cons_succ]; exact List.mem_cons_of_mem _ b⟩
section
variable {X : Cx} {pins : List (Addr × Obj)} {σ : L2.St} {H : Hp} {s : Shared}
theorem Vals.cons_inv {v : V} {vs : List V} {us : List Value} (r : Vals (v :: vs) us) : ∃ u us', us = u :: us' ∧ RelV v u ∧ Vals vs us' := by
  cases r with
  | cons a b => exact ⟨_, _, rfl, a, b⟩
theorem den_of (I : Inv X pins σ H s) : ∀ (n : Nat), (∀ (r : RV) (v : V) (u : Value), okR n r = true → Rep X.K H r v → RelV v u → Den s.heap r u) := by
  intro n
  induction n with
  | zero =>
    intro r v u o h w
    cases r with
    | non => simp only [Rep] at h; subst h; simp only [Den]; exact w
    | bl b => simp only [Rep] at h; subst h; simp only [Den]; exact w
    | int i => simp only [Rep] at h; subst h; simp only [Den]; exact w
    | str x => simp only [Rep] at h; subst h; simp only [Den]; exact w
    | _ => simp [okR] at o
  | succ n ih =>
    have all : ∀ (rs : List RV) (vs : List V) (us : List Value), rs.all (okR n) = true → Reps X.K H rs vs → Vals vs us → Dens s.heap rs us := by
      intro rs
      induction rs with
      | nil =>
        intro vs us _ h w
        simp only [Reps] at h; subst h; cases w; simp only [Dens]
      | cons x xs ihx =>
        intro vs us o h w
        simp only [Reps] at h
        obtain ⟨v, r, rfl, h1, h2⟩ := h
        obtain ⟨u, us', rfl, w1, w2⟩ := Vals.cons_inv w
        rw [List.all_cons, Bool.and_eq_true] at o
        simp only [Dens]
        exact ⟨u, us', rfl, ih x v u o.1 h1 w1, ihx r us' o.2 h2 w2⟩
    intro r v u o h w
    cases r with
    | non => simp only [Rep] at h; subst h; simp only [Den]; exact w
    | bl b => simp only [Rep] at h; subst h; simp only [Den]; exact w
    | int i => simp only [Rep] at h; subst h; simp only [Den]; exact w
    | str x => simp only [Rep] at h; subst h; simp only [Den]; exact w
    | tup xs =>
      simp only [Rep] at h
      obtain ⟨a, vs, rfl, h1, h2⟩ := h
      obtain ⟨its, rv, ht, _⟩ := I.tuple h1
      simp only [Den]
      exact ⟨a, its, w, ht, all xs vs its o h2 rv⟩
    | ls xs =>
      simp only [Rep] at h
      obtain ⟨a, vs, rfl, h1, h2⟩ := h
      obtain ⟨its, rv, ht, _⟩ := I.list h1.sq
      simp only [Den]
      exact ⟨a, its, w, ht.isList, all xs vs its o h2 rv⟩
    | _ => simp [okR] at o
end
theorem seq_inj {h : Heap} {a : Addr} {xs ys : List Value} (p : h.IsTuple a xs.toArray) (q : h.IsTuple a ys.toArray) : xs = ys := by
  obtain ⟨o, e, _, n, d⟩ := p
  obtain ⟨o', e', _, n', d'⟩ := q
  rw [e] at e'; cases e'
  rw [d] at d'
  injection d' with d1 _
  simpa using congrArg Array.toList d1
theorem lst_inj {h : Heap} {a : Addr} {xs ys : List Value} (p : h.IsList a xs.toArray) (q : h.IsList a ys.toArray) : xs = ys := by
  obtain ⟨o, e, _, n, d⟩ := p
  obtain ⟨o', e', _, n', d'⟩ := q
  rw [e] at e'; cases e'
  rw [d] at d'
  injection d' with d1 _
  simpa using congrArg Array.toList d1
theorem lt_apart {h : Heap} {a : Addr} {xs ys : Array Value} (p : h.IsList a xs) (q : h.IsTuple a ys) : False := by
  obtain ⟨o, e, c, _⟩ := p
  obtain ⟨o', e', c', _⟩ := q
  rw [e] at e'; cases e'
  rw [c] at c'
  exact absurd c' (by decide +kernel)
def isS : RV → Bool
  | .non => true
  | .bl _ => true
  | .int _ => true
  | .str _ => true
  | _ => false
def absR : Value → Option RV
  | .none => some .non
  | .bool b => some (.bl b)
  | .int i _ => some (.int i)
  | .str x _ => some (.str x)
  | _ => none
theorem den_s {h : Heap} {u : Value} : ∀ {x : RV}, isS x = true → Den h x u → absR u = some x
  | .non, _, d => by simp only [Den] at d; subst d; rfl
  | .bl _, _, d => by simp only [Den] at d; subst d; rfl
  | .int _, _, d => by simp only [Den] at d; obtain ⟨t, rfl⟩ := d; rfl
  | .str _, _, d => by simp only [Den] at d; obtain ⟨t, rfl⟩ := d; rfl
theorem den_n {h : Heap} {u : Value} : ∀ {x : RV}, isS x = false → Den h x u → absR u = none
  | .tup _, _, d => by simp only [Den] at d; obtain ⟨a, its, rfl, _⟩ := d; rfl
  | .ls _, _, d => by simp only [Den] at d; obtain ⟨a, its, rfl, _⟩ := d; rfl
  | .ref _, _, d => by simp only [Den] at d
  | .ty _, _, d => by simp only [Den] at d
theorem den_inj {h : Heap} : ∀ (n : Nat) (x y : RV) (u : Value), okR n x = true → okR n y = true → Den h x u → Den h y u → x = y := by
  intro n
  have sc : ∀ (x y : RV) (u : Value), isS x = true → Den h x u → Den h y u → x = y := by
    intro x y u sx dx dy
    have ex := den_s sx dx
    cases sy : isS y with
    | true =>
      have ey := den_s sy dy
      rw [ex] at ey
      exact Option.some.inj ey
    | false =>
      have ey := den_n sy dy
      rw [ex] at ey
      cases ey
  induction n with
  | zero =>
    intro x y u ox oy dx dy
    have sx : isS x = true := by cases x <;> first | rfl | (simp [okR] at ox)
    exact sc x y u sx dx dy
  | succ n ih =>
    have all : ∀ (xs ys : List RV) (us : List Value), xs.all (okR n) = true → ys.all (okR n) = true → Dens h xs us → Dens h ys us → xs = ys := by
      intro xs
      induction xs with
      | nil =>
        intro ys us _ _ d e
        simp only [Dens] at d; subst d
        cases ys with
        | nil => rfl
        | cons y ys => simp only [Dens] at e; obtain ⟨_, _, z, _⟩ := e; cases z
      | cons x xs ihx =>
        intro ys us ox oy d e
        simp only [Dens] at d
        obtain ⟨u, r, rfl, d1, d2⟩ := d
        cases ys with
        | nil => simp only [Dens] at e; cases e
        | cons y ys =>
          simp only [Dens] at e
          obtain ⟨u', r', z, e1, e2⟩ := e
          cases z
          rw [List.all_cons, Bool.and_eq_true] at ox oy
          rw [ih x y u ox.1 oy.1 d1 e1, ihx ys r ox.2 oy.2 d2 e2]
    intro x y u ox oy dx dy
    cases sx : isS x with
    | true => exact sc x y u sx dx dy
    | false =>
      cases sy : isS y with
      | true => exact (sc y x u sy dy dx).symm
      | false =>
        cases x with
        | tup xs =>
          simp only [Den] at dx
          obtain ⟨a, its, rfl, p, d⟩ := dx
          cases y with
          | tup ys =>
            simp only [Den] at dy
            obtain ⟨a', its', z, p', d'⟩ := dy
            cases z
            obtain rfl := seq_inj p p'
            rw [all xs ys its ox oy d d']
          | ls ys =>
            simp only [Den] at dy
            obtain ⟨a', its', z, p', d'⟩ := dy
            cases z
            exact (lt_apart p' p).elim
          | ref _ => simp only [Den] at dy
          | ty _ => simp only [Den] at dy
          | _ => cases sy
        | ls xs =>
          simp only [Den] at dx
          obtain ⟨a, its, rfl, p, d⟩ := dx
          cases y with
          | ls ys =>
            simp only [Den] at dy
            obtain ⟨a', its', z, p', d'⟩ := dy
            cases z
            obtain rfl := lst_inj p p'
            rw [all xs ys its ox oy d d']
          | tup ys =>
            simp only [Den] at dy
            obtain ⟨a', its', z, p', d'⟩ := dy
            cases z
            exact (lt_apart p p').elim
          | ref _ => simp only [Den] at dy
          | ty _ => simp only [Den] at dy
          | _ => cases sy
        | ref _ => simp only [Den] at dx
        | ty _ => simp only [Den] at dx
        | _ => cases sx
mutual
theorem eqR_refl : ∀ (x : RV), (∃ n, okR n x = true) → eqR x x = true
  | .non, _ => by simp [eqR]
  | .bl _, _ => by simp [eqR]
  | .int _, _ => by simp [eqR]
  | .str _, _ => by simp [eqR]
  | .tup xs, ⟨n, o⟩ => by
    rw [eqR]
    refine eqRs_refl xs ?_
    cases n with
    | zero => simp [okR] at o
    | succ n => exact ⟨n, o⟩
  | .ls xs, ⟨n, o⟩ => by
    rw [eqR]
    refine eqRs_refl xs ?_
    cases n with
    | zero => simp [okR] at o
    | succ n => exact ⟨n, o⟩
  | .ref _, ⟨n, o⟩ => by cases n <;> simp [okR] at o
  | .ty _, ⟨n, o⟩ => by cases n <;> simp [okR] at o
theorem eqRs_refl : ∀ (xs : List RV), (∃ n, xs.all (okR n) = true) → eqRs xs xs = true
  | [], _ => by simp [eqRs]
  | x :: xs, ⟨n, o⟩ => by
    rw [List.all_cons, Bool.and_eq_true] at o
    rw [eqRs, eqR_refl x ⟨n, o.1⟩, eqRs_refl xs ⟨n, o.2⟩]; rfl
end
abbrev pairR (xs ys : List RV) (j : Nat) : Bool := eqR (xs.getD j .non) (ys.getD j .non)
theorem eqRs_eq : ∀ xs ys : List RV, ((List.range (min xs.length ys.length)).all (pairR xs ys) && xs.length == ys.length) = eqRs xs ys
  | [], [] => by simp [eqRs]
  | [], _ :: _ => by simp [eqRs]
  | _ :: _, [] => by simp [eqRs]
  | x :: xs, y :: ys => by
    have ih := eqRs_eq xs ys
    have e1 : min (x :: xs).length (y :: ys).length = min xs.length ys.length + 1 := by simp only [List.length_cons]; omega
    have e2 : ((x :: xs).length == (y :: ys).length) = (xs.length == ys.length) := by simp
    have e3 : (List.range (min xs.length ys.length + 1)).all (pairR (x :: xs) (y :: ys)) = (eqR x y && (List.range (min xs.length ys.length)).all (pairR xs ys)) := by
      rw [List.range_succ_eq_map, List.all_cons, List.all_map]
      rfl
    rw [e1, e2, e3, eqRs, ← ih, Bool.and_assoc]
theorem eqRs_same {xs ys : List RV} (h : xs.length = ys.length) : (List.range xs.length).all (pairR xs ys) = eqRs xs ys := by
  have := eqRs_eq xs ys
  rw [← h, Nat.min_self] at this
  simpa using this
theorem eqRs_other {xs ys : List RV} (h : xs.length ≠ ys.length) : eqRs xs ys = false := by
  have := eqRs_eq xs ys
  rw [← this]
  simp [h]
theorem in1_units (A : Around) : A.in1.units = A.units + 1 := rfl
local macro_rules | `(tactic| walk_at "e0") => `(tactic| simp only [eqR, Bool.not_false, Bool.not_true])
theorem eqAt_den : ∀ (n : Nat) (x y : RV) (A : Around) (s : Shared) (u w : Value), okR n x = true → okR n y = true → Den s.heap x u → Den s.heap y w → A.units + n < cLine → EqAt A s u w (eqR x y) := by
  intro n
  induction n with
  | zero =>
    intro x y A s u w ox oy dx dy hu
    cases x with
    | non =>
      simp only [Den] at dx
      cases y with
      | non =>
        simp only [Den] at dy
        subst dx
        subst dy
        walk_at "e0"
        exact EqAt.same _
      | bl y =>
        simp only [Den] at dy
        subst dx
        subst dy
        walk_at "e0"
        exact EqAt.none_bool _
      | int y =>
        simp only [Den] at dy
        subst dx
        obtain ⟨t2, rfl⟩ := dy
        walk_at "e0"
        exact EqAt.none_int _ _
      | str y =>
        simp only [Den] at dy
        subst dx
        obtain ⟨t2, rfl⟩ := dy
        walk_at "e0"
        exact EqAt.none_str _ _
      | ref y => exact (by simpa only [Den] using dy : False).elim
      | ty y => exact (by simpa only [Den] using dy : False).elim
      | tup y => simp [okR] at oy
      | ls y => simp [okR] at oy
    | bl x =>
      simp only [Den] at dx
      cases y with
      | non =>
        simp only [Den] at dy
        subst dx
        subst dy
        walk_at "e0"
        exact EqAt.bool_none _
      | bl y =>
        simp only [Den] at dy
        subst dx
        subst dy
        walk_at "e0"
        exact EqAt.bool_bool _ _
      | int y =>
        simp only [Den] at dy
        subst dx
        obtain ⟨t2, rfl⟩ := dy
        walk_at "e0"
        exact EqAt.bool_int _ _ _
      | str y =>
        simp only [Den] at dy
        subst dx
        obtain ⟨t2, rfl⟩ := dy
        walk_at "e0"
        exact EqAt.bool_str _ _ _
      | ref y => exact (by simpa only [Den] using dy : False).elim
      | ty y => exact (by simpa only [Den] using dy : False).elim
      | tup y => simp [okR] at oy
      | ls y => simp [okR] at oy
    | int x =>
      simp only [Den] at dx
      cases y with
      | non =>
        simp only [Den] at dy
        obtain ⟨t1, rfl⟩ := dx
        subst dy
        walk_at "e0"
        exact EqAt.int_none _ _
      | bl y =>
        simp only [Den] at dy
        obtain ⟨t1, rfl⟩ := dx
        subst dy
        walk_at "e0"
        exact EqAt.int_bool _ _ _
      | int y =>
        simp only [Den] at dy
        obtain ⟨t1, rfl⟩ := dx
        obtain ⟨t2, rfl⟩ := dy
        walk_at "e0"
        exact EqAt.int_int _ _ _ _
      | str y =>
        simp only [Den] at dy
        obtain ⟨t1, rfl⟩ := dx
        obtain ⟨t2, rfl⟩ := dy
        walk_at "e0"
        exact EqAt.int_str _ _ _ _
      | ref y => exact (by simpa only [Den] using dy : False).elim
      | ty y => exact (by simpa only [Den] using dy : False).elim
      | tup y => simp [okR] at oy
      | ls y => simp [okR] at oy
    | str x =>
      simp only [Den] at dx
      cases y with
      | non =>
        simp only [Den] at dy
        obtain ⟨t1, rfl⟩ := dx
        subst dy
        walk_at "e0"
        exact EqAt.str_none _ _
      | bl y =>
        simp only [Den] at dy
        obtain ⟨t1, rfl⟩ := dx
        subst dy
        walk_at "e0"
        exact EqAt.str_bool _ _ _
      | int y =>
        simp only [Den] at dy
        obtain ⟨t1, rfl⟩ := dx
        obtain ⟨t2, rfl⟩ := dy
        walk_at "e0"
        exact EqAt.str_int _ _ _ _
      | str y =>
        simp only [Den] at dy
        obtain ⟨t1, rfl⟩ := dx
        obtain ⟨t2, rfl⟩ := dy
        walk_at "e0"
        exact EqAt.str_str _ _ _ _
      | ref y => exact (by simpa only [Den] using dy : False).elim
      | ty y => exact (by simpa only [Den] using dy : False).elim
      | tup y => simp [okR] at oy
      | ls y => simp [okR] at oy
    | ref x => exact (by simpa only [Den] using dx : False).elim
    | ty x => exact (by simpa only [Den] using dx : False).elim
    | tup x => simp [okR] at ox
    | ls x => simp [okR] at ox
  | succ n ih =>
    intro x y A s u w ox oy dx dy hu
    have hu0 : A.units < cLine := by omega
    have item : ∀ (xs ys : List RV) (us ws : List Value), xs.all (okR n) = true → ys.all (okR n) = true → Dens s.heap xs us → Dens s.heap ys ws →
        ∀ j (j1 : j < us.toArray.size) (j2 : j < ws.toArray.size), EqAt A.in1 s us.toArray[j] ws.toArray[j] (pairR xs ys j) := fun xs ys us ws o1 o2 d1 d2 j j1 j2 => by
      obtain ⟨a1, b1⟩ := d1.get (j := j) (u := us.toArray[j]) (by simp)
      obtain ⟨a2, b2⟩ := d2.get (j := j) (u := ws.toArray[j]) (by simp)
      exact ih _ _ A.in1 s _ _ (List.all_eq_true.mp o1 _ b1) (List.all_eq_true.mp o2 _ b2) a1 a2 (by rw [in1_units]; omega)
    have same_EqAt_tup : ∀ (xs ys : List RV) (a a' : Addr) (its its' : List Value), s.heap.IsTuple a its.toArray → s.heap.IsTuple a' its'.toArray → Dens s.heap xs its → Dens s.heap ys its' → okR (n + 1) (.tup xs) = true → okR (n + 1) (.tup ys) = true → EqAt A s (.ref a) (.ref a') (eqR (RV.tup xs) (RV.tup ys)) := by
      intro xs ys a a' its its' p p' d d' ox oy
      by_cases ha : a = a'
      · subst ha
        obtain rfl := seq_inj p p'
        have e : RV.tup xs = RV.tup ys := den_inj (n + 1) _ _ (.ref a) ox oy (by simp only [Den]; exact ⟨a, its, rfl, p, d⟩) (by simp only [Den]; exact ⟨a, its, rfl, p, d'⟩)
        rw [← e, eqR_refl _ ⟨_, ox⟩]
        exact EqAt.same _
      refine EqAt.of_refs ha ?_
      rw [eqR, ← eqRs_eq, d.length, d'.length]
      have := RcAt.tuples p p' hu0 (item xs ys its its' ox oy d d')
      simpa using this
    have same_EqAt_ls : ∀ (xs ys : List RV) (a a' : Addr) (its its' : List Value), s.heap.IsList a its.toArray → s.heap.IsList a' its'.toArray → Dens s.heap xs its → Dens s.heap ys its' → okR (n + 1) (.ls xs) = true → okR (n + 1) (.ls ys) = true → EqAt A s (.ref a) (.ref a') (eqR (RV.ls xs) (RV.ls ys)) := by
      intro xs ys a a' its its' p p' d d' ox oy
      by_cases ha : a = a'
      · subst ha
        obtain rfl := lst_inj p p'
        have e : RV.ls xs = RV.ls ys := den_inj (n + 1) _ _ (.ref a) ox oy (by simp only [Den]; exact ⟨a, its, rfl, p, d⟩) (by simp only [Den]; exact ⟨a, its, rfl, p, d'⟩)
        rw [← e, eqR_refl _ ⟨_, ox⟩]
        exact EqAt.same _
      refine EqAt.of_refs ha ?_
      rw [eqR]
      by_cases hz : xs.length = ys.length
      · rw [← eqRs_same hz, d.length]
        have := RcAt.lists p p' (by simp [← d.length, ← d'.length, hz]) hu0 (item xs ys its its' ox oy d d')
        simpa using this
      · rw [eqRs_other hz]
        exact RcAt.lists_lengths p p' (by simp [← d.length, ← d'.length, hz]) hu0
    cases x with
    | non =>
      simp only [Den] at dx
      cases y with
      | non =>
        simp only [Den] at dy
        subst dx
        subst dy
        walk_at "e0"
        exact EqAt.same _
      | bl y =>
        simp only [Den] at dy
        subst dx
        subst dy
        walk_at "e0"
        exact EqAt.none_bool _
      | int y =>
        simp only [Den] at dy
        subst dx
        obtain ⟨t2, rfl⟩ := dy
        walk_at "e0"
        exact EqAt.none_int _ _
      | str y =>
        simp only [Den] at dy
        subst dx
        obtain ⟨t2, rfl⟩ := dy
        walk_at "e0"
        exact EqAt.none_str _ _
      | tup y =>
        simp only [Den] at dy
        subst dx
        obtain ⟨a2, its2, rfl, p2, d2⟩ := dy
        walk_at "e0"
        exact EqAt.none_tuple p2 hu0
      | ls y =>
        simp only [Den] at dy
        subst dx
        obtain ⟨a2, its2, rfl, p2, d2⟩ := dy
        walk_at "e0"
        exact EqAt.none_list p2 hu0
      | ref y => exact (by simpa only [Den] using dy : False).elim
      | ty y => exact (by simpa only [Den] using dy : False).elim
    | bl x =>
      simp only [Den] at dx
      cases y with
      | non =>
        simp only [Den] at dy
        subst dx
        subst dy
        walk_at "e0"
        exact EqAt.bool_none _
      | bl y =>
        simp only [Den] at dy
        subst dx
        subst dy
        walk_at "e0"
        exact EqAt.bool_bool _ _
      | int y =>
        simp only [Den] at dy
        subst dx
        obtain ⟨t2, rfl⟩ := dy
        walk_at "e0"
        exact EqAt.bool_int _ _ _
      | str y =>
        simp only [Den] at dy
        subst dx
        obtain ⟨t2, rfl⟩ := dy
        walk_at "e0"
        exact EqAt.bool_str _ _ _
      | tup y =>
        simp only [Den] at dy
        subst dx
        obtain ⟨a2, its2, rfl, p2, d2⟩ := dy
        walk_at "e0"
        exact EqAt.bool_tuple _ p2 hu0
      | ls y =>
        simp only [Den] at dy
        subst dx
        obtain ⟨a2, its2, rfl, p2, d2⟩ := dy
        walk_at "e0"
        exact EqAt.bool_list _ p2 hu0
      | ref y => exact (by simpa only [Den] using dy : False).elim
      | ty y => exact (by simpa only [Den] using dy : False).elim
    | int x =>
      simp only [Den] at dx
      cases y with
      | non =>
        simp only [Den] at dy
        obtain ⟨t1, rfl⟩ := dx
        subst dy
        walk_at "e0"
        exact EqAt.int_none _ _
      | bl y =>
        simp only [Den] at dy
        obtain ⟨t1, rfl⟩ := dx
        subst dy
        walk_at "e0"
        exact EqAt.int_bool _ _ _
      | int y =>
        simp only [Den] at dy
        obtain ⟨t1, rfl⟩ := dx
        obtain ⟨t2, rfl⟩ := dy
        walk_at "e0"
        exact EqAt.int_int _ _ _ _
      | str y =>
        simp only [Den] at dy
        obtain ⟨t1, rfl⟩ := dx
        obtain ⟨t2, rfl⟩ := dy
        walk_at "e0"
        exact EqAt.int_str _ _ _ _
      | tup y =>
        simp only [Den] at dy
        obtain ⟨t1, rfl⟩ := dx
        obtain ⟨a2, its2, rfl, p2, d2⟩ := dy
        walk_at "e0"
        exact EqAt.int_tuple _ _ p2 hu0
      | ls y =>
        simp only [Den] at dy
        obtain ⟨t1, rfl⟩ := dx
        obtain ⟨a2, its2, rfl, p2, d2⟩ := dy
        walk_at "e0"
        exact EqAt.int_list _ _ p2 hu0
      | ref y => exact (by simpa only [Den] using dy : False).elim
      | ty y => exact (by simpa only [Den] using dy : False).elim
    | str x =>
      simp only [Den] at dx
      cases y with
      | non =>
        simp only [Den] at dy
        obtain ⟨t1, rfl⟩ := dx
        subst dy
        walk_at "e0"
        exact EqAt.str_none _ _
      | bl y =>
        simp only [Den] at dy
        obtain ⟨t1, rfl⟩ := dx
        subst dy
        walk_at "e0"
        exact EqAt.str_bool _ _ _
      | int y =>
        simp only [Den] at dy
        obtain ⟨t1, rfl⟩ := dx
        obtain ⟨t2, rfl⟩ := dy
        walk_at "e0"
        exact EqAt.str_int _ _ _ _
      | str y =>
        simp only [Den] at dy
        obtain ⟨t1, rfl⟩ := dx
        obtain ⟨t2, rfl⟩ := dy
        walk_at "e0"
        exact EqAt.str_str _ _ _ _
      | tup y =>
        simp only [Den] at dy
        obtain ⟨t1, rfl⟩ := dx
        obtain ⟨a2, its2, rfl, p2, d2⟩ := dy
        walk_at "e0"
        exact EqAt.str_tuple _ _ p2 hu0
      | ls y =>
        simp only [Den] at dy
        obtain ⟨t1, rfl⟩ := dx
        obtain ⟨a2, its2, rfl, p2, d2⟩ := dy
        walk_at "e0"
        exact EqAt.str_list _ _ p2 hu0
      | ref y => exact (by simpa only [Den] using dy : False).elim
      | ty y => exact (by simpa only [Den] using dy : False).elim
    | tup x =>
      simp only [Den] at dx
      cases y with
      | non =>
        simp only [Den] at dy
        obtain ⟨a1, its1, rfl, p1, d1⟩ := dx
        subst dy
        walk_at "e0"
        exact EqAt.tuple_none p1 hu0
      | bl y =>
        simp only [Den] at dy
        obtain ⟨a1, its1, rfl, p1, d1⟩ := dx
        subst dy
        walk_at "e0"
        exact EqAt.tuple_bool _ p1 hu0
      | int y =>
        simp only [Den] at dy
        obtain ⟨a1, its1, rfl, p1, d1⟩ := dx
        obtain ⟨t2, rfl⟩ := dy
        walk_at "e0"
        exact EqAt.tuple_int _ _ p1 hu0
      | str y =>
        simp only [Den] at dy
        obtain ⟨a1, its1, rfl, p1, d1⟩ := dx
        obtain ⟨t2, rfl⟩ := dy
        walk_at "e0"
        exact EqAt.tuple_str _ _ p1 hu0
      | tup y =>
        simp only [Den] at dy
        obtain ⟨a1, its1, rfl, p1, d1⟩ := dx
        obtain ⟨a2, its2, rfl, p2, d2⟩ := dy
        exact same_EqAt_tup x y _ _ _ _ p1 p2 d1 d2 ox oy
      | ls y =>
        simp only [Den] at dy
        obtain ⟨a1, its1, rfl, p1, d1⟩ := dx
        obtain ⟨a2, its2, rfl, p2, d2⟩ := dy
        walk_at "e0"
        exact EqAt.tuple_list p1 p2 hu0
      | ref y => exact (by simpa only [Den] using dy : False).elim
      | ty y => exact (by simpa only [Den] using dy : False).elim
    | ls x =>
      simp only [Den] at dx
      cases y with
      | non =>
        simp only [Den] at dy
        obtain ⟨a1, its1, rfl, p1, d1⟩ := dx
        subst dy
        walk_at "e0"
        exact EqAt.list_none p1 hu0
      | bl y =>
        simp only [Den] at dy
        obtain ⟨a1, its1, rfl, p1, d1⟩ := dx
        subst dy
        walk_at "e0"
        exact EqAt.list_bool _ p1 hu0
      | int y =>
        simp only [Den] at dy
        obtain ⟨a1, its1, rfl, p1, d1⟩ := dx
        obtain ⟨t2, rfl⟩ := dy
        walk_at "e0"
        exact EqAt.list_int _ _ p1 hu0
      | str y =>
        simp only [Den] at dy
        obtain ⟨a1, its1, rfl, p1, d1⟩ := dx
        obtain ⟨t2, rfl⟩ := dy
        walk_at "e0"
        exact EqAt.list_str _ _ p1 hu0
      | tup y =>
        simp only [Den] at dy
        obtain ⟨a1, its1, rfl, p1, d1⟩ := dx
        obtain ⟨a2, its2, rfl, p2, d2⟩ := dy
        walk_at "e0"
        exact EqAt.list_tuple p1 p2 hu0
      | ls y =>
        simp only [Den] at dy
        obtain ⟨a1, its1, rfl, p1, d1⟩ := dx
        obtain ⟨a2, its2, rfl, p2, d2⟩ := dy
        exact same_EqAt_ls x y _ _ _ _ p1 p2 d1 d2 ox oy
      | ref y => exact (by simpa only [Den] using dy : False).elim
      | ty y => exact (by simpa only [Den] using dy : False).elim
    | ref x => exact (by simpa only [Den] using dx : False).elim
    | ty x => exact (by simpa only [Den] using dx : False).elim
theorem rcNeAt_den (n : Nat) (x y : RV) (A : Around) (s : Shared) (u w : Value) (ox : okR (n + 1) x = true) (oy : okR (n + 1) y = true) (dx : Den s.heap x u) (dy : Den s.heap y w) (hu : A.units + (n + 1) < cLine) : RcNeAt A s u w (!eqR x y) := by
    have hu0 : A.units < cLine := by omega
    have item : ∀ (xs ys : List RV) (us ws : List Value), xs.all (okR n) = true → ys.all (okR n) = true → Dens s.heap xs us → Dens s.heap ys ws →
        ∀ j (j1 : j < us.toArray.size) (j2 : j < ws.toArray.size), EqAt A.in1 s us.toArray[j] ws.toArray[j] (pairR xs ys j) := fun xs ys us ws o1 o2 d1 d2 j j1 j2 => by
      obtain ⟨a1, b1⟩ := d1.get (j := j) (u := us.toArray[j]) (by simp)
      obtain ⟨a2, b2⟩ := d2.get (j := j) (u := ws.toArray[j]) (by simp)
      exact eqAt_den n _ _ A.in1 s _ _ (List.all_eq_true.mp o1 _ b1) (List.all_eq_true.mp o2 _ b2) a1 a2 (by rw [in1_units]; omega)
    have same_RcNeAt_tup : ∀ (xs ys : List RV) (a a' : Addr) (its its' : List Value), s.heap.IsTuple a its.toArray → s.heap.IsTuple a' its'.toArray → Dens s.heap xs its → Dens s.heap ys its' → okR (n + 1) (.tup xs) = true → okR (n + 1) (.tup ys) = true → RcNeAt A s (.ref a) (.ref a') (!eqR (RV.tup xs) (RV.tup ys)) := by
      intro xs ys a a' its its' p p' d d' ox oy
      rw [eqR, ← eqRs_eq, d.length, d'.length]
      have := RcNeAt.tuples p p' hu0 (item xs ys its its' ox oy d d')
      simpa using this
    have same_RcNeAt_ls : ∀ (xs ys : List RV) (a a' : Addr) (its its' : List Value), s.heap.IsList a its.toArray → s.heap.IsList a' its'.toArray → Dens s.heap xs its → Dens s.heap ys its' → okR (n + 1) (.ls xs) = true → okR (n + 1) (.ls ys) = true → RcNeAt A s (.ref a) (.ref a') (!eqR (RV.ls xs) (RV.ls ys)) := by
      intro xs ys a a' its its' p p' d d' ox oy
      rw [eqR]
      by_cases hz : xs.length = ys.length
      · rw [← eqRs_same hz, d.length]
        have := RcNeAt.lists p p' (by simp [← d.length, ← d'.length, hz]) hu0 (item xs ys its its' ox oy d d')
        simpa using this
      · rw [eqRs_other hz]
        exact RcNeAt.lists_lengths p p' (by simp [← d.length, ← d'.length, hz]) hu0
    cases x with
    | non =>
      simp only [Den] at dx
      cases y with
      | non =>
        simp only [Den] at dy
        subst dx
        subst dy
        walk_at "e0"
        exact RcNeAt.none_none
      | bl y =>
        simp only [Den] at dy
        subst dx
        subst dy
        walk_at "e0"
        exact RcNeAt.none_bool _
      | int y =>
        simp only [Den] at dy
        subst dx
        obtain ⟨t2, rfl⟩ := dy
        walk_at "e0"
        exact RcNeAt.none_int _ _
      | str y =>
        simp only [Den] at dy
        subst dx
        obtain ⟨t2, rfl⟩ := dy
        walk_at "e0"
        exact RcNeAt.none_str _ _
      | tup y =>
        simp only [Den] at dy
        subst dx
        obtain ⟨a2, its2, rfl, p2, d2⟩ := dy
        walk_at "e0"
        exact RcNeAt.none_tuple p2 hu0
      | ls y =>
        simp only [Den] at dy
        subst dx
        obtain ⟨a2, its2, rfl, p2, d2⟩ := dy
        walk_at "e0"
        exact RcNeAt.none_list p2 hu0
      | ref y => exact (by simpa only [Den] using dy : False).elim
      | ty y => exact (by simpa only [Den] using dy : False).elim
    | bl x =>
      simp only [Den] at dx
      cases y with
      | non =>
        simp only [Den] at dy
        subst dx
        subst dy
        walk_at "e0"
        exact RcNeAt.bool_none _
      | bl y =>
        simp only [Den] at dy
        subst dx
        subst dy
        walk_at "e0"
        exact RcNeAt.bool_bool _ _
      | int y =>
        simp only [Den] at dy
        subst dx
        obtain ⟨t2, rfl⟩ := dy
        walk_at "e0"
        exact RcNeAt.bool_int _ _ _
      | str y =>
        simp only [Den] at dy
        subst dx
        obtain ⟨t2, rfl⟩ := dy
        walk_at "e0"
        exact RcNeAt.bool_str _ _ _
      | tup y =>
        simp only [Den] at dy
        subst dx
        obtain ⟨a2, its2, rfl, p2, d2⟩ := dy
        walk_at "e0"
        exact RcNeAt.bool_tuple _ p2 hu0
      | ls y =>
        simp only [Den] at dy
        subst dx
        obtain ⟨a2, its2, rfl, p2, d2⟩ := dy
        walk_at "e0"
        exact RcNeAt.bool_list _ p2 hu0
      | ref y => exact (by simpa only [Den] using dy : False).elim
      | ty y => exact (by simpa only [Den] using dy : False).elim
    | int x =>
      simp only [Den] at dx
      cases y with
      | non =>
        simp only [Den] at dy
        obtain ⟨t1, rfl⟩ := dx
        subst dy
        walk_at "e0"
        exact RcNeAt.int_none _ _
      | bl y =>
        simp only [Den] at dy
        obtain ⟨t1, rfl⟩ := dx
        subst dy
        walk_at "e0"
        exact RcNeAt.int_bool _ _ _
      | int y =>
        simp only [Den] at dy
        obtain ⟨t1, rfl⟩ := dx
        obtain ⟨t2, rfl⟩ := dy
        walk_at "e0"
        exact RcNeAt.int_int _ _ _ _
      | str y =>
        simp only [Den] at dy
        obtain ⟨t1, rfl⟩ := dx
        obtain ⟨t2, rfl⟩ := dy
        walk_at "e0"
        exact RcNeAt.int_str _ _ _ _
      | tup y =>
        simp only [Den] at dy
        obtain ⟨t1, rfl⟩ := dx
        obtain ⟨a2, its2, rfl, p2, d2⟩ := dy
        walk_at "e0"
        exact RcNeAt.int_tuple _ _ p2 hu0
      | ls y =>
        simp only [Den] at dy
        obtain ⟨t1, rfl⟩ := dx
        obtain ⟨a2, its2, rfl, p2, d2⟩ := dy
        walk_at "e0"
        exact RcNeAt.int_list _ _ p2 hu0
      | ref y => exact (by simpa only [Den] using dy : False).elim
      | ty y => exact (by simpa only [Den] using dy : False).elim
    | str x =>
      simp only [Den] at dx
      cases y with
      | non =>
        simp only [Den] at dy
        obtain ⟨t1, rfl⟩ := dx
        subst dy
        walk_at "e0"
        exact RcNeAt.str_none _ _
      | bl y =>
        simp only [Den] at dy
        obtain ⟨t1, rfl⟩ := dx
        subst dy
        walk_at "e0"
        exact RcNeAt.str_bool _ _ _
      | int y =>
        simp only [Den] at dy
        obtain ⟨t1, rfl⟩ := dx
        obtain ⟨t2, rfl⟩ := dy
        walk_at "e0"
        exact RcNeAt.str_int _ _ _ _
      | str y =>
        simp only [Den] at dy
        obtain ⟨t1, rfl⟩ := dx
        obtain ⟨t2, rfl⟩ := dy
        walk_at "e0"
        exact RcNeAt.str_str _ _ _ _
      | tup y =>
        simp only [Den] at dy
        obtain ⟨t1, rfl⟩ := dx
        obtain ⟨a2, its2, rfl, p2, d2⟩ := dy
        walk_at "e0"
        exact RcNeAt.str_tuple _ _ p2 hu0
      | ls y =>
        simp only [Den] at dy
        obtain ⟨t1, rfl⟩ := dx
        obtain ⟨a2, its2, rfl, p2, d2⟩ := dy
        walk_at "e0"
        exact RcNeAt.str_list _ _ p2 hu0
      | ref y => exact (by simpa only [Den] using dy : False).elim
      | ty y => exact (by simpa only [Den] using dy : False).elim
    | tup x =>
      simp only [Den] at dx
      cases y with
      | non =>
        simp only [Den] at dy
        obtain ⟨a1, its1, rfl, p1, d1⟩ := dx
        subst dy
        walk_at "e0"
        exact RcNeAt.tuple_none p1 hu0
      | bl y =>
        simp only [Den] at dy
        obtain ⟨a1, its1, rfl, p1, d1⟩ := dx
        subst dy
        walk_at "e0"
        exact RcNeAt.tuple_bool _ p1 hu0
      | int y =>
        simp only [Den] at dy
        obtain ⟨a1, its1, rfl, p1, d1⟩ := dx
        obtain ⟨t2, rfl⟩ := dy
        walk_at "e0"
        exact RcNeAt.tuple_int _ _ p1 hu0
      | str y =>
        simp only [Den] at dy
        obtain ⟨a1, its1, rfl, p1, d1⟩ := dx
        obtain ⟨t2, rfl⟩ := dy
        walk_at "e0"
        exact RcNeAt.tuple_str _ _ p1 hu0
      | tup y =>
        simp only [Den] at dy
        obtain ⟨a1, its1, rfl, p1, d1⟩ := dx
        obtain ⟨a2, its2, rfl, p2, d2⟩ := dy
        exact same_RcNeAt_tup x y _ _ _ _ p1 p2 d1 d2 ox oy
      | ls y =>
        simp only [Den] at dy
        obtain ⟨a1, its1, rfl, p1, d1⟩ := dx
        obtain ⟨a2, its2, rfl, p2, d2⟩ := dy
        walk_at "e0"
        exact RcNeAt.tuple_list p1 p2 hu0
      | ref y => exact (by simpa only [Den] using dy : False).elim
      | ty y => exact (by simpa only [Den] using dy : False).elim
    | ls x =>
      simp only [Den] at dx
      cases y with
      | non =>
        simp only [Den] at dy
        obtain ⟨a1, its1, rfl, p1, d1⟩ := dx
        subst dy
        walk_at "e0"
        exact RcNeAt.list_none p1 hu0
      | bl y =>
        simp only [Den] at dy
        obtain ⟨a1, its1, rfl, p1, d1⟩ := dx
        subst dy
        walk_at "e0"
        exact RcNeAt.list_bool _ p1 hu0
      | int y =>
        simp only [Den] at dy
        obtain ⟨a1, its1, rfl, p1, d1⟩ := dx
        obtain ⟨t2, rfl⟩ := dy
        walk_at "e0"
        exact RcNeAt.list_int _ _ p1 hu0
      | str y =>
        simp only [Den] at dy
        obtain ⟨a1, its1, rfl, p1, d1⟩ := dx
        obtain ⟨t2, rfl⟩ := dy
        walk_at "e0"
        exact RcNeAt.list_str _ _ p1 hu0
      | tup y =>
        simp only [Den] at dy
        obtain ⟨a1, its1, rfl, p1, d1⟩ := dx
        obtain ⟨a2, its2, rfl, p2, d2⟩ := dy
        walk_at "e0"
        exact RcNeAt.list_tuple p1 p2 hu0
      | ls y =>
        simp only [Den] at dy
        obtain ⟨a1, its1, rfl, p1, d1⟩ := dx
        obtain ⟨a2, its2, rfl, p2, d2⟩ := dy
        exact same_RcNeAt_ls x y _ _ _ _ p1 p2 d1 d2 ox oy
      | ref y => exact (by simpa only [Den] using dy : False).elim
      | ty y => exact (by simpa only [Den] using dy : False).elim
    | ref x => exact (by simpa only [Den] using dx : False).elim
    | ty x => exact (by simpa only [Den] using dx : False).elim
theorem rcAt_den (n : Nat) (x y : RV) (A : Around) (s : Shared) (u w : Value) (ox : okR (n + 1) x = true) (oy : okR (n + 1) y = true) (dx : Den s.heap x u) (dy : Den s.heap y w) (hu : A.units + (n + 1) < cLine) : RcAt A s u w (eqR x y) := by
    have hu0 : A.units < cLine := by omega
    have item : ∀ (xs ys : List RV) (us ws : List Value), xs.all (okR n) = true → ys.all (okR n) = true → Dens s.heap xs us → Dens s.heap ys ws →
        ∀ j (j1 : j < us.toArray.size) (j2 : j < ws.toArray.size), EqAt A.in1 s us.toArray[j] ws.toArray[j] (pairR xs ys j) := fun xs ys us ws o1 o2 d1 d2 j j1 j2 => by
      obtain ⟨a1, b1⟩ := d1.get (j := j) (u := us.toArray[j]) (by simp)
      obtain ⟨a2, b2⟩ := d2.get (j := j) (u := ws.toArray[j]) (by simp)
      exact eqAt_den n _ _ A.in1 s _ _ (List.all_eq_true.mp o1 _ b1) (List.all_eq_true.mp o2 _ b2) a1 a2 (by rw [in1_units]; omega)
    have same_RcAt_tup : ∀ (xs ys : List RV) (a a' : Addr) (its its' : List Value), s.heap.IsTuple a its.toArray → s.heap.IsTuple a' its'.toArray → Dens s.heap xs its → Dens s.heap ys its' → okR (n + 1) (.tup xs) = true → okR (n + 1) (.tup ys) = true → RcAt A s (.ref a) (.ref a') (eqR (RV.tup xs) (RV.tup ys)) := by
      intro xs ys a a' its its' p p' d d' ox oy
      rw [eqR, ← eqRs_eq, d.length, d'.length]
      have := RcAt.tuples p p' hu0 (item xs ys its its' ox oy d d')
      simpa using this
    have same_RcAt_ls : ∀ (xs ys : List RV) (a a' : Addr) (its its' : List Value), s.heap.IsList a its.toArray → s.heap.IsList a' its'.toArray → Dens s.heap xs its → Dens s.heap ys its' → okR (n + 1) (.ls xs) = true → okR (n + 1) (.ls ys) = true → RcAt A s (.ref a) (.ref a') (eqR (RV.ls xs) (RV.ls ys)) := by
      intro xs ys a a' its its' p p' d d' ox oy
      rw [eqR]
      by_cases hz : xs.length = ys.length
      · rw [← eqRs_same hz, d.length]
        have := RcAt.lists p p' (by simp [← d.length, ← d'.length, hz]) hu0 (item xs ys its its' ox oy d d')
        simpa using this
      · rw [eqRs_other hz]
        exact RcAt.lists_lengths p p' (by simp [← d.length, ← d'.length, hz]) hu0
    cases x with
    | non =>
      simp only [Den] at dx
      cases y with
      | non =>
        simp only [Den] at dy
        subst dx
        subst dy
        walk_at "e0"
        exact RcAt.none_none
      | bl y =>
        simp only [Den] at dy
        subst dx
        subst dy
        walk_at "e0"
        exact RcAt.none_bool _
      | int y =>
        simp only [Den] at dy
        subst dx
        obtain ⟨t2, rfl⟩ := dy
        walk_at "e0"
        exact RcAt.none_int _ _
      | str y =>
        simp only [Den] at dy
        subst dx
        obtain ⟨t2, rfl⟩ := dy
        walk_at "e0"
        exact RcAt.none_str _ _
      | tup y =>
        simp only [Den] at dy
        subst dx
        obtain ⟨a2, its2, rfl, p2, d2⟩ := dy
        walk_at "e0"
        exact RcAt.none_tuple p2 hu0
      | ls y =>
        simp only [Den] at dy
        subst dx
        obtain ⟨a2, its2, rfl, p2, d2⟩ := dy
        walk_at "e0"
        exact RcAt.none_list p2 hu0
      | ref y => exact (by simpa only [Den] using dy : False).elim
      | ty y => exact (by simpa only [Den] using dy : False).elim
    | bl x =>
      simp only [Den] at dx
      cases y with
      | non =>
        simp only [Den] at dy
        subst dx
        subst dy
        walk_at "e0"
        exact RcAt.bool_none _
      | bl y =>
        simp only [Den] at dy
        subst dx
        subst dy
        walk_at "e0"
        exact RcAt.bool_bool _ _
      | int y =>
        simp only [Den] at dy
        subst dx
        obtain ⟨t2, rfl⟩ := dy
        walk_at "e0"
        exact RcAt.bool_int _ _ _
      | str y =>
        simp only [Den] at dy
        subst dx
        obtain ⟨t2, rfl⟩ := dy
        walk_at "e0"
        exact RcAt.bool_str _ _ _
      | tup y =>
        simp only [Den] at dy
        subst dx
        obtain ⟨a2, its2, rfl, p2, d2⟩ := dy
        walk_at "e0"
        exact RcAt.bool_tuple _ p2 hu0
      | ls y =>
        simp only [Den] at dy
        subst dx
        obtain ⟨a2, its2, rfl, p2, d2⟩ := dy
        walk_at "e0"
        exact RcAt.bool_list _ p2 hu0
      | ref y => exact (by simpa only [Den] using dy : False).elim
      | ty y => exact (by simpa only [Den] using dy : False).elim
    | int x =>
      simp only [Den] at dx
      cases y with
      | non =>
        simp only [Den] at dy
        obtain ⟨t1, rfl⟩ := dx
        subst dy
        walk_at "e0"
        exact RcAt.int_none _ _
      | bl y =>
        simp only [Den] at dy
        obtain ⟨t1, rfl⟩ := dx
        subst dy
        walk_at "e0"
        exact RcAt.int_bool _ _ _
      | int y =>
        simp only [Den] at dy
        obtain ⟨t1, rfl⟩ := dx
        obtain ⟨t2, rfl⟩ := dy
        walk_at "e0"
        exact RcAt.int_int _ _ _ _
      | str y =>
        simp only [Den] at dy
        obtain ⟨t1, rfl⟩ := dx
        obtain ⟨t2, rfl⟩ := dy
        walk_at "e0"
        exact RcAt.int_str _ _ _ _
      | tup y =>
        simp only [Den] at dy
        obtain ⟨t1, rfl⟩ := dx
        obtain ⟨a2, its2, rfl, p2, d2⟩ := dy
        walk_at "e0"
        exact RcAt.int_tuple _ _ p2 hu0
      | ls y =>
        simp only [Den] at dy
        obtain ⟨t1, rfl⟩ := dx
        obtain ⟨a2, its2, rfl, p2, d2⟩ := dy
        walk_at "e0"
        exact RcAt.int_list _ _ p2 hu0
      | ref y => exact (by simpa only [Den] using dy : False).elim
      | ty y => exact (by simpa only [Den] using dy : False).elim
    | str x =>
      simp only [Den] at dx
      cases y with
      | non =>
        simp only [Den] at dy
        obtain ⟨t1, rfl⟩ := dx
        subst dy
        walk_at "e0"
        exact RcAt.str_none _ _
      | bl y =>
        simp only [Den] at dy
        obtain ⟨t1, rfl⟩ := dx
        subst dy
        walk_at "e0"
        exact RcAt.str_bool _ _ _
      | int y =>
        simp only [Den] at dy
        obtain ⟨t1, rfl⟩ := dx
        obtain ⟨t2, rfl⟩ := dy
        walk_at "e0"
        exact RcAt.str_int _ _ _ _
      | str y =>
        simp only [Den] at dy
        obtain ⟨t1, rfl⟩ := dx
        obtain ⟨t2, rfl⟩ := dy
        walk_at "e0"
        exact RcAt.str_str _ _ _ _
      | tup y =>
        simp only [Den] at dy
        obtain ⟨t1, rfl⟩ := dx
        obtain ⟨a2, its2, rfl, p2, d2⟩ := dy
        walk_at "e0"
        exact RcAt.str_tuple _ _ p2 hu0
      | ls y =>
        simp only [Den] at dy
        obtain ⟨t1, rfl⟩ := dx
        obtain ⟨a2, its2, rfl, p2, d2⟩ := dy
        walk_at "e0"
        exact RcAt.str_list _ _ p2 hu0
      | ref y => exact (by simpa only [Den] using dy : False).elim
      | ty y => exact (by simpa only [Den] using dy : False).elim
    | tup x =>
      simp only [Den] at dx
      cases y with
      | non =>
        simp only [Den] at dy
        obtain ⟨a1, its1, rfl, p1, d1⟩ := dx
        subst dy
        walk_at "e0"
        exact RcAt.tuple_none p1 hu0
      | bl y =>
        simp only [Den] at dy
        obtain ⟨a1, its1, rfl, p1, d1⟩ := dx
        subst dy
        walk_at "e0"
        exact RcAt.tuple_bool _ p1 hu0
      | int y =>
        simp only [Den] at dy
        obtain ⟨a1, its1, rfl, p1, d1⟩ := dx
        obtain ⟨t2, rfl⟩ := dy
        walk_at "e0"
        exact RcAt.tuple_int _ _ p1 hu0
      | str y =>
        simp only [Den] at dy
        obtain ⟨a1, its1, rfl, p1, d1⟩ := dx
        obtain ⟨t2, rfl⟩ := dy
        walk_at "e0"
        exact RcAt.tuple_str _ _ p1 hu0
      | tup y =>
        simp only [Den] at dy
        obtain ⟨a1, its1, rfl, p1, d1⟩ := dx
        obtain ⟨a2, its2, rfl, p2, d2⟩ := dy
        exact same_RcAt_tup x y _ _ _ _ p1 p2 d1 d2 ox oy
      | ls y =>
        simp only [Den] at dy
        obtain ⟨a1, its1, rfl, p1, d1⟩ := dx
        obtain ⟨a2, its2, rfl, p2, d2⟩ := dy
        walk_at "e0"
        exact RcAt.tuple_list p1 p2 hu0
      | ref y => exact (by simpa only [Den] using dy : False).elim
      | ty y => exact (by simpa only [Den] using dy : False).elim
    | ls x =>
      simp only [Den] at dx
      cases y with
      | non =>
        simp only [Den] at dy
        obtain ⟨a1, its1, rfl, p1, d1⟩ := dx
        subst dy
        walk_at "e0"
        exact RcAt.list_none p1 hu0
      | bl y =>
        simp only [Den] at dy
        obtain ⟨a1, its1, rfl, p1, d1⟩ := dx
        subst dy
        walk_at "e0"
        exact RcAt.list_bool _ p1 hu0
      | int y =>
        simp only [Den] at dy
        obtain ⟨a1, its1, rfl, p1, d1⟩ := dx
        obtain ⟨t2, rfl⟩ := dy
        walk_at "e0"
        exact RcAt.list_int _ _ p1 hu0
      | str y =>
        simp only [Den] at dy
        obtain ⟨a1, its1, rfl, p1, d1⟩ := dx
        obtain ⟨t2, rfl⟩ := dy
        walk_at "e0"
        exact RcAt.list_str _ _ p1 hu0
      | tup y =>
        simp only [Den] at dy
        obtain ⟨a1, its1, rfl, p1, d1⟩ := dx
        obtain ⟨a2, its2, rfl, p2, d2⟩ := dy
        walk_at "e0"
        exact RcAt.list_tuple p1 p2 hu0
      | ls y =>
        simp only [Den] at dy
        obtain ⟨a1, its1, rfl, p1, d1⟩ := dx
        obtain ⟨a2, its2, rfl, p2, d2⟩ := dy
        exact same_RcAt_ls x y _ _ _ _ p1 p2 d1 d2 ox oy
      | ref y => exact (by simpa only [Den] using dy : False).elim
      | ty y => exact (by simpa only [Den] using dy : False).elim
    | ref x => exact (by simpa only [Den] using dx : False).elim
    | ty x => exact (by simpa only [Den] using dx : False).elim
end R
namespace R
open PySem PySem.Spec PyProof.Rows L2
section
variable {X : Cx}
theorem ropI {f : Value → Value → Sem Value} {r : R2} {rr : RR2} (h : OpR X f r) (ri : ∀ (i j : Int) M Q (H : Hp) (Q0 : VK), rr (.int i) (.int j) M Q → (∀ z : RV, Q z M → ∀ v, Rep X.K H z v → Q0 v H) → r (.int i) (.int j) H Q0)
    (no : ∀ x y M Q, rr x y M Q → ∃ i j, x = .int i ∧ y = .int j) : ROp X f rr := by
  intro pins s σ H x y v u Q0 I rx ry h'
  obtain ⟨a, b, M, Q, ra, rb, hv, hq, hk⟩ := h'
  obtain ⟨i, j, rfl, rfl⟩ := no a b M Q hq
  simp only [Rep] at ra rb
  subst ra; subst rb
  exact h pins s σ H _ _ v u Q0 I rx ry (ri i j M Q H Q0 hq fun z q v' rz => hk z M v' H q (.refl H) hv rz)
def rInt2 (C : Int → Int → Prop) (g : Int → Int → RV) : RR2 := fun x y M Q => match x, y with | .int i, .int j => C i j ∧ Q (g i j) M | _, _ => False
def rInt0 (g : Int → Int → RV) : RR2 := fun x y M Q => match x, y with | .int i, .int j => Q (g i j) M | _, _ => False
theorem rInt2_no {C : Int → Int → Prop} {g : Int → Int → RV} (x y : RV) (M : RM) (Q : RVK) (h : rInt2 C g x y M Q) : ∃ i j, x = .int i ∧ y = .int j := by
  unfold rInt2 at h
  split at h
  · exact ⟨_, _, rfl, rfl⟩
  · exact h.elim
theorem rInt0_no {g : Int → Int → RV} (x y : RV) (M : RM) (Q : RVK) (h : rInt0 g x y M Q) : ∃ i j, x = .int i ∧ y = .int j := by
  unfold rInt0 at h
  split at h
  · exact ⟨_, _, rfl, rfl⟩
  · exact h.elim
abbrev rSub : RR2 := rInt0 fun i j => .int (i - j)
theorem osub : ROp X (binaryOp .Sub) rSub := ropI op_sub (fun i j M Q H Q0 h k => ⟨i, j, rfl, rfl, k _ h _ (by simp only [Rep])⟩) rInt0_no
abbrev rMod : RR2 := rInt2 (fun _ j => 0 < j) fun i j => .int (i % j)
theorem omod : ROp X (binaryOp .Mod) rMod := ropI op_mod (fun i j M Q H Q0 h k => ⟨i, j, rfl, rfl, h.1, k _ h.2 _ (by simp only [Rep])⟩) rInt2_no
abbrev rDiv : RR2 := rInt2 (fun _ j => 0 < j ∧ j < 1073741824) fun i j => .int (i / j)
theorem odiv : ROp X (binaryOp .FloorDiv) rDiv := ropI op_fdiv (fun i j M Q H Q0 h k => ⟨i, j, rfl, rfl, h.1, k _ h.2 _ (by simp only [Rep])⟩) rInt2_no
abbrev rPow : RR2 := rInt2 (fun i j => 0 ≤ j ∧ j ≤ 1000000 ∧ i.natAbs < 2 ^ 64) fun i j => .int (i ^ j.toNat)
theorem opow : ROp X (binaryOp .Pow) rPow := ropI op_pow (fun i j M Q H Q0 h k => ⟨i, j, rfl, rfl, h.1, k _ h.2 _ (by simp only [Rep])⟩) rInt2_no
abbrev rShr : RR2 := rInt2 (fun _ j => 0 ≤ j) fun i j => .int (i / 2 ^ j.toNat)
abbrev rBand : RR2 := rInt0 fun i j => .int (Builtin.bitAnd i j)
abbrev rLt : RR2 := rInt0 fun i j => .bl (decide (i < j))
theorem olt : ROp X (compareOp .Lt) rLt := ropI op_lt (fun i j M Q H Q0 h k => ⟨i, j, rfl, rfl, k _ h _ (by simp only [Rep])⟩) rInt0_no
abbrev rLe : RR2 := rInt0 fun i j => .bl (decide (i ≤ j))
theorem ole : ROp X (compareOp .LtE) rLe := ropI op_le (fun i j M Q H Q0 h k => ⟨i, j, rfl, rfl, k _ h _ (by simp only [Rep])⟩) rInt0_no
abbrev rGt : RR2 := rInt0 fun i j => .bl (decide (j < i))
theorem ogt : ROp X (compareOp .Gt) rGt := ropI op_gt (fun i j M Q H Q0 h k => ⟨i, j, rfl, rfl, k _ h _ (by simp only [Rep])⟩) rInt0_no
abbrev rGe : RR2 := rInt0 fun i j => .bl (decide (j ≤ i))
theorem oge : ROp X (compareOp .GtE) rGe := ropI op_ge (fun i j M Q H Q0 h k => ⟨i, j, rfl, rfl, k _ h _ (by simp only [Rep])⟩) rInt0_no
def rgNeg : RV → RM → RVK → Prop := fun x M Q => match x with | .int i => Q (.int (-i)) M | _ => False
theorem oneg : UnR X (unaryOp .USub) (upU X.K rgNeg) := by
  intro pins s σ H x v Q0 I rx h
  obtain ⟨a, M, Q, ra, hv, hq, hk⟩ := h
  cases a with
  | int i => simp only [Rep] at ra; exact un_neg pins s σ H x v Q0 I rx ⟨i, ra, hk _ M _ H hq (.refl H) hv (by simp only [Rep])⟩
  | _ => exact (show False from hq).elim
def rMul : RR2 := fun x y M Q => match x, y with
  | .int i, .int j => CMul i j ∧ Q (.int (i * j)) M
  | .ref a, .int k => ∃ xs, M a = some (.lst xs) ∧ -(2 ^ 63) ≤ k ∧ k < 2 ^ 63 ∧ xs.length * k.toNat ≤ sizeLine ∧ Q (.ls (List.replicate k.toNat xs).flatten) M
  | _, _ => False
theorem reps_flat {K : PySem.W.Frag} {H : Hp} {xs : List RV} {vs : List V} (r : Reps K H xs vs) : ∀ n : Nat, Reps K H (List.replicate n xs).flatten (List.replicate n vs).flatten
  | 0 => by simpa using Reps.nil
  | n + 1 => by
    rw [List.replicate_succ, List.flatten_cons, List.replicate_succ, List.flatten_cons]
    exact r.append (reps_flat r n)
theorem omul : ROp X (binaryOp .Mult) rMul := by
  intro pins s σ H x y v u Q0 I rx ry h
  obtain ⟨a, b, M, Q, ra, rb, hv, hq, hk⟩ := h
  cases a with
  | int i =>
    cases b with
    | int j => simp only [Rep] at ra rb; exact op_mul pins s σ H x y v u Q0 I rx ry ⟨i, j, ra, rb, hq.1, hk _ M _ H hq.2 (.refl H) hv (by simp only [Rep])⟩
    | _ => exact (show False from hq).elim
  | ref p =>
    cases b with
    | int k =>
      simp only [Rep] at ra rb
      obtain ⟨xs, hm, h1, h2, h3, h4⟩ := hq
      obtain ⟨ho, e, r⟩ := hv p _ hm
      obtain ⟨vs, rfl, rr⟩ := r
      refine thn (op_rep pins s σ H x y v u (fun v H' => ∃ H1 p xs, v = .ref p ∧ H1 p = none ∧ H' = upd H1 p (.lst xs) ∧ ∀ o, Q0 (.ref p) (upd H1 p (.frz o (.lst xs)))) I rx ry ⟨p, k, vs, ra, rb, e, h1, h2, by rw [← rr.length]; exact h3, fun q hq => ⟨H, q, _, rfl, hq, rfl, fun o => ?_⟩⟩) fun _ _ e => frozen e
      exact hk _ M _ _ h4 (Ext.new hq) (hv.new hq) (rep_ls hq (reps_flat rr _))
    | _ => exact (show False from hq).elim
  | _ => cases b <;> exact (show False from hq).elim
def rAdd : RR2 := fun x y M Q => match x, y with
  | .int i, .int j => Q (.int (i + j)) M
  | .str i, .str j => i.length + j.length ≤ sizeLine ∧ Q (.str (i ++ j)) M
  | .tup xs, .tup ys => xs.length + ys.length ≤ sizeLine ∧ Q (.tup (xs ++ ys)) M
  | .ls xs, .ls ys => xs.length + ys.length ≤ sizeLine ∧ Q (.ls (xs ++ ys)) M
  | _, _ => False
theorem cat_tup0 {prog : Program} {w : World} {A : Around} {E : Value → Shared → Prop} {s : Shared} {t b : Addr} {ws : List Value} {Q : Value → Shared → Prop} (ht : IsTup s.heap t ([] : List Value).toArray) (hb : IsTup s.heap b ws.toArray) (h : Q (.ref b) s) :
    wpAny (model prog w) A (binaryOp .Add (.ref t) (.ref b)) Q E s := by
  obtain ⟨⟨cls, dd, data, sl⟩, ho, hc, n, hd⟩ := id ht
  obtain ⟨⟨cls2, dd2, data2, sl2⟩, ho2, hc2, n2, hd2⟩ := id hb
  simp only at hc hd hc2 hd2
  subst hc hd hc2 hd2
  exact concat_meets ⟨_, ho, rfl⟩ ⟨_, ho2, rfl⟩ noFill_tuple_add seq_tuple_add PySem.F.slot_tuple_add PySem.F.entry_tuple_add (PySem.F.args_tuple_add_2 _ _)
      (tuple_addW0 t b [].toArray ws.toArray n n2 dd dd2 sl sl2 (by simp)) ⟨ho, ho2, h⟩
theorem cat_lst {prog : Program} {w : World} {A : Around} {E : Value → Shared → Prop} {s : Shared} {l b : Addr} {vs ws : List Value} {Q : Value → Shared → Prop} (hl : s.heap.IsList l vs.toArray) (hb : s.heap.IsList b ws.toArray)
    (h : Q (.ref s.heap.objs.size) { s with heap := s.heap.push { cls := .type "list", data := .seq (vs ++ ws).toArray } }) (hsz : vs.length + ws.length ≤ sizeLine) :
    wpAny (model prog w) A (binaryOp .Add (.ref l) (.ref b)) Q E s := by
  obtain ⟨⟨cls, dd, data, sl⟩, ho, hc, n, hd⟩ := id hl
  obtain ⟨⟨cls2, dd2, data2, sl2⟩, ho2, hc2, n2, hd2⟩ := id hb
  simp only at hc hd hc2 hd2
  subst hc hd hc2 hd2
  have e : vs.toArray ++ ws.toArray = (vs ++ ws).toArray := by simp
  refine concat_meets ⟨_, ho, rfl⟩ ⟨_, ho2, rfl⟩ noFill_list_add seq_list_add PySem.F.slot_list_add PySem.F.entry_list_add (PySem.F.args_list_add_2 _ _) (list_addW l b vs.toArray ws.toArray n n2 dd dd2 sl sl2 (by simpa using hsz)) ⟨ho, ho2, ?_⟩
  rw [e]
  exact h
theorem oadd : ROp X (binaryOp .Add) rAdd := by
  intro pins s σ H x y v u Q0 I rx ry h
  obtain ⟨a, b, M, Q, ra, rb, hv, hq, hk⟩ := h
  cases a with
  | int i =>
    cases b with
    | int j => simp only [Rep] at ra rb; exact op_add pins s σ H x y v u Q0 I rx ry ⟨i, j, ra, rb, hk _ M _ H hq (.refl H) hv (by simp only [Rep])⟩
    | _ => exact (show False from hq).elim
  | str i =>
    cases b with
    | str j => simp only [Rep] at ra rb; exact op_add_str pins s σ H x y v u Q0 I rx ry ⟨i, j, ra, rb, hq.1, hk _ M _ H hq.2 (.refl H) hv (by simp only [Rep])⟩
    | _ => exact (show False from hq).elim
  | tup xs =>
    cases b with
    | tup ys =>
      obtain ⟨hz, hq⟩ := hq
      simp only [Rep] at ra rb
      obtain ⟨p, vs, rfl, hp, hr⟩ := ra
      obtain ⟨q, ws, rfl, hp2, hr2⟩ := rb
      by_cases hn : vs = []
      · subst hn
        have hx : xs = [] := by have := hr.length; simpa using this
        subst hx
        cases rx; cases ry
        obtain ⟨its, r1, p1, _⟩ := I.tuple hp
        obtain ⟨its2, r2, p2, _⟩ := I.tuple hp2
        cases r1
        exact cat_tup0 p1 p2 ⟨.ref q, H, I, rfl, hk _ M _ H hq (.refl H) hv (by simp only [Rep, List.nil_append]; exact ⟨q, ws, rfl, hp2, hr2⟩)⟩
      · refine op_catT pins s σ H _ _ v u Q0 I rx ry ⟨p, q, vs, ws, rfl, rfl, hp, hp2, hn, by rw [← hr.length, ← hr2.length]; exact hz, fun e => ?_, fun e l hl => ?_⟩
        · subst e
          have hy : ys = [] := by have := hr2.length; simpa using this
          subst hy
          exact hk _ M _ H hq (.refl H) hv (by simp only [Rep, List.append_nil]; exact ⟨p, vs, rfl, hp, hr⟩)
        · exact hk _ M _ _ hq (Ext.new hl) (hv.new hl) (rep_tup hl (hr.append hr2))
    | _ => exact (show False from hq).elim
  | ls xs =>
    cases b with
    | ls ys =>
      obtain ⟨hz, hq⟩ := hq
      simp only [Rep] at ra rb
      obtain ⟨p, vs, rfl, hp, hr⟩ := ra
      obtain ⟨q, ws, rfl, hp2, hr2⟩ := rb
      cases rx; cases ry
      obtain ⟨its, r1, p1, z1⟩ := I.list hp.sq
      obtain ⟨its2, r2, p2, z2⟩ := I.list hp2.sq
      have hz' : vs.length + ws.length ≤ sizeLine := by rw [← hr.length, ← hr2.length]; exact hz
      refine thn (cat_lst (Q := EP X pins σ (fun v H' => ∃ H1 p xs, v = .ref p ∧ H1 p = none ∧ H' = upd H1 p (.lst xs) ∧ ∀ o, Q0 (.ref p) (upd H1 p (.frz o (.lst xs))))) p1.isList p2.isList ?_ (by rw [← r1.length, ← r2.length]; exact hz')) fun _ _ e => frozen e
      have hf := I.hok.fresh (Nat.le_refl s.heap.objs.size)
      refine ⟨.ref s.heap.objs.size, upd H s.heap.objs.size (.lst (vs ++ ws)), I.laid (t' := s.toks) (fun b ob q => Heap.get?_push_of_some _ q) (Nat.le_refl _) ?_, rfl, H, _, _, rfl, hf, rfl, fun o => ?_⟩
      · exact ⟨by rw [List.length_append]; exact hz', _, 0, r1.append r2, Heap.get?_push_size _ rfl⟩
      · exact hk _ M _ _ hq (Ext.new hf) (hv.new hf) (rep_ls hf (hr.append hr2))
    | _ => exact (show False from hq).elim
  | _ => cases b <;> exact (show False from hq).elim
def rEqq : RR2 := fun x y M Q => okR 16 x = true ∧ okR 16 y = true ∧ Q (.bl (eqR x y)) M
def rNeq : RR2 := fun x y M Q => okR 16 x = true ∧ okR 16 y = true ∧ Q (.bl (!eqR x y)) M
theorem oeq (hu : X.A.units + 64 < cLine) : ROp X (compareOp .Eq) rEqq := by
  intro pins s σ H x y v u Q0 I rx ry h
  obtain ⟨a, b, M, Q, ra, rb, hv, ⟨o1, o2, hq⟩, hk⟩ := h
  exact rcAt_den 15 a b X.A s v u o1 o2 (den_of I 16 a x v o1 ra rx) (den_of I 16 b y u o2 rb ry) (by omega) _ _ _ _ ⟨.bl (eqR a b), H, I, rfl, hk _ M _ H hq (.refl H) hv (by simp only [Rep])⟩
theorem one (hu : X.A.units + 64 < cLine) : ROp X (compareOp .NotEq) rNeq := by
  intro pins s σ H x y v u Q0 I rx ry h
  obtain ⟨a, b, M, Q, ra, rb, hv, ⟨o1, o2, hq⟩, hk⟩ := h
  exact rcNeAt_den 15 a b X.A s v u o1 o2 (den_of I 16 a x v o1 ra rx) (den_of I 16 b y u o2 rb ry) (by omega) _ _ _ _ ⟨.bl (!eqR a b), H, I, rfl, hk _ M _ H hq (.refl H) hv (by simp only [Rep])⟩
def isN : RV → Bool
  | .non => true
  | _ => false
theorem isN_rep {K : PySem.W.Frag} {H : Hp} : ∀ {a : RV} {x : V}, Rep K H a x → decide (x = .non) = isN a := by
  intro a x h
  cases a with
  | tup xs => simp only [Rep] at h; obtain ⟨p, vs, rfl, _⟩ := h; simp [isN]
  | ls xs => simp only [Rep] at h; obtain ⟨p, vs, rfl, _⟩ := h; simp [isN]
  | _ => simp only [Rep] at h; subst h; simp [isN]
def rIs : RR2 := fun x y M Q => match y with | .non => Q (.bl (isN x)) M | _ => False
def rIsNot : RR2 := fun x y M Q => match y with | .non => Q (.bl (!isN x)) M | _ => False
theorem ois : ROp X (compareOp .Is) rIs := by
  intro pins s σ H x y v u Q0 I rx ry h
  obtain ⟨a, b, M, Q, ra, rb, hv, hq, hk⟩ := h
  cases b with
  | non => simp only [Rep] at rb; exact op_isN pins s σ H x y v u Q0 I rx ry ⟨rb, by rw [isN_rep ra]; exact hk _ M _ H hq (.refl H) hv (by simp only [Rep])⟩
  | _ => exact (show False from hq).elim
theorem oisnot : ROp X (compareOp .IsNot) rIsNot := by
  intro pins s σ H x y v u Q0 I rx ry h
  obtain ⟨a, b, M, Q, ra, rb, hv, hq, hk⟩ := h
  cases b with
  | non => simp only [Rep] at rb; exact op_notN pins s σ H x y v u Q0 I rx ry ⟨rb, by rw [isN_rep ra]; exact hk _ M _ H hq (.refl H) hv (by simp only [Rep])⟩
  | _ => exact (show False from hq).elim
def rIx : RR2 := fun x y M Q => match x, y with
  | .tup xs, .int i => match atI xs i with | some v => Q v M | none => False
  | .ls xs, .int i => match atI xs i with | some v => Q v M | none => False
  | .ref a, .int i => match M a with
    | some (.lst xs) => match atI xs i with | some v => Q v M | none => False
    | _ => False
  | .str z, .int i => z.length ≤ sizeLine ∧ match atI z.cps.toList i with | some c => Q (.str ⟨#[c]⟩) M | none => False
  | _, _ => False
theorem oix : IxR X (upO X.K rIx) := by
  intro value slice pins s σ H x y v u Q0 I rx ry h hs
  obtain ⟨a, b, M, Q, ra, rb, hv, hq, hk⟩ := h
  cases b with
  | int i =>
    simp only [Rep] at rb
    cases a with
    | tup xs =>
      simp only [Rep] at ra
      obtain ⟨p, vs, rfl, hp, hr⟩ := ra
      simp only [rIx] at hq
      cases e : atI xs i with
      | none => rw [e] at hq; exact hq.elim
      | some z =>
        rw [e] at hq
        obtain ⟨w, e1, r1⟩ := hr.atI e
        exact ix_tup value slice pins s σ H _ y v u Q0 I rx ry ⟨p, vs, i, w, rfl, rb, hp, e1, hk _ M _ H hq (.refl H) hv r1⟩ hs
    | ls xs =>
      simp only [Rep] at ra
      obtain ⟨p, vs, rfl, hp, hr⟩ := ra
      simp only [rIx] at hq
      cases e : atI xs i with
      | none => rw [e] at hq; exact hq.elim
      | some z =>
        rw [e] at hq
        obtain ⟨w, e1, r1⟩ := hr.atI e
        exact ix_list value slice pins s σ H _ y v u Q0 I rx ry ⟨p, vs, i, w, rfl, rb, hp.sq, e1, hk _ M _ H hq (.refl H) hv r1⟩ hs
    | ref p =>
      simp only [Rep] at ra
      simp only [rIx] at hq
      split at hq
      · rename_i xs em
        obtain ⟨ho, e, r⟩ := hv p _ em
        obtain ⟨vs, rfl, hr⟩ := r
        cases e2 : atI xs i with
        | none => rw [e2] at hq; exact hq.elim
        | some z =>
          rw [e2] at hq
          obtain ⟨w, e1, r1⟩ := hr.atI e2
          exact ix_list value slice pins s σ H x y v u Q0 I rx ry ⟨p, vs, i, w, ra, rb, SqL.of e, e1, hk _ M _ H hq (.refl H) hv r1⟩ hs
      · exact hq.elim
    | str z =>
      simp only [Rep] at ra
      simp only [rIx] at hq
      obtain ⟨hz, hq⟩ := hq
      cases e : atI z.cps.toList i with
      | none => rw [e] at hq; exact hq.elim
      | some c =>
        rw [e] at hq
        exact ix_str value slice pins s σ H x y v u Q0 I rx ry ⟨z, i, c, ra, rb, hz, e, hk _ M _ H hq (.refl H) hv (by simp only [Rep])⟩ hs
    | _ => exact (show False from hq).elim
  | _ => cases a <;> exact (show False from hq).elim
theorem rix {a b : Expr} {ta tb : RTE} {pos : Pos} (ha : RPE X a ta) (hb : RPE X b tb) (hs : PlainIx b := by intro _ _; rfl) : RPE X (.Subscript a b pos) (rOp rIx ta tb) := PE.imp (pe_ix oix ha hb hs) fun _ _ _ h => rop_imp h
def rSetL : RTSet := fun o i v M Q => match o, i with
  | .ref p, .int k => match M p with
    | some (.lst xs) => match ixN xs.length k with | some j => Q (put M p (.lst (xs.set j v))) | none => False
    | _ => False
  | _, _ => False
theorem osetl : PSet X (upSet X.K rSetL) := by
  intro pins s σ H o i v ov iv u Q0 I ro ri rv h
  obtain ⟨a, b, c, M, Q, ra, rb, rc, hv, hq, hk⟩ := h
  cases a with
  | ref p =>
    cases b with
    | int k =>
      simp only [Rep] at ra rb
      simp only [rSetL] at hq
      split at hq
      · rename_i xs em
        obtain ⟨ho, e, r⟩ := hv p _ em
        obtain ⟨vs, rfl, hr⟩ := r
        cases e2 : ixN xs.length k with
        | none => rw [e2] at hq; exact hq.elim
        | some j =>
          rw [e2] at hq
          have ex : Ext H (upd H p (.lst (vs.set j v))) := Ext.write e rfl
          exact set_list pins s σ H o i v ov iv u Q0 I ro ri rv ⟨p, vs, k, j, ra, rb, e, by rw [← hr.length]; exact e2, hk _ _ hq ex (hv.write em ⟨_, rfl, Reps.ext ex _ _ (hr.set rc j)⟩)⟩
      · exact hq.elim
    | _ => exact (show False from hq).elim
  | _ => cases b <;> exact (show False from hq).elim
def upC (K : PySem.W.Frag) (r : List RV → RM → RVK → Prop) : List V → Hp → VK → Prop := fun vs H Q0 => ∃ rs M Q, Reps K H rs vs ∧ View K H M ∧ r rs M Q ∧ UpK K H Q Q0
def rCall (r : List RV → RM → RVK → Prop) (t : RTA) : RTE := fun σ M Q => t σ M fun rs M1 => r rs M1 Q
theorem rcall_imp {K : PySem.W.Frag} {r : List RV → RM → RVK → Prop} {t : RTA} {σ0 : L2.St} {H : Hp} {Q0 : VK} (h : up K (rCall r t) σ0 H Q0) : tCB (upC K r) (upA K t) σ0 H Q0 := by
  obtain ⟨σ, M, Q, hs, hv, ht, hk⟩ := h
  exact ⟨σ, M, _, hs, hv, ht, fun rs M1 vs H1 q e1 v1 r1 => ⟨rs, M1, Q, r1, v1, q, hk.ext e1⟩⟩
variable {x : Str} {p pos : Pos} {e : Expr} {es : List Expr} {t : RTA} {id T : String} {r : List RV → RM → RVK → Prop}
theorem rcallB (hc : CallR X (.builtin id) (upC X.K r)) (hm : X.mg x = none) (hv : bootBuiltins x = some (.builtin id)) (ha : RPA X (e :: es) t) (hg : Gl X x := by rfl) (hn : x ≠ "__name__" := by decide) (hdb : (x == ("__debug__" : Str)) = false := by decide)
    (he : starEach (e :: es) X.env = (false, eval e X.env) :: starEach es X.env := by rfl) (hpl : (backTo pos (starEach es X.env)).any (·.1) = false := by rfl) : RPE X (.Call (.Name x p) (e :: es) [] pos) (rCall r t) :=
  PE.imp (pe_callB hc hg hm hv ha hn hdb he hpl) fun _ _ _ h => rcall_imp h
theorem rcallT (hc : CallR X (.type T) (upC X.K r)) (hm : X.mg x = none) (hv : bootBuiltins x = some (.type T)) (ha : RPA X (e :: es) t) (hg : Gl X x := by rfl) (hn : x ≠ "__name__" := by decide) (hdb : (x == ("__debug__" : Str)) = false := by decide)
    (he : starEach (e :: es) X.env = (false, eval e X.env) :: starEach es X.env := by rfl) (hpl : (backTo pos (starEach es X.env)).any (·.1) = false := by rfl) : RPE X (.Call (.Name x p) (e :: es) [] pos) (rCall r t) :=
  PE.imp (pe_callTy hc hg hm hv ha hn hdb he hpl) fun _ _ _ h => rcall_imp h
theorem Reps.one {K : PySem.W.Frag} {H : Hp} {x : RV} {vs : List V} (h : Reps K H [x] vs) : ∃ v, vs = [v] ∧ Rep K H x v := by
  simp only [Reps] at h
  obtain ⟨v, r, rfl, h1, rfl⟩ := h
  exact ⟨v, rfl, h1⟩
theorem Reps.two {K : PySem.W.Frag} {H : Hp} {x y : RV} {vs : List V} (h : Reps K H [x, y] vs) : ∃ v w, vs = [v, w] ∧ Rep K H x v ∧ Rep K H y w := by
  simp only [Reps] at h
  obtain ⟨v, r, rfl, h1, w, r', rfl, h2, rfl⟩ := h
  exact ⟨v, w, rfl, h1, h2⟩
def rLen : List RV → RM → RVK → Prop := fun rs M Q => match rs with
  | [.tup xs] => Q (.int xs.length) M
  | [.ls xs] => Q (.int xs.length) M
  | [.str z] => z.length ≤ sizeLine ∧ Q (.int z.length) M
  | [.ref a] => match M a with | some (.lst xs) => Q (.int xs.length) M | _ => False
  | _ => False
theorem clen : CallR X (.builtin "len") (upC X.K rLen) := by
  intro pins s σ H xs us Q0 I rl h
  obtain ⟨rs, M, Q, rr, hv, hq, hk⟩ := h
  unfold rLen at hq
  split at hq
  · rename_i ys
    obtain ⟨v, rfl, r1⟩ := rr.one
    simp only [Rep] at r1
    obtain ⟨q, vs, rfl, hp, hr⟩ := r1
    exact call_len_seq pins s σ H _ us Q0 I rl ⟨q, vs, rfl, .inr hp, by rw [← hr.length]; exact hk _ M _ H hq (.refl H) hv (by simp only [Rep])⟩
  · rename_i ys
    obtain ⟨v, rfl, r1⟩ := rr.one
    simp only [Rep] at r1
    obtain ⟨q, vs, rfl, hp, hr⟩ := r1
    exact call_len_seq pins s σ H _ us Q0 I rl ⟨q, vs, rfl, .inl hp.sq, by rw [← hr.length]; exact hk _ M _ H hq (.refl H) hv (by simp only [Rep])⟩
  · rename_i z
    obtain ⟨v, rfl, r1⟩ := rr.one
    simp only [Rep] at r1
    subst r1
    exact call_len_str pins s σ H _ us Q0 I rl ⟨z, rfl, hq.1, hk _ M _ H hq.2 (.refl H) hv (by simp only [Rep])⟩
  · rename_i a
    obtain ⟨v, rfl, r1⟩ := rr.one
    simp only [Rep] at r1
    subst r1
    split at hq
    · rename_i ys em
      obtain ⟨ho, e, r⟩ := hv a _ em
      obtain ⟨vs, rfl, hr⟩ := r
      exact call_len_seq pins s σ H _ us Q0 I rl ⟨a, vs, rfl, .inl (SqL.of e), by rw [← hr.length]; exact hk _ M _ H hq (.refl H) hv (by simp only [Rep])⟩
    · exact hq.elim
  · exact hq.elim
def rTuple : List RV → RM → RVK → Prop := fun rs M Q => match rs with
  | [.tup xs] => Q (.tup xs) M
  | [.ls xs] => Q (.tup xs) M
  | [.ref a] => match M a with | some (.lst xs) => Q (.tup xs) M | _ => False
  | _ => False
theorem ctuple : CallR X (.type "tuple") (upC X.K rTuple) := by
  intro pins s σ H xs us Q0 I rl h
  obtain ⟨rs, M, Q, rr, hv, hq, hk⟩ := h
  unfold rTuple at hq
  split at hq
  · rename_i ys
    obtain ⟨v, rfl, r1⟩ := rr.one
    simp only [Rep] at r1
    obtain ⟨q, vs, rfl, hp, hr⟩ := r1
    exact call_tuple_of pins s σ H _ us Q0 I rl ⟨q, vs, rfl, .inr ⟨hp, hk _ M _ H hq (.refl H) hv (by simp only [Rep]; exact ⟨q, vs, rfl, hp, hr⟩)⟩⟩
  · rename_i ys
    obtain ⟨v, rfl, r1⟩ := rr.one
    simp only [Rep] at r1
    obtain ⟨q, vs, rfl, hp, hr⟩ := r1
    exact call_tuple_of pins s σ H _ us Q0 I rl ⟨q, vs, rfl, .inl ⟨hp.sq, fun l hl => hk _ M _ _ hq (Ext.new hl) (hv.new hl) (rep_tup hl hr)⟩⟩
  · rename_i a
    obtain ⟨v, rfl, r1⟩ := rr.one
    simp only [Rep] at r1
    subst r1
    split at hq
    · rename_i ys em
      obtain ⟨ho, e, r⟩ := hv a _ em
      obtain ⟨vs, rfl, hr⟩ := r
      exact call_tuple_of pins s σ H _ us Q0 I rl ⟨a, vs, rfl, .inl ⟨SqL.of e, fun l hl => hk _ M _ _ hq (Ext.new hl) (hv.new hl) (rep_tup hl hr)⟩⟩
    · exact hq.elim
  · exact hq.elim
end
end R
namespace R
open PySem PySem.Spec PyProof.Rows L2 HT
section
variable {prog : Program} {w : World} {A : Around} {E : Value → Shared → Prop} {s : Shared}
theorem getItem_tuple_whole {t sl : Addr} {items : Array Value} {vl vu : Value} {lo hi : Option Int} {Q : Value → Shared → Prop} (ht : IsTup s.heap t items) (hs : s.heap.IsSliceOf sl vl vu .none) (pl : IsPart vl lo) (pu : IsPart vu hi)
    (h0 : sIx items.size 0 lo = 0) (h1 : sIx items.size items.size hi = items.size)
    (h : Q (.ref t) s) : wpAny (model prog w) A (getItem (.ref t) (.ref sl)) Q E s := by
  obtain ⟨os, hos, hcs, hds⟩ := id hs
  have hTs : s.TypeIs (.ref sl) "slice" := ⟨os, hos, hcs⟩
  unfold getItem
  try with_reducible refine wpAny_holding ?_
  first | refine wpAny_bind (wpAny_pure ?_) | skip
  refine wpAny_bind (wpAny_sequenceKey ht.typeIs (by decide) ?_)
  refine wpAny_bind (wpAny_callSpecial?_slot (name := Str.ofString "__getitem__") ht.typeIs PyProof.Rows.slot_tuple_getitem
    (wpAny_call_entry PyProof.Rows.slot_tuple_getitem ht.typeIs entry_tuple_getitem ?_ (args_tuple_getitem _ _)))
  show wpAny _ _ (Builtin.Tuple.tupleItemsOf (.ref t) >>= _) _ _ s
  refine wpAny_bind (tupleItemsOf_ ht ?_)
  refine wpAny_bind (wpAny_typeOf hTs ?_)
  rw [if_pos (by decide)]
  refine wpAny_bind (sliceApplied_gen hs pl pu ?_)
  have hyes : (((sIx items.size 0 lo : Nat) : Int) == 0 && (1 : Int) == 1 && (sIx items.size items.size hi - sIx items.size 0 lo) == items.size) = true := by
    rw [h0, h1]; simp
  show wpAny _ _ (if (((sIx items.size 0 lo : Nat) : Int) == 0 && (1 : Int) == 1 && (sIx items.size items.size hi - sIx items.size 0 lo) == items.size) = true then _ else _) _ _ s
  rw [if_pos hyes]
  show wpAny _ _ (Builtin.Tuple.tupleIsExact (.ref t) >>= _) _ _ s
  unfold Builtin.Tuple.tupleIsExact
  refine wpAny_bind (wpAny_bind (wpAny_typeOf ht.typeIs (wpAny_pure ?_)))
  rw [if_pos (by decide)]
  refine wpAny_bind (wpAny_rule ?_)
  refine wpAny_bind (wpAny_pure ?_)
  exact wpAny_pure ⟨_, rfl, wpAny_pure h⟩
end
section
variable {X : Cx}
abbrev RTO := RSt → RM → (Option Int → RM → Prop) → Prop
def upP (K : PySem.W.Frag) (t : RTO) : TO := fun σ0 H Q0 => ∃ σ M Q, RepSt K H σ σ0 ∧ View K H M ∧ t σ M Q ∧ ∀ o M' H', Q o M' → Ext H H' → View K H' M' → Q0 o H'
def RPO (X : Cx) (e : Option Expr) (t : RTO) : Prop := PO X e (upP X.K t)
def rNoP : RTO := fun _ M Q => Q none M
def rPart (t : RTE) : RTO := fun σ M Q => t σ M fun x M1 => match x with | .int i => Q (some i) M1 | _ => False
theorem PO.imp {e : Option Expr} {t t' : TO} (h : PO X e t) (i : ∀ σ H Q, t' σ H Q → t σ H Q) : PO X e t' := fun pins s σ H Q I w => h pins s σ H Q I (i σ H Q w)
theorem pnone : RPO X none rNoP := PO.imp po_none fun σ0 H Q0 h => by
  obtain ⟨σ, M, Q, hs, hv, ht, hk⟩ := h
  exact hk none M H ht (.refl H) hv
theorem psome {e : Expr} {te : RTE} (h : RPE X e te) : RPO X (some e) (rPart te) := PO.imp (po_some h) fun σ0 H Q0 h => by
  obtain ⟨σ, M, Q, hs, hv, ht, hk⟩ := h
  refine ⟨σ, M, _, hs, hv, ht, fun rx M1 x H1 q e1 v1 r1 => ?_⟩
  cases rx with
  | int i => simp only [Rep] at r1; exact ⟨i, r1, hk _ M1 H1 q e1 v1⟩
  | _ => exact (show False from q).elim
def cutR (xs : List RV) (lo hi : Option Int) : List RV := (xs.drop (sIx xs.length 0 lo)).take (sIx xs.length xs.length hi - sIx xs.length 0 lo)
theorem reps_cut {K : PySem.W.Frag} {H : Hp} {xs : List RV} {vs : List V} (r : Reps K H xs vs) (lo hi : Option Int) : Reps K H (cutR xs lo hi) (cutV vs lo hi) := by
  unfold cutR cutV
  rw [r.length]
  exact (r.drop _).take _
def rSlc : RV → Option Int → Option Int → RM → RVK → Prop := fun x lo hi M Q => match x with
  | .tup xs => Q (.tup (cutR xs lo hi)) M
  | .ls xs => Q (.ls (cutR xs lo hi)) M
  | .ref a => match M a with | some (.lst xs) => Q (.ls (cutR xs lo hi)) M | _ => False
  | _ => False
def upL (K : PySem.W.Frag) (r : RV → Option Int → Option Int → RM → RVK → Prop) : V → Option Int → Option Int → Hp → VK → Prop := fun x lo hi H Q0 => ∃ rx M Q, Rep K H rx x ∧ View K H M ∧ r rx lo hi M Q ∧ UpK K H Q Q0
theorem oslc : SlR X (upL X.K rSlc) := by
  intro pins s σ H x v vl vu lo hi sl Q0 I rx hs pl pu h
  obtain ⟨a, M, Q, ra, hv, hq, hk⟩ := h
  have lstcase : ∀ (p : Addr) (xs : List RV) (vs : List V), x = .ref p → SqL X.K H p vs → Reps X.K H xs vs → Q (.ls (cutR xs lo hi)) M →
      ∃ T id, typeLookup (.type T) "__getitem__" = pure (some (.builtin id)) ∧ s.TypeIs v T ∧ wpAny (model X.prog X.w) X.A (getItem v (.ref sl)) (EP X pins σ Q0) X.xe s := by
    intro p xs vs ex hp hr hq
    obtain ⟨T, id, h1, h2, h3⟩ := sl_list pins s σ H x v vl vu lo hi sl (fun v H' => ∃ H1 p xs, v = .ref p ∧ H1 p = none ∧ H' = upd H1 p (.lst xs) ∧ ∀ o, Q0 (.ref p) (upd H1 p (.frz o (.lst xs)))) I rx hs pl pu
      ⟨p, vs, ex, hp, fun q hq' => ⟨H, q, _, rfl, hq', rfl, fun o => hk _ M _ _ hq (Ext.new hq') (hv.new hq') (rep_ls hq' (reps_cut hr lo hi))⟩⟩
    exact ⟨T, id, h1, h2, thn h3 fun _ _ e => frozen e⟩
  cases a with
  | tup xs =>
    simp only [rSlc] at hq
    simp only [Rep] at ra
    obtain ⟨p, vs, rfl, hp, hr⟩ := ra
    by_cases hw : sIx vs.length 0 lo = 0 ∧ sIx vs.length vs.length hi = vs.length
    · cases rx
      obtain ⟨its, r, ht, hz⟩ := I.tuple hp
      have hlen : its.toArray.size = vs.length := by rw [List.size_toArray]; exact r.length.symm
      refine ⟨"tuple", _, PyProof.Rows.slot_tuple_getitem.lookup, ht.typeIs, ?_⟩
      refine getItem_tuple_whole ht hs pl pu (by rw [hlen]; exact hw.1) (by rw [hlen]; exact hw.2) ⟨.ref p, H, I, rfl, ?_⟩
      have e : cutR xs lo hi = xs := by
        unfold cutR
        rw [hr.length, hw.1, hw.2, List.drop_zero, Nat.sub_zero, ← hr.length, List.take_length]
      rw [e] at hq
      exact hk _ M _ H hq (.refl H) hv (by simp only [Rep]; exact ⟨p, vs, rfl, hp, hr⟩)
    · exact sl_tup pins s σ H _ v vl vu lo hi sl Q0 I rx hs pl pu ⟨p, vs, rfl, hp, hw, fun q hq' => hk _ M _ _ hq (Ext.new hq') (hv.new hq') (rep_tup hq' (reps_cut hr lo hi))⟩
  | ls xs =>
    simp only [rSlc] at hq
    simp only [Rep] at ra
    obtain ⟨p, vs, rfl, hp, hr⟩ := ra
    exact lstcase p xs vs rfl hp.sq hr hq
  | ref p =>
    simp only [rSlc] at hq
    simp only [Rep] at ra
    split at hq
    · rename_i xs em
      obtain ⟨ho, e, r⟩ := hv p _ em
      obtain ⟨vs, rfl, hr⟩ := r
      exact lstcase p xs vs ra (SqL.of e) hr hq
    · exact hq.elim
  | _ => exact (show False from hq).elim
def rSl (te : RTE) (tl th : RTO) : RTE := fun σ M Q => te σ M fun x M1 => tl σ M1 fun l M2 => th σ M2 fun u M3 => rSlc x l u M3 Q
theorem rsl {e : Expr} {te : RTE} {lo hi : Option Expr} {tl th : RTO} {pos p2 : Pos} (he : RPE X e te) (hl : RPO X lo tl) (hu : RPO X hi th) : RPE X (.Subscript e (.Slice lo hi none p2) pos) (rSl te tl th) := PE.imp (pe_slice oslc he hl hu) fun σ0 H Q0 h => by
  obtain ⟨σ, M, Q, hs, hv, ht, hk⟩ := h
  refine ⟨σ, M, _, hs, hv, ht, fun rx M1 x H1 q e1 v1 r1 => ?_⟩
  refine ⟨σ, M1, _, hs.ext e1, v1, q, fun l M2 H2 q2 e2 v2 => ?_⟩
  refine ⟨σ, M2, _, hs.ext (e1.trans e2), v2, q2, fun u M3 H3 q3 e3 v3 => ?_⟩
  exact ⟨rx, M3, Q, Rep.ext (e2.trans e3) rx x r1, v3, q3, hk.ext ((e1.trans e2).trans e3)⟩
theorem kit_non_int (K : PySem.W.Frag) : PySem.W.kitOne K (.type "NoneType") (.type "int") = some false := by kernel_rfl
theorem kit_bl_int (K : PySem.W.Frag) : PySem.W.kitOne K (.type "bool") (.type "int") = some true := by kernel_rfl
theorem kit_int_int (K : PySem.W.Frag) : PySem.W.kitOne K (.type "int") (.type "int") = some true := by kernel_rfl
theorem kit_str_int (K : PySem.W.Frag) : PySem.W.kitOne K (.type "str") (.type "int") = some false := by kernel_rfl
theorem kit_tup_int (K : PySem.W.Frag) : PySem.W.kitOne K (.type "tuple") (.type "int") = some false := by kernel_rfl
theorem kit_ls_int (K : PySem.W.Frag) : PySem.W.kitOne K (.type "list") (.type "int") = some false := by kernel_rfl
def is_int : RV → Option Bool
  | .non => some false
  | .bl _ => some true
  | .int _ => some true
  | .str _ => some false
  | .tup _ => some false
  | .ls _ => some false
  | _ => none
theorem kit_non_bool (K : PySem.W.Frag) : PySem.W.kitOne K (.type "NoneType") (.type "bool") = some false := by kernel_rfl
theorem kit_bl_bool (K : PySem.W.Frag) : PySem.W.kitOne K (.type "bool") (.type "bool") = some true := by kernel_rfl
theorem kit_int_bool (K : PySem.W.Frag) : PySem.W.kitOne K (.type "int") (.type "bool") = some false := by kernel_rfl
theorem kit_str_bool (K : PySem.W.Frag) : PySem.W.kitOne K (.type "str") (.type "bool") = some false := by kernel_rfl
theorem kit_tup_bool (K : PySem.W.Frag) : PySem.W.kitOne K (.type "tuple") (.type "bool") = some false := by kernel_rfl
theorem kit_ls_bool (K : PySem.W.Frag) : PySem.W.kitOne K (.type "list") (.type "bool") = some false := by kernel_rfl
def is_bool : RV → Option Bool
  | .non => some false
  | .bl _ => some true
  | .int _ => some false
  | .str _ => some false
  | .tup _ => some false
  | .ls _ => some false
  | _ => none
theorem kit_non_str (K : PySem.W.Frag) : PySem.W.kitOne K (.type "NoneType") (.type "str") = some false := by kernel_rfl
theorem kit_bl_str (K : PySem.W.Frag) : PySem.W.kitOne K (.type "bool") (.type "str") = some false := by kernel_rfl
theorem kit_int_str (K : PySem.W.Frag) : PySem.W.kitOne K (.type "int") (.type "str") = some false := by kernel_rfl
theorem kit_str_str (K : PySem.W.Frag) : PySem.W.kitOne K (.type "str") (.type "str") = some true := by kernel_rfl
theorem kit_tup_str (K : PySem.W.Frag) : PySem.W.kitOne K (.type "tuple") (.type "str") = some false := by kernel_rfl
theorem kit_ls_str (K : PySem.W.Frag) : PySem.W.kitOne K (.type "list") (.type "str") = some false := by kernel_rfl
def is_str : RV → Option Bool
  | .non => some false
  | .bl _ => some false
  | .int _ => some false
  | .str _ => some true
  | .tup _ => some false
  | .ls _ => some false
  | _ => none
theorem kit_non_tuple (K : PySem.W.Frag) : PySem.W.kitOne K (.type "NoneType") (.type "tuple") = some false := by kernel_rfl
theorem kit_bl_tuple (K : PySem.W.Frag) : PySem.W.kitOne K (.type "bool") (.type "tuple") = some false := by kernel_rfl
theorem kit_int_tuple (K : PySem.W.Frag) : PySem.W.kitOne K (.type "int") (.type "tuple") = some false := by kernel_rfl
theorem kit_str_tuple (K : PySem.W.Frag) : PySem.W.kitOne K (.type "str") (.type "tuple") = some false := by kernel_rfl
theorem kit_tup_tuple (K : PySem.W.Frag) : PySem.W.kitOne K (.type "tuple") (.type "tuple") = some true := by kernel_rfl
theorem kit_ls_tuple (K : PySem.W.Frag) : PySem.W.kitOne K (.type "list") (.type "tuple") = some false := by kernel_rfl
def is_tuple : RV → Option Bool
  | .non => some false
  | .bl _ => some false
  | .int _ => some false
  | .str _ => some false
  | .tup _ => some true
  | .ls _ => some false
  | _ => none
def is_list : RV → Option Bool
  | .non => some false
  | .bl _ => some false
  | .int _ => some false
  | .str _ => some false
  | .tup _ => some false
  | .ls _ => some true
  | _ => none
def tyN : RV → Option String
  | .non => some "NoneType"
  | .bl _ => some "bool"
  | .int _ => some "int"
  | .str _ => some "str"
  | .tup _ => some "tuple"
  | .ls _ => some "list"
  | _ => none
def rIsi (T : String) (test : RV → Option Bool) : List RV → RM → RVK → Prop := fun rs M Q => match rs with
  | [x, .ty T'] => T' = T ∧ (match test x with | some b => Q (.bl b) M | none => False)
  | _ => False
theorem cisi {T : String} {test : RV → Option Bool} (ht : ∀ a b, test a = some b → ∃ n, tyN a = some n ∧ PySem.W.kitOne X.K (.type n) (.type T) = some b) : CallR X (.builtin "isinstance") (upC X.K (rIsi T test)) := by
  intro pins s σ H xs us Q0 I rl h
  obtain ⟨rs, M, Q, rr, hv, hq, hk⟩ := h
  unfold rIsi at hq
  split at hq
  · rename_i a T'
    obtain ⟨rfl, hq⟩ := hq
    obtain ⟨v, w, rfl, r1, r2⟩ := rr.two
    obtain ⟨u, u', rfl, w1, w2⟩ := vals2 rl
    simp only [Rep] at r2
    subst r2
    obtain rfl : u' = Value.type T' := w2
    cases e : test a with
    | none => rw [e] at hq; exact hq.elim
    | some b =>
      rw [e] at hq
      obtain ⟨n, en, ek⟩ := ht a b e
      have fin : ∀ tk, EP X pins σ Q0 (.bool b) { s with toks := tk } := fun tk => ⟨.bl b, H, I.tok tk, rfl, hk _ M _ H hq (.refl H) hv (by simp only [Rep])⟩
      cases a with
      | non => cases en; simp only [Rep] at r1; subst r1; cases (show u = Value.none from w1); exact PySem.W.kia_one PySem.W.kitx_none I.kIn True.intro ek (fun z => nomatch z) fin
      | bl y => cases en; simp only [Rep] at r1; subst r1; cases (show u = Value.bool y from w1); exact PySem.W.kia_one PySem.W.kitx_bool I.kIn True.intro ek (fun z => nomatch z) fin
      | int y => cases en; simp only [Rep] at r1; subst r1; obtain ⟨t, q⟩ := (show ∃ t, u = Value.int y t from w1); cases q; exact PySem.W.kia_one PySem.W.kitx_int I.kIn True.intro ek (fun z => nomatch z) fin
      | str y => cases en; simp only [Rep] at r1; subst r1; obtain ⟨t, q⟩ := (show ∃ t, u = Value.str y t from w1); cases q; exact PySem.W.kia_one PySem.W.kitx_str I.kIn True.intro ek (fun z => nomatch z) fin
      | tup ys =>
        cases en; simp only [Rep] at r1
        obtain ⟨p, vs, rfl, hp, hr⟩ := r1
        cases (show u = Value.ref p from w1)
        obtain ⟨its, _, pt, _⟩ := I.tuple hp
        obtain ⟨o, h1, h2, _⟩ := pt
        exact PySem.W.kia_one PySem.W.kitx_tuple I.kIn ⟨o, h1, h2⟩ ek (fun z => nomatch z) fin
      | ls ys =>
        cases en; simp only [Rep] at r1
        obtain ⟨p, vs, rfl, hp, hr⟩ := r1
        cases (show u = Value.ref p from w1)
        obtain ⟨its, _, pt, _⟩ := I.list hp.sq
        obtain ⟨o, h1, h2, _⟩ := pt.isList
        exact PySem.W.kia_one PySem.W.kitx_list I.kIn ⟨o, h1, h2⟩ ek (fun z => nomatch z) fin
      | _ => cases en
  · exact hq.elim
theorem cisi_int : CallR X (.builtin "isinstance") (upC X.K (rIsi "int" is_int)) := cisi fun a b e => by
  cases a with
  | non => cases e; exact ⟨_, rfl, kit_non_int X.K⟩
  | bl _ => cases e; exact ⟨_, rfl, kit_bl_int X.K⟩
  | int _ => cases e; exact ⟨_, rfl, kit_int_int X.K⟩
  | str _ => cases e; exact ⟨_, rfl, kit_str_int X.K⟩
  | tup _ => cases e; exact ⟨_, rfl, kit_tup_int X.K⟩
  | ls _ => cases e; exact ⟨_, rfl, kit_ls_int X.K⟩
  | _ => cases e
theorem cisi_bool : CallR X (.builtin "isinstance") (upC X.K (rIsi "bool" is_bool)) := cisi fun a b e => by
  cases a with
  | non => cases e; exact ⟨_, rfl, kit_non_bool X.K⟩
  | bl _ => cases e; exact ⟨_, rfl, kit_bl_bool X.K⟩
  | int _ => cases e; exact ⟨_, rfl, kit_int_bool X.K⟩
  | str _ => cases e; exact ⟨_, rfl, kit_str_bool X.K⟩
  | tup _ => cases e; exact ⟨_, rfl, kit_tup_bool X.K⟩
  | ls _ => cases e; exact ⟨_, rfl, kit_ls_bool X.K⟩
  | _ => cases e
theorem cisi_str : CallR X (.builtin "isinstance") (upC X.K (rIsi "str" is_str)) := cisi fun a b e => by
  cases a with
  | non => cases e; exact ⟨_, rfl, kit_non_str X.K⟩
  | bl _ => cases e; exact ⟨_, rfl, kit_bl_str X.K⟩
  | int _ => cases e; exact ⟨_, rfl, kit_int_str X.K⟩
  | str _ => cases e; exact ⟨_, rfl, kit_str_str X.K⟩
  | tup _ => cases e; exact ⟨_, rfl, kit_tup_str X.K⟩
  | ls _ => cases e; exact ⟨_, rfl, kit_ls_str X.K⟩
  | _ => cases e
theorem cisi_tuple : CallR X (.builtin "isinstance") (upC X.K (rIsi "tuple" is_tuple)) := cisi fun a b e => by
  cases a with
  | non => cases e; exact ⟨_, rfl, kit_non_tuple X.K⟩
  | bl _ => cases e; exact ⟨_, rfl, kit_bl_tuple X.K⟩
  | int _ => cases e; exact ⟨_, rfl, kit_int_tuple X.K⟩
  | str _ => cases e; exact ⟨_, rfl, kit_str_tuple X.K⟩
  | tup _ => cases e; exact ⟨_, rfl, kit_tup_tuple X.K⟩
  | ls _ => cases e; exact ⟨_, rfl, kit_ls_tuple X.K⟩
  | _ => cases e
abbrev RSp := List RV → RM → RVK → Prop
def upSp (K : PySem.W.Frag) (sp : RSp) : Sp := fun vs H Q0 _ => ∃ rs M Q, Reps K H rs vs ∧ View K H M ∧ sp rs M Q ∧ UpK K H Q Q0
end
structure RFn (P : Program) (w : World) (K : PySem.W.Frag) (mg : Str → Option Value) (base : Heap) (k : Nat) (x : Str) (ps : List Str) (sp : RSp) : Prop where
  ex : ∃ (f : Addr) (fd : FuncData), mg x = some (.ref f) ∧ PySem.W.keepIn K (.ref f) = true ∧ Binds K fd ps [] ∧ FnOk P w K mg base CX0 k f fd ps (upSp K sp)
section
variable {X : Cx} {x : Str} {p pos : Pos} {e : Expr} {es : List Expr} {t : RTA} {k : Nat} {ps : List Str} {sp : RSp}
theorem rcallF (F : RFn X.prog X.w X.K X.mg X.base k x ps sp) (hr : Room k X.A) (ha : RPA X (e :: es) t) (hg : Gl X x := by rfl) (hdb : (x == ("__debug__" : Str)) = false := by decide)
    (he : starEach (e :: es) X.env = (false, eval e X.env) :: starEach es X.env := by rfl) (hpl : (backTo pos (starEach es X.env)).any (·.1) = false := by rfl) : RPE X (.Call (.Name x p) (e :: es) [] pos) (rCall sp t) := by
  obtain ⟨f, fd, hm, hk, hb, F⟩ := F.ex
  refine PE.imp (pe_call F hr hg hm hk hb .nil pass0 ha hdb he hpl) fun σ0 H Q0 h => ?_
  obtain ⟨σ, M, Q, hs, hv, ht, hk⟩ := h
  exact ⟨σ, M, _, hs, hv, ht, fun rs M1 vs H1 q e1 v1 r1 => ⟨rs, M1, Q, by rw [List.append_nil]; exact r1, v1, q, hk.ext e1⟩⟩
def rstart (N : List Str) (rs : List RV) : RSt := rs.map some ++ List.replicate (N.length - rs.length) none
theorem start_rep {K : PySem.W.Frag} {H : Hp} {N : List Str} {rs : List RV} {vs : List V} (r : Reps K H rs vs) : RepSt K H (rstart N rs) (L2.start N vs) := by
  unfold rstart L2.start
  refine ⟨by simp [r.length], fun i z e => ?_⟩
  have hi : i < rs.length := by
    by_cases hi : i < rs.length
    · exact hi
    · rw [List.getElem?_append_right (by simpa using hi), List.getElem?_replicate] at e
      split at e <;> cases e
  rw [List.getElem?_append_left (by simpa using hi), List.getElem?_map] at e
  cases q : rs[i]? with
  | none => rw [q] at e; cases e
  | some y =>
    rw [q] at e; cases e
    obtain ⟨v, e1, r1⟩ := r.get q
    exact ⟨v, by rw [List.getElem?_append_left (by rw [List.length_map, ← r.length]; exact hi), List.getElem?_map, e1]; rfl, r1⟩
def nums (n : Nat) : List RV := (List.range n).map fun (i : Nat) => RV.int (i : Int)
theorem nums_len (n : Nat) : (nums n).length = n := by simp [nums]
end
section
variable {X : Cx}
end
end R
namespace R
open PySem PySem.Spec PyProof.Rows L2
structure ItOf (K : PySem.W.Frag) (J : It) (xs : List RV) (H1 : Hp) : Prop where
  turn : ∀ i H, Ext H1 H → ∀ x, xs[i]? = some x → J.go i H ∧ ∀ v H', J.yld i H v H' → Ext H H' ∧ (∀ M, View K H M → View K H' M) ∧ Rep K H' x v
  stop : ∀ i H, Ext H1 H → xs.length ≤ i → J.stop i H
abbrev RTI := RSt → RM → (List RV → RM → Prop) → Prop
def upI (K : PySem.W.Frag) (ti : RTI) : TI := fun σ0 H R => ∃ σ M Q, RepSt K H σ σ0 ∧ View K H M ∧ ti σ M Q ∧ ∀ xs M' J H', Q xs M' → Ext H H' → View K H' M' → ItOf K J xs H' → R J H'
def RPI (X : Cx) (tg iter : Expr) (ti : RTI) : Prop := PI X tg iter (upI X.K ti)
section
variable {X : Cx} {tg : Expr}
def rItS (te : RTE) : RTI := fun σ M Q => te σ M fun v M1 => match v with
  | .tup xs => Q xs M1
  | .ls xs => Q xs M1
  | _ => False
theorem itl_of {K : PySem.W.Frag} {H1 : Hp} {a : Addr} {rs : List RV} {vs : List V} (h : Fz K H1 a vs) (r : Reps K H1 rs vs) : ItOf K (Itl K a) rs H1 where
  turn := fun i H e x hx => by
    obtain ⟨v, e1, r1⟩ := r.get hx
    refine ⟨⟨vs, v, (h.ext e).sq, e1⟩, fun v' H' y => ?_⟩
    obtain ⟨rfl, y⟩ := y
    have := y vs (h.ext e).sq
    rw [e1] at this; cases this
    exact ⟨.refl _, fun _ w => w, Rep.ext e x v r1⟩
  stop := fun i H e hi => ⟨vs, (h.ext e).sq, by rw [← r.length]; exact hi⟩
theorem itt_of {K : PySem.W.Frag} {H1 : Hp} {a : Addr} {rs : List RV} {vs : List V} (h : SqT K H1 a vs) (r : Reps K H1 rs vs) : ItOf K (Itt K a) rs H1 where
  turn := fun i H e x hx => by
    obtain ⟨v, e1, r1⟩ := r.get hx
    refine ⟨⟨vs, v, SqT.ext e h, e1⟩, fun v' H' y => ?_⟩
    obtain ⟨rfl, y⟩ := y
    have := y vs (SqT.ext e h)
    rw [e1] at this; cases this
    exact ⟨.refl _, fun _ w => w, Rep.ext e x v r1⟩
  stop := fun i H e hi => ⟨vs, SqT.ext e h, by rw [← r.length]; exact hi⟩
theorem itr_of {K : PySem.W.Frag} {H1 : Hp} (n : Nat) : ItOf K (Itr 0 n) (nums n) H1 where
  turn := fun i H e x hx => by
    have hi : i < n := by have := (List.getElem?_eq_some_iff.mp hx).1; rw [nums_len] at this; exact this
    have hx' : x = .int (i : Int) := by simp [nums, hi] at hx; exact hx.symm
    subst hx'
    refine ⟨hi, fun v' H' y => ?_⟩
    obtain ⟨rfl, rfl⟩ := y
    exact ⟨.refl _, fun _ w => w, by simp only [Rep]; simp⟩
  stop := fun i H e hi => by rw [nums_len] at hi; exact hi
theorem iseq {l : Expr} {te : RTE} (hl : RPE X l te) : RPI X tg l (rItS te) := by
  intro pins s σ0 H R I h
  obtain ⟨σ, M, Q, hs, hv, ht, hk⟩ := h
  refine thn (hl pins s σ0 H (fun x H1 => (∃ a vs rs M1, x = .ref a ∧ Fz X.K H1 a vs ∧ Reps X.K H1 rs vs ∧ Q rs M1 ∧ Ext H H1 ∧ View X.K H1 M1) ∨ ∃ a vs rs M1, x = .ref a ∧ SqT X.K H1 a vs ∧ Reps X.K H1 rs vs ∧ Q rs M1 ∧ Ext H H1 ∧ View X.K H1 M1) I ⟨σ, M, _, hs, hv, ht, fun rv M1 v H1 q e1 v1 r1 => ?_⟩) fun v s1 ⟨x, H1, I1, r1, q1⟩ => ?_
  · cases rv with
    | ls xs => simp only [Rep] at r1; obtain ⟨a, vs, rfl, h1, h2⟩ := r1; exact .inl ⟨a, vs, xs, M1, rfl, h1, h2, q, e1, v1⟩
    | tup xs => simp only [Rep] at r1; obtain ⟨a, vs, rfl, h1, h2⟩ := r1; exact .inr ⟨a, vs, xs, M1, rfl, h1, h2, q, e1, v1⟩
    | _ => exact (show False from q).elim
  · rcases q1 with ⟨a, vs, rs, M1, rfl, h1, h2, q, e1, v1⟩ | ⟨a, vs, rs, M1, rfl, h1, h2, q, e1, v1⟩
    · cases r1
      obtain ⟨its, rv, p, hz⟩ := I1.list h1.sq
      refine wpAny_pyIter_list p.isList ?_
      refine ⟨s1.heap.objs.size, [s1.heap.objs.size], _, _, H1, rfl, I1.kept (t' := s1.toks) fun b o e => Heap.get?_push_of_some _ e, turn_list a _, ⟨_, Heap.get?_push_size _ rfl, rfl, rfl⟩, fun b hb => ?_, hk rs M1 _ H1 q e1 v1 (itl_of h1 h2)⟩
      have e : b = s1.heap.objs.size := by simpa using hb
      subst e
      exact I1.fpOk (Nat.le_refl _) (I1.hok.fresh (Nat.le_refl _))
    · cases r1
      obtain ⟨its, rv, p, hz⟩ := I1.tuple h1
      refine wpAny_pyIter_tuple (show s1.heap.IsTuple a its.toArray from p) ?_
      refine ⟨s1.heap.objs.size, [s1.heap.objs.size], _, _, H1, rfl, I1.kept (t' := s1.toks) fun b o e => Heap.get?_push_of_some _ e, turn_tuple a _, ⟨_, Heap.get?_push_size _ rfl, rfl, rfl⟩, fun b hb => ?_, hk rs M1 _ H1 q e1 v1 (itt_of h1 h2)⟩
      have e : b = s1.heap.objs.size := by simpa using hb
      subst e
      exact I1.fpOk (Nat.le_refl _) (I1.hok.fresh (Nat.le_refl _))
def rRngI (Q : List RV → RM → Prop) : List RV → RM → Prop := fun rs M => match rs with
  | [.int n] => -(2 ^ 62) ≤ n ∧ n < 2 ^ 62 ∧ Q (nums n.toNat) M
  | _ => False
def rItR (te : RTE) : RTI := fun σ M Q => te σ M fun v M1 => rRngI Q [v] M1
theorem PI.imp {iter : Expr} {t t' : TI} (h : PI X tg iter t) (i : ∀ σ H R, t' σ H R → t σ H R) : PI X tg iter t' := fun pins s σ H R I w => h pins s σ H R I (i σ H R w)
theorem irange {a : Expr} {te : RTE} {p pos : Pos} (hm : X.mg "range" = none) (ha : RPE X a te) (hgl : Gl X "range" := by rfl) (hst : starEach [a] X.env = [(false, eval a X.env)] := by rfl) (hsc : starEach (a :: []) X.env = (false, eval a X.env) :: starEach [] X.env := by rfl) :
    RPI X tg (.Call (.Name "range" p) [a] [] pos) (rItR te) := PI.imp (pi_range1 hgl hm (acons ha anil hsc) hst) fun σ0 H R h => by
  obtain ⟨σ, M, Q, hs, hv, ht, hk⟩ := h
  refine ⟨σ, M, rRngI Q, hs, hv, ht, fun rs M1 vs H1 q e1 v1 r1 => ?_⟩
  unfold rRngI at q
  split at q
  · rename_i n
    obtain ⟨q1, q2, q⟩ := q
    obtain ⟨v, rfl, r2⟩ := r1.one
    simp only [Rep] at r2
    subst r2
    exact ⟨n, rfl, q1, q2, hk _ M1 _ H1 q e1 v1 (itr_of _)⟩
  · exact q.elim
def rForI (ti : RTI) (g : RTG) (tb : RTS) : RTS := fun D σ M => ti σ M fun xs M1 => rForL g tb D xs σ M1
theorem sfor {iter : Expr} {body : List Stmt} {ti : RTI} {g : RTG} {tb : RTS} {pos : Pos} (hp : PassesOwn (model X.prog X.w) X.A X.env X.xe) (hc : X.calm = true) (hi : RPI X tg iter ti) (hg : RPG X tg g) (hb : RPSs X body tb)
    (hs : ∀ x, foldedSetIterable iter X.env x = pure x := by intro _; rfl) : RPS X (.For tg iter body [] pos) (rForI ti g tb) := PS.imp (ps_for hp hc hi hg hb hs) fun D0 σ0 H h => by
  obtain ⟨σ, M, D, hs, hv, ht, hd⟩ := h
  refine ⟨σ, M, _, hs, hv, ht, fun xs M1 J H1 q e1 v1 hJ => ?_⟩
  refine ⟨fun i m σ0 H => m = xs.length - i ∧ i ≤ xs.length ∧ ∃ σ M, RepSt X.K H σ σ0 ∧ View X.K H M ∧ rForL g tb D (xs.drop i) σ M ∧ Ext H1 H, ⟨_, rfl, Nat.zero_le _, σ, M1, hs.ext e1, v1, by simpa using q, .refl _⟩, ?_⟩
  rintro i m σ0 H ⟨rfl, hi, σ, M, hs, hv, hf, e⟩
  by_cases hlt : i < xs.length
  · have ed : xs.drop i = xs[i] :: xs.drop (i + 1) := by simp
    rw [ed] at hf
    obtain ⟨hgo, hy⟩ := hJ.turn i H e xs[i] (by simp)
    refine .inr ⟨hgo, fun σ0 H => ∃ σ M, RepSt X.K H σ σ0 ∧ View X.K H M ∧ rForL g tb D (xs.drop (i + 1)) σ M ∧ Ext H1 H, fun σ' H' h => ⟨_, by omega, rfl, hlt, h⟩, fun x H' y => ?_⟩
    obtain ⟨e2, w2, r2⟩ := hy x H' y
    refine ⟨xs[i], σ, M, _, r2, hs.ext e2, w2 M hv, hf, fun σ' M' σ0' H'' q e3 v3 r3 => ?_⟩
    have e13 := (e.trans e2).trans e3
    refine ⟨σ', M', _, r3, v3, q, ⟨fun σ4 M4 σ04 H4 q4 e4 v4 r4 => ⟨σ4, M4, r4, v4, q4, e13.trans e4⟩, (hd.ext (e1.trans e13)).rt, (hd.ext (e1.trans e13)).nx, fun σ4 M4 σ04 H4 q4 e4 v4 r4 => ⟨σ4, M4, r4, v4, q4, e13.trans e4⟩⟩⟩
  · have ei : i = xs.length := by omega
    subst ei
    rw [List.drop_length] at hf
    exact .inl ⟨hJ.stop _ H e (Nat.le_refl _), hd.nx σ M σ0 H hf (e1.trans e) hv hs⟩
end
theorem closure_ok {env : Env} : ∀ (scope : Scope), (∀ y ∈ scope.names, y.2 = .free → ∃ c, env.cells.lookup y.1 = some c) → ∃ cl, closureFor scope env = pure cl ∧ (∀ y c, cl.lookup y = some c → env.cells.lookup y = some c) ∧ ∀ y ∈ scope.names, y.2 = .free → ∃ c, cl.lookup y.1 = some c := by
  intro scope h
  have all : ∀ (l : List (Str × NameKind)) (cs : List (Str × Addr)), (∀ y ∈ l, y.2 = .free → ∃ c, env.cells.lookup y.1 = some c) → (∀ y c, cs.lookup y = some c → env.cells.lookup y = some c) →
      ∃ cl, (forIn l cs fun (x : Str × NameKind) (r : List (Str × Addr)) => (match x with | (name, kind) => if (kind == NameKind.free) = true then do let c ← cellOf env name; pure (ForInStep.yield ((name, c) :: r)) else pure (ForInStep.yield r) : Sem (ForInStep (List (Str × Addr))))) = (pure cl : Sem _) ∧
        (∀ y c, cl.lookup y = some c → env.cells.lookup y = some c) ∧ (∀ y c, cs.lookup y = some c → ∃ c', cl.lookup y = some c') ∧ ∀ y ∈ l, y.2 = .free → ∃ c, cl.lookup y.1 = some c := by
    intro l
    induction l with
    | nil => intro cs _ h2; exact ⟨cs, by simp, h2, fun y c e => ⟨c, e⟩, fun y hy => by cases hy⟩
    | cons x l ih =>
      intro cs h1 h2
      obtain ⟨n, k⟩ := x
      by_cases hk : k = .free
      · subst hk
        obtain ⟨c, ec⟩ := h1 (n, .free) List.mem_cons_self rfl
        have e0 : cellOf env n = pure c := by unfold cellOf; rw [ec]
        obtain ⟨cl, e1, e2, e3, e4⟩ := ih ((n, c) :: cs) (fun y hy => h1 y (List.mem_cons_of_mem _ hy)) (fun y d e => by
          rw [List.lookup_cons] at e
          split at e
          · rename_i z; cases e; rw [eq_of_beq z]; exact ec
          · exact h2 y d e)
        refine ⟨cl, ?_, e2, fun y d e => ?_, fun y hy hf => ?_⟩
        · rw [List.forIn_cons]
          simp only [beq_self_eq_true, if_true, e0, pure_bind]
          exact e1
        · by_cases hy : y = n
          · subst hy; exact e3 y c (by simp)
          · exact e3 y d (by rw [List.lookup_cons, beq_eq_false_iff_ne.mpr hy]; exact e)
        · rcases List.mem_cons.mp hy with rfl | hy
          · exact e3 n c (by simp)
          · exact e4 y hy hf
      · obtain ⟨cl, e1, e2, e3, e4⟩ := ih cs (fun y hy => h1 y (List.mem_cons_of_mem _ hy)) h2
        have hb : (k == NameKind.free) = false := by simpa using hk
        refine ⟨cl, ?_, e2, e3, fun y hy hf => ?_⟩
        · rw [List.forIn_cons]
          simp only [hb, Bool.false_eq_true, if_false, pure_bind]
          exact e1
        · rcases List.mem_cons.mp hy with rfl | hy
          · exact absurd hf hk
          · exact e4 y hy hf
  obtain ⟨cl, e1, e2, _, e4⟩ := all scope.names [] h (fun y c e => by simp at e)
  refine ⟨cl, ?_, e2, e4⟩
  unfold closureFor
  have e5 := congrArg (fun m => m >>= fun r => (pure r : Sem (List (Str × Addr)))) e1
  simp only [pure_bind] at e5
  rw [← e5]
def relF (env : Env) (p : Str × NameKind) : Str × NameKind := if (p.2 == NameKind.free && env.scope.kind == .function && env.kindOf p.1 == some .cell) then (p.1, NameKind.cell) else (p.1, p.2)
theorem relF_fst (env : Env) (p : Str × NameKind) : (relF env p).1 = p.1 := by unfold relF; split <;> rfl
theorem relF_snd (env : Env) (p : Str × NameKind) : (relF env p).2 = p.2 ∨ ((relF env p).2 = .cell ∧ p.2 = .free) := by
  unfold relF
  split
  · rename_i h
    rw [Bool.and_eq_true, Bool.and_eq_true] at h
    exact .inr ⟨rfl, eq_of_beq h.1.1⟩
  · exact .inl rfl
theorem lookup_relF {env : Env} {x : Str} : ∀ {names : List (Str × NameKind)}, (names.map (relF env)).lookup x = (names.find? fun p => x == p.1).map fun p => (relF env p).2
  | [] => rfl
  | p :: r => by
    rw [List.map_cons, List.find?_cons]
    obtain ⟨n, k⟩ := p
    have e : relF env (n, k) = (n, (relF env (n, k)).2) := Prod.ext (relF_fst env (n, k)) rfl
    rw [e, List.lookup_cons]
    cases hx : x == n with
    | true => rfl
    | false => exact lookup_relF
theorem lookup_find {x : Str} : ∀ {names : List (Str × NameKind)}, names.lookup x = (names.find? fun p => x == p.1).map fun p => p.2
  | [] => rfl
  | (n, k) :: r => by
    rw [List.lookup_cons, List.find?_cons]
    cases hx : x == n with
    | true => rfl
    | false => exact lookup_find
theorem relabel_back {env : Env} {names : List (Str × NameKind)} {x : Str} {k : NameKind} (hc : ∀ y ∈ names, y.2 ≠ .cell) (hk : k = .cell ∨ k = .free)
    (h : (names.map (relF env)).lookup x = some k) : names.lookup x = some .free := by
  rw [lookup_relF] at h
  rw [lookup_find]
  cases e : names.find? fun p => x == p.1 with
  | none => rw [e] at h; cases h
  | some p =>
    rw [e] at h
    have h' : (relF env p).2 = k := Option.some.inj h
    have hp := List.mem_of_find?_eq_some e
    show some p.2 = some .free
    rcases relF_snd env p with z | z
    · rcases hk with rfl | rfl
      · exact absurd (z.symm.trans h') (hc p hp)
      · rw [← h', z]
    · rw [z.2]
theorem relabel_free {env : Env} {names : List (Str × NameKind)} {x : Str} (h : names.lookup x = some .free) : (names.map (relF env)).lookup x = some .cell ∨ (names.map (relF env)).lookup x = some .free := by
  rw [lookup_find] at h
  rw [lookup_relF]
  cases e : names.find? fun p => x == p.1 with
  | none => rw [e] at h; cases h
  | some p =>
    rw [e] at h
    have h' : p.2 = .free := Option.some.inj h
    show some (relF env p).2 = some .cell ∨ some (relF env p).2 = some .free
    rcases relF_snd env p with z | z
    · right; rw [z, h']
    · left; rw [z.1]
def blk (X : Cx) (scope : Scope) (cl : List (Str × Addr)) (C : Addr) (Nc : List Str) (s : Shared) (H : Hp) (fp : List Addr) : Cx :=
  { X with N := Nc, s₀ := s, H₀ := H, env := compEnvC scope cl C X.env, outer := X.stack, ex := fp, fn := fun _ => false, pn := [], xe := fun _ _ => False }
theorem blk_ok {X : Cx} {pins : List (Addr × Obj)} {σ : L2.St} {H : Hp} {s : Shared} {scope : Scope} {cl : List (Str × Addr)} {C : Addr} {Nc : List Str} {fp : List Addr} (I : Inv X pins σ H s) (hf : ∀ b ∈ fp, FpOk X pins H b) (hlt : ∀ b ∈ fp, b < s.heap.objs.size)
    (hkind : scope.kind = .function) (hC : s.heap.objs.size ≤ C) (h1 : ∀ y c, cl.lookup y = some c → X.env.cells.lookup y = some c) (h2 : ∀ y ∈ scope.names, y.2 = .free → ∃ c, cl.lookup y.1 = some c) (hcell : ∀ y ∈ scope.names, y.2 ≠ .cell) :
    (blk X scope cl C Nc s H fp).Ok where
  mod := I.ok.mod
  kind := hkind
  glob := I.ok.glob
  blt := I.ok.blt
  above := hC
  inj := fun x y c e1 e2 => I.ok.inj x y c (h1 x c e1) (h1 y c e2)
  has := fun x hx => by
    have e : scope.names.lookup x = some .free := by
      rcases hx with hx | hx
      · exact relabel_back hcell (.inl rfl) hx
      · exact relabel_back hcell (.inr rfl) hx
    exact h2 (x, .free) (PySem.mem_of_lookup e) rfl
  cab := fun x c z => by cases z
  hd := I.ok.hd
  frames := I.ok.frames
  stk := .inl rfl
  exf := fun b hb => ⟨fun z => absurd (Nat.lt_of_lt_of_le (hlt b hb) hC) (by rw [show b = C from z]; exact Nat.lt_irrefl _), fun x c e => (hf b hb).2.2.2.2.1 x c (h1 x c e)⟩
  bs := fun b o e => I.bs b o e
  bsz := Nat.le_trans I.ok.bsz I.sz
  noex := fun b o e hb => by
    rcases (hf b hb).2.2.2.1 with z | z
    · exact I.ok.noex b o e z
    · exact absurd (Nat.lt_of_lt_of_le (Heap.lt_size e) (Nat.le_trans I.ok.bsz z)) (Nat.lt_irrefl _)
  exfs := fun b hb z => by
    rcases List.mem_cons.mp (I.stkSub b z) with e | e
    · exact (hf b hb).2.1 e
    · exact (hf b hb).2.2.1 e
  funs := I.stack
  frf := I.stkFree
end R
namespace R
open PySem PySem.Spec PyProof.Rows L2
section
variable {prog : Program} {w : World} {A : Around} {R : Result → Shared → Prop} {s : Shared}
abbrev Nv : Value → Shared → Prop := fun _ _ => False
abbrev testsOf (ifs : List Expr) (env : Env) : Sem Bool := forIn ifs true fun c r => if r = true then do let ok ← isTrue c env (eval c env); pure (ForInStep.yield ok) else pure (ForInStep.yield r)
theorem comp_loop {elt target iter : Expr} {ifs : List Expr} {scope : Scope} {pos : Pos} {it acc : Value} {env : Env} (I : Nat → Shared → Prop)
    (turn : ∀ n s, I n s → wpAny (model prog w) A (pyNext it) (fun r s₁ => (r = none ∧ R (.ok .next) s₁) ∨ ∃ v, r = some v ∧ wpAny (model prog w) A (letOwnedTupleGo target it v) (fun _ s₁' => wpAny (model prog w) A (assign target env v) (fun _ s₂ =>
          wpAny (model prog w) A (testsOf ifs env) (fun ok s₃ =>
            if ok = true then wpAny (model prog w) A (eval elt env) (fun x s₄ =>
              wpAny (model prog w) A (call (.builtin "list.append") [acc, x]) (fun _ s₅ => ∃ m, m < n ∧ I m s₅) Nv s₄) Nv s₃
            else ∃ m, m < n ∧ I m s₃) Nv s₂) Nv s₁') Nv s₁) Nv s)
    (n : Nat) (h : I n s) :
    codeAny (model prog w) A (.compLoop (.ListComp elt [⟨target, iter, ifs, 0⟩] scope pos) 0 it acc env) R s := by
  refine codeAny_loop rfl I (fun n s hI => ?_) n h
  show wpAny _ A ((compTurn (.ListComp elt [⟨target, iter, ifs, 0⟩] scope pos) 0 it acc env).onRaise (fun x => do noteFrame x env; theTreesLotGoes x)) _ _ s
  refine wpAny_noted ?_
  rw [compTurn_list]
  refine wpAny_bind (wpAny_standAt (wpAny_bind (wpAny_mono (turn n s hI) (fun r s₁ h₁ => ?_) fun _ _ h' => h'.elim)))
  rcases h₁ with ⟨rfl, h₁⟩ | ⟨v, rfl, h₁⟩
  · exact wpAny_pure h₁
  · refine wpAny_bind (wpAny_mono h₁ (fun _ s₁' h₁' => ?_) fun _ _ h' => h'.elim)
    refine wpAny_bind (wpAny_mono h₁' (fun _ s₂ h₂ => wpAny_bind (wpAny_mono h₂ (fun ok s₃ h₃ => ?_) fun _ _ h' => h'.elim)) fun _ _ h' => h'.elim)
    cases ok with
    | false => exact wpAny_pure ⟨rfl, h₃⟩
    | true =>
      exact wpAny_bind (wpAny_bind (wpAny_mono h₃ (fun x s₄ h₄ => wpAny_bind (wpAny_mono h₄ (fun _ s₅ h₅ => wpAny_pure (wpAny_pure ⟨rfl, h₅⟩)) fun _ _ h' => h'.elim)) fun _ _ h' => h'.elim))
end
def RPTs (X : Cx) (ifs : List Expr) (t : RTT) : Prop :=
  ∀ (pins : List (Addr × Obj)) (s : Shared) (σ : L2.St) (H : Hp) (Q : Bool → Hp → Prop), Inv X pins σ H s → upT X.K t σ H Q → wpAny (model X.prog X.w) X.A (testsOf ifs X.env) (TP X pins σ Q) X.xe s
def rYes : RTT := fun _ M Q => Q true M
theorem tnil {X : Cx} : RPTs X [] rYes := by
  intro pins s σ0 H Q0 I h
  obtain ⟨σ, M, Q, hs, hv, ht, hk⟩ := h
  exact wpAny_pure ⟨H, I, hk true M H ht (.refl H) hv⟩
def rCompL (tt : RTT) (te : RTE) (base : List (Option RV)) : List RV → List RV → RM → RVK → Prop
  | [], acc, M, Q => Q (.ls acc) M
  | x :: r, acc, M, Q => tt (some x :: base) M fun ok M1 => (ok = true → te (some x :: base) M1 fun v M2 => rCompL tt te base r (acc ++ [v]) M2 Q) ∧ (ok = false → rCompL tt te base r acc M1 Q)
def rComp (ti : RTI) (cap : List Nat) (tt : RTT) (te : RTE) : RTE := fun σ M Q => ti σ M fun xs M1 => xs.length < sizeLine ∧ rCompL tt te (cap.map fun i => (σ[i]?).join) xs [] M1 Q
section
variable {X : Cx}
theorem rcomp {elt iter : Expr} {x : Str} {px : Pos} {scope : Scope} {pos : Pos} {ti : RTI} {tt : RTT} {te : RTE} {ifs : List Expr} (caps : List (Nat × Str)) {osc : Scope} {oN : List Str}
    (hc : X.calm = true) (hi : RPI X (.Name x px) iter ti)
    (hif : ∀ cl C s H fp, RPTs (blk X scope cl C (x :: caps.map Prod.snd) s H fp) ifs tt)
    (hel : ∀ cl C s H fp, RPE (blk X scope cl C (x :: caps.map Prod.snd) s H fp) elt te)
    (hX : X.env.scope = osc) (hN : X.N = oN)
    (hcaps : ∀ p ∈ caps, oN[p.1]? = some p.2 ∧ scope.names.lookup p.2 = some .free ∧ (osc.names.lookup p.2 = some .cell ∨ osc.names.lookup p.2 = some .free))
    (hfr : ∀ y ∈ scope.names, y.2 = .free → (osc.names.lookup y.1 = some .cell ∨ osc.names.lookup y.1 = some .free))
    (hcell : ∀ y ∈ scope.names, y.2 ≠ .cell) (hkind : scope.kind = .function) (hnames : ∀ y ∈ scope.names, y.2 = .local → scope.names.lookup y.1 = some .local) (hx : scope.names.lookup x = some .local) (hnd : (x :: caps.map Prod.snd).Nodup)
    (hs : ∀ v, foldedSetIterable iter X.env v = pure v := by intro _; rfl) :
    RPE X (.ListComp elt [⟨.Name x px, iter, ifs, 0⟩] scope pos) (rComp ti (caps.map Prod.fst) tt te) := by
  subst hX; subst hN
  intro pins s σ0 H Q0 I hw
  obtain ⟨σ, M, Q, hst, hv, ht, hk⟩ := hw
  obtain ⟨cl, hclos, hcl1, hcl2⟩ := closure_ok scope fun y hy hf => I.ok.has y.1 (hfr y hy hf)
  rw [eval_ListComp]
  refine wpAny_comprehension_free (use := none) (cl := cl) rfl hs hclos hkind hnames ?_
  refine wpAny_mono (hi pins s σ0 H (fun J H1 => ∃ xs M1, Ext H H1 ∧ View X.K H1 M1 ∧ ItOf X.K J xs H1 ∧ xs.length < sizeLine ∧ rCompL tt te ((caps.map Prod.fst).map fun i => (σ[i]?).join) xs [] M1 Q) I ⟨σ, M, _, hst, hv, ht, fun xs M' J H' q e w hJ => ⟨xs, M', e, w, hJ, q.1, q.2⟩⟩)
    (fun v s1 h1 => wpAny_mono h1 (fun itv s2 h2 => ?_) fun _ _ e => e) fun _ _ e => e
  obtain ⟨it, fp, tn, J, H2, rfl, I2, T, st2, f2, xs, M1, e2, w2, hJ, hz, hq⟩ := h2
  have flt : ∀ b ∈ fp, b < s2.heap.objs.size := fun b hb => by obtain ⟨o, e, _⟩ := T.obj _ _ st2 b hb; exact Heap.lt_size e
  -- the list and the frame of the block
  refine wpAny_newObj_type (wpAny_newFunctionEnv hcell (by intro y hy; simp at hy) (fun h₁ hns₁ hsb₁ => ?_) hkind)
  dsimp only at hns₁ hsb₁ ⊢
  generalize hH2 : s2.heap.push { cls := .type "list", dict := none, data := .seq ([] : List Value).toArray } = hp2 at hns₁ hsb₁ ⊢
  have hCs : hp2.objs.size = s2.heap.objs.size + 1 := by rw [← hH2, Heap.size_push]
  have hDC : s2.heap.objs.size ≠ hp2.objs.size := by rw [hCs]; exact Nat.ne_of_lt (Nat.lt_succ_self _)
  have hCle : s2.heap.objs.size ≤ hp2.objs.size := by rw [hCs]; exact Nat.le_succ _
  have old : ∀ b o, s2.heap.get? b = some o → h₁.get? b = some o := fun b o e => hsb₁.extBut b o (Nat.ne_of_lt (by rw [hCs]; exact Nat.lt_succ_of_lt (Heap.lt_size e))) (Heap.get?_push_of_some _ (hH2 ▸ Heap.get?_push_of_some _ e))
  have hacc : h₁.get? s2.heap.objs.size = some { cls := .type "list", data := .seq ([] : List Value).toArray } := hsb₁.extBut _ _ hDC (Heap.get?_push_of_some _ (hH2 ▸ Heap.get?_push_size _ rfl))
  generalize hD : s2.heap.objs.size = D at *
  generalize hCg : hp2.objs.size = C at *
  have hDfp : ∀ b ∈ fp, b ≠ D := fun b hb => Nat.ne_of_lt (flt b hb)
  have okB : (blk X scope cl C (x :: caps.map Prod.snd) s2 H2 fp).Ok := blk_ok I2 f2 (by rw [hD]; exact flt) hkind (by rw [hD]; exact hCle) hcl1 hcl2 hcell
  have fr : ∀ b, D ≤ b → H2 b = none := fun b hb => I2.hok.fresh (by rw [hD]; exact hb)
  -- the captured values
  have capsV : ∃ cv : List (Option V), cv.length = caps.length ∧ (∀ (j : Nat) v, cv[j]? = some (some v) → ∃ p, caps[j]? = some p ∧ σ0[p.1]? = some (some v)) ∧
      ∀ (j : Nat) r, ((caps.map Prod.fst).map fun i => (σ[i]?).join)[j]? = some (some r) → ∃ v, cv[j]? = some (some v) ∧ Rep X.K H2 r v := by
    refine ⟨caps.map fun p => (σ0[p.1]?).join, by simp, fun j v e => ?_, fun j r e => ?_⟩
    · rw [List.getElem?_map] at e
      cases q : caps[j]? with
      | none => rw [q] at e; cases e
      | some p =>
        rw [q] at e
        have e' : (σ0[p.1]?).join = some v := Option.some.inj e
        refine ⟨p, rfl, ?_⟩
        cases z : σ0[p.1]? with
        | none => rw [z] at e'; cases e'
        | some o => rw [z] at e'; have : o = some v := e'; rw [this]
    · rw [List.getElem?_map, List.getElem?_map] at e
      cases q : caps[j]? with
      | none => rw [q] at e; cases e
      | some p =>
        rw [q] at e
        have e' : (σ[p.1]?).join = some r := Option.some.inj e
        have e'' : σ[p.1]? = some (some r) := by
          cases z : σ[p.1]? with
          | none => rw [z] at e'; cases e'
          | some o => rw [z] at e'; have : o = some r := e'; rw [this]
        obtain ⟨v, h1, h2⟩ := hst.2 p.1 r e''
        refine ⟨v, ?_, Rep.ext e2 r v h2⟩
        rw [List.getElem?_map, q]
        show some ((σ0[p.1]?).join) = _
        rw [h1]; rfl
  obtain ⟨cv, cvl, cv1, cv2⟩ := capsV
  -- the block's state at its start
  have I3 : Inv (blk X scope cl C (x :: caps.map Prod.snd) s2 H2 fp) [(D, { cls := .type "list", data := .seq ([] : List Value).toArray })] (none :: cv) H2 { s2 with heap := h₁, toks := s2.toks + ([] : List (Str × Value)).length } := by
    refine ⟨okB, rfl, I2.bare, Un.kept old, ⟨_, hns₁, fun i y v a b c => ?_⟩, fun y c e => ?_, fr C hCle, fun y c e => I2.freeC y c (hcl1 y c e), fun p hp => ?_, I2.hok.kept old, ?_⟩
    · cases i with
      | zero => cases b
      | succ j =>
        obtain ⟨p, q1, q2⟩ := cv1 j v b
        have hy : p.2 = y := by
          have a' : (caps.map Prod.snd)[j]? = some y := a
          rw [List.getElem?_map, q1] at a'
          exact Option.some.inj a'
        subst hy
        obtain ⟨z1, z2, z3⟩ := hcaps p (List.mem_of_getElem? q1)
        obtain ⟨m, hn, hl⟩ := I2.loc
        have vis : Vis X.env.scope p.2 := by rcases z3 with z | z; exact .inr (.inl z); exact .inr (.inr z)
        obtain ⟨u, ru, lk⟩ := hl p.1 p.2 v z1 q2 vis
        refine ⟨u, ru, .inr ⟨relabel_free z2, ?_⟩⟩
        obtain ⟨c, ec⟩ := hcl2 (p.2, .free) (PySem.mem_of_lookup z2) rfl
        have ec' := hcl1 p.2 c ec
        rcases lk with ⟨k, _⟩ | ⟨_, c', e', ic⟩
        · have k' : X.env.scope.names.lookup p.2 = some .local := k
          rcases z3 with z | z <;> (rw [z] at k'; cases k')
        · rw [ec'] at e'; cases e'
          obtain ⟨o, ho, hd⟩ := ic
          exact ⟨c, ec, o, old c o ho, hd⟩
    · obtain ⟨v, o, ho, hd⟩ := I2.cell y c (hcl1 y c e)
      exact ⟨v, o, old c o ho, hd⟩
    · have hp' : p = (D, { cls := .type "list", data := .seq ([] : List Value).toArray }) := by simpa [blk] using hp
      subst hp'
      refine ⟨hacc, fr D (Nat.le_refl _), hDC, fun z => ?_, fun v => by simp⟩
      have := I2.stkFree D z
      rcases List.mem_cons.mp (I2.stkSub D z) with e | e
      · exact absurd I2.lt (by rw [← e, hD]; exact Nat.lt_irrefl _)
      · exact I2.nofs (by rw [hD]; exact Nat.le_refl _) e
    · show (none :: cv).length = (x :: caps.map Prod.snd).length
      simp [cvl]
  -- the loop
  have W : ∀ s3 : Shared, s3 = { s2 with heap := h₁, toks := s2.toks + ([] : List (Str × Value)).length } → codeAny (model X.prog X.w) X.A (.compLoop (.ListComp elt [⟨.Name x px, iter, ifs, 0⟩] scope pos) 0 (.ref it) (.ref D) (compEnvC scope cl C X.env))
      (compPost (model X.prog X.w) X.A X.xe none (EP X pins σ0 Q0) (.ref D) C) s3 := by
    rintro s3 rfl
    refine comp_loop (fun n s' => ∃ (i : Nat) (v0 : Option V) (H' : Hp) (M' : RM) (accR : List RV) (accV : List V) (its : List Value) (k : Nat), n = xs.length - i ∧ i ≤ xs.length ∧ accR.length ≤ i ∧
        Inv (blk X scope cl C (x :: caps.map Prod.snd) s2 H2 fp) [(D, { cls := .type "list", data := .seq its.toArray k })] (v0 :: cv) H' s' ∧ View X.K H' M' ∧ Ext H2 H' ∧ Reps X.K H' accR accV ∧ Vals accV its ∧ tn i s'.heap ∧ (∀ b ∈ fp, H' b = none) ∧
        rCompL tt te ((caps.map Prod.fst).map fun i => (σ[i]?).join) (xs.drop i) accR M' Q) ?_ xs.length ⟨0, none, H2, M1, [], [], [], 0, rfl, Nat.zero_le _, Nat.le_refl _, I3, w2, .refl _, Reps.nil, .nil, T.keep _ _ _ st2 fun b _ o e => old b o e, fun b hb => (f2 b hb).1, by simpa using hq⟩
    rintro n s' ⟨i, v0, H', M', accR, accV, its, k, rfl, hi, hal, I4, w4, e4, ra, rl, st4, f4, hq4⟩
    have fpB : ∀ (pins' : List (Addr × Obj)) (H'' : Hp), (∀ b ∈ fp, H'' b = none) → (∀ p ∈ pins', ∀ b ∈ fp, p.1 ≠ b) → ∀ b ∈ fp, FpOk (blk X scope cl C (x :: caps.map Prod.snd) s2 H2 fp) pins' H'' b := fun pins' H'' h1 h2 b hb =>
      ⟨h1 b hb, (okB.exf b hb).1, okB.exfs b hb, .inl hb, (okB.exf b hb).2, fun p hp => h2 p (by simpa [blk] using hp) b hb⟩
    have pD : ∀ (o : Obj), ∀ p ∈ [(D, o)], ∀ b ∈ fp, p.1 ≠ b := fun o p hp b hb => by
      have : p = (D, o) := by simpa using hp
      subst this
      exact (hDfp b hb).symm
    by_cases hlt : i < xs.length
    · obtain ⟨hgo, hy⟩ := hJ.turn i H' e4 xs[i] (by simp)
      refine thn (T.item (blk X scope cl C (x :: caps.map Prod.snd) s2 H2 fp) rfl rfl rfl hc i _ s' _ H' Nv I4 (fpB _ _ f4 (pD _)) st4 hgo) fun r s5 ⟨u, hr, h5⟩ => .inr ⟨u, hr, ?_⟩
      refine thn h5 fun _ s6 ⟨xv, H6, I6, r6, y6, st6, f6⟩ => ?_
      obtain ⟨e6, w6, rr6⟩ := hy xv H6 y6
      have I6' := I6.pinned (fpB _ _ f6 (pD _)) (T.obj _ _ st6)
      refine thn (pg_name (X := blk X scope cl C (x :: caps.map Prod.snd) s2 H2 fp) (i := 0) hnd rfl (.inl (lookup_relabel_local hx)) (.inr (lookup_relabel_local hx)) _ s6 _ H6 xv u (fun σ' H' => σ' = (some xv :: cv) ∧ H' = H6) I6' r6 ⟨rfl, rfl⟩) fun _ s7 ⟨σ7, H7, I7, q7, q7'⟩ => ?_
      obtain rfl := q7
      subst q7'
      have ed : xs.drop i = xs[i] :: xs.drop (i + 1) := by simp
      rw [ed] at hq4
      have base : ∀ {Hx : Hp}, Ext H7 Hx → RepSt X.K Hx (some xs[i] :: (caps.map Prod.fst).map fun i => (σ[i]?).join) (some xv :: cv) := fun {Hx} ex => by
        refine ⟨by simp [cvl], fun j r e => ?_⟩
        cases j with
        | zero =>
          have e' : xs[i] = r := by simpa using e
          subst e'
          exact ⟨xv, rfl, Rep.ext ex _ _ rr6⟩
        | succ j =>
          obtain ⟨v, a, b⟩ := cv2 j r (by simpa using e)
          exact ⟨v, by simpa using a, Rep.ext (e4.trans (e6.trans ex)) r v b⟩
      have next : ∀ (M8 : RM) (H8 : Hp) (s8 : Shared) (accR' : List RV) (accV' : List V) (its' : List Value) (k' : Nat), accR'.length ≤ i + 1 →
          Inv (blk X scope cl C (x :: caps.map Prod.snd) s2 H2 fp) ([(D, { cls := .type "list", data := .seq its'.toArray k' })] ++ pinsAt fp s6.heap) (some xv :: cv) H8 s8 → View X.K H8 M8 → Ext H7 H8 → Reps X.K H8 accR' accV' → Vals accV' its' →
          rCompL tt te ((caps.map Prod.fst).map fun i => (σ[i]?).join) (xs.drop (i + 1)) accR' M8 Q → ∃ m, m < xs.length - i ∧ ∃ (i : Nat) (v0 : Option V) (H' : Hp) (M' : RM) (accR : List RV) (accV : List V) (its : List Value) (k : Nat), m = xs.length - i ∧ i ≤ xs.length ∧ accR.length ≤ i ∧
        Inv (blk X scope cl C (x :: caps.map Prod.snd) s2 H2 fp) [(D, { cls := .type "list", data := .seq its.toArray k })] (v0 :: cv) H' s8 ∧ View X.K H' M' ∧ Ext H2 H' ∧ Reps X.K H' accR accV ∧ Vals accV its ∧ tn i s8.heap ∧ (∀ b ∈ fp, H' b = none) ∧
        rCompL tt te ((caps.map Prod.fst).map fun i => (σ[i]?).join) (xs.drop i) accR M' Q := by
        intro M8 H8 s8 accR' accV' its' k' hl' I8 w8 e8 ra' rl' hq8
        have keep8 : ∀ b ∈ fp, ∀ o, s6.heap.get? b = some o → s8.heap.get? b = some o ∧ H8 b = none := fun b hb o e => by
          have := I8.pin (b, o) (List.mem_append_right _ (List.mem_append_right _ (mem_pinsAt hb e)))
          exact ⟨this.1, this.2.1⟩
        refine ⟨xs.length - (i + 1), by omega, i + 1, some xv, H8, M8, accR', accV', its', k', rfl, hlt, hl', I8.unpinned, w8, e4.trans (e6.trans e8), ra', rl', T.keep _ _ _ st6 fun b hb o e => (keep8 b hb o e).1, fun b hb => ?_, hq8⟩
        obtain ⟨o, e, _⟩ := T.obj _ _ st6 b hb
        exact (keep8 b hb o e).2
      refine thn (hif cl C s2 H2 fp _ s7 _ H7 (fun ok H8 => ∃ M8, View X.K H8 M8 ∧ Ext H7 H8 ∧ (ok = true → te (some xs[i] :: (caps.map Prod.fst).map fun i => (σ[i]?).join) M8 fun v M2 => rCompL tt te ((caps.map Prod.fst).map fun i => (σ[i]?).join) (xs.drop (i + 1)) (accR ++ [v]) M2 Q) ∧
        (ok = false → rCompL tt te ((caps.map Prod.fst).map fun i => (σ[i]?).join) (xs.drop (i + 1)) accR M8 Q)) I7 ⟨_, M', _, base (.refl _), w6 M' w4, hq4, fun b M8 H8 q e w => ⟨M8, w, e, q.1, q.2⟩⟩) fun ok s8 ⟨H8, I8, M8, w8, e8, qt, qf⟩ => ?_
      cases ok with
      | false =>
        exact next M8 H8 s8 accR accV its k (by omega) I8 w8 e8 (Reps.ext (e6.trans e8) _ _ ra) rl (qf rfl)
      | true =>
        refine thn (hel cl C s2 H2 fp _ s8 _ H8 (fun v H9 => ∃ rv M9, View X.K H9 M9 ∧ Ext H8 H9 ∧ Rep X.K H9 rv v ∧ rCompL tt te ((caps.map Prod.fst).map fun i => (σ[i]?).join) (xs.drop (i + 1)) (accR ++ [rv]) M9 Q) I8 ⟨_, M8, _, base e8, w8, qt rfl, fun rv M9 v H9 q e w r => ⟨rv, M9, w, e, r, q⟩⟩) fun y s9 ⟨yv, H9, I9, r9, rv, M9, w9, e9, rr9, hq9⟩ => ?_
        have pD9 := I9.pin (D, { cls := .type "list", data := .seq its.toArray k }) (List.mem_append_right _ (List.mem_append_left _ List.mem_cons_self))
        have hlen : its.length ≤ i := by rw [← rl.length, ← ra.length]; exact hal
        refine call_meets F.slot_list_append ⟨_, pD9.1, rfl⟩ F.entry_list_append (F.args_list_append_2 _ _) (PySem.list_append D its.toArray k y (by rw [List.size_toArray]; omega)) ⟨pD9.1, ?_⟩
        have q := PySem.IsL.update pD9.1 (fun x_1 => x_1.push y)
        have hpush : its.toArray.push y = (its ++ [y]).toArray := by simp
        rw [hpush] at q
        obtain ⟨k', q⟩ : ∃ k', (s9.heap.update D (Obj.mapSeq fun x_1 => x_1.push y)).get? D = some { cls := .type "list", data := .seq (its ++ [y]).toArray k' } := ⟨_, q⟩
        have I10 : Inv (blk X scope cl C (x :: caps.map Prod.snd) s2 H2 fp) (pinsAt fp s6.heap) (some xv :: cv) H9 { s9 with heap := s9.heap.update D (Obj.mapSeq fun x_1 => x_1.push y), toks := s9.toks } := by
          refine Inv.turned (it := D) (I9.pins_of fun p hp => I9.pin p (List.mem_append_right _ (List.mem_append_right _ hp))) (fun b o hb e => (Heap.get?_update_other _ _ (Ne.symm hb)).trans e) pD9.2.1 pD9.2.2.1 (.inr (by show s2.heap.objs.size ≤ D; rw [hD]; exact Nat.le_refl _)) (fun z c e => ?_) fun p hp => ?_
          · obtain ⟨v, o, ho, hd⟩ := I2.cell z c (hcl1 z c e)
            exact Nat.ne_of_lt (by have := Heap.lt_size ho; rw [hD] at this; exact this)
          · have hp' : p ∈ pinsAt fp s6.heap := by simpa [blk] using hp
            exact hDfp p.1 (of_pinsAt hp').1
        have I11 : Inv (blk X scope cl C (x :: caps.map Prod.snd) s2 H2 fp) ([(D, { cls := .type "list", data := .seq (its ++ [y]).toArray k' })] ++ pinsAt fp s6.heap) (some xv :: cv) H9 { s9 with heap := s9.heap.update D (Obj.mapSeq fun x_1 => x_1.push y), toks := s9.toks } := by
          refine I10.pins_of fun p hp => ?_
          rcases List.mem_append.mp hp with hp | hp
          · have : p = (D, { cls := .type "list", data := .seq (its ++ [y]).toArray k' }) := by simpa using hp
            subst this
            exact ⟨q, pD9.2.1, pD9.2.2.1, pD9.2.2.2.1, fun v => by simp⟩
          · exact I10.pin p (List.mem_append_right _ hp)
        exact next M9 H9 _ (accR ++ [rv]) (accV ++ [yv]) (its ++ [y]) k' (by rw [List.length_append, List.length_singleton]; omega) I11 w9 (e8.trans e9) ((Reps.ext (e6.trans (e8.trans e9)) _ _ ra).append (Reps.cons rr9 Reps.nil)) (rl.append (.cons r9 .nil)) hq9
    · have ei : i = xs.length := by omega
      subst ei
      refine thn (T.done (blk X scope cl C (x :: caps.map Prod.snd) s2 H2 fp) rfl rfl rfl hc _ _ s' _ H' Nv I4 (fpB _ _ f4 (pD _)) st4 (hJ.stop _ H' e4 (Nat.le_refl _))) fun r s5 ⟨hr, I5⟩ => .inl ⟨hr, ?_⟩
      rw [List.drop_length] at hq4
      obtain ⟨m5, hn5, _⟩ := I5.loc
      refine ⟨m5, hn5, fun h' sb => ?_⟩
      have pD5 := I5.pin (D, { cls := .type "list", data := .seq its.toArray k }) (List.mem_append_right _ List.mem_cons_self)
      have hDh : h'.get? D = some { cls := .type "list", data := .seq its.toArray k } := sb.extBut _ _ hDC pD5.1
      have hC5 : H' C = none := I5.free
      have hz' : accV.length ≤ sizeLine := by rw [← ra.length]; omega
      have hok5 : HOk X.prog X.w (upd H' D (.frz { cls := .type "list", data := .seq its.toArray k } (.lst accV))) h' := fun b u q => by
        by_cases hb : b = D
        · subst hb; rw [upd_same] at q; cases q
          exact ⟨hDh, hz', its, k, rl, hDh⟩
        · rw [upd_ne hb] at q
          refine (I5.hok b u q).stay (fun c v hcb e => sb.extBut c v ?_ e) (fun c e => ?_) fun c ys e => ?_
          · rcases hcb with rfl | e'
            · exact ne_of_none q hC5
            · exact ne_of_none e' hC5
          · rw [upd_ne (ne_of_none e pD5.2.1)]; exact e
          · rw [upd_ne (ne_of_none e pD5.2.1)]; exact e
      have un5 : Un (frs X.stack) fp H2 (upd H' D (.frz { cls := .type "list", data := .seq its.toArray k } (.lst accV))) s2.heap h' := by
        have B : Un (frs X.stack) fp H2 H' s2.heap s5.heap := I5.base
        have nC : ∀ b o, s2.heap.get? b = some o → b ≠ C := fun b o e => Nat.ne_of_lt (Nat.lt_of_lt_of_le (Heap.lt_size e) (by rw [hD]; exact hCle))
        have nD : ∀ b o, s2.heap.get? b = some o → b ≠ D := fun b o e => Nat.ne_of_lt (by have := Heap.lt_size e; rw [hD] at this; exact this)
        refine ⟨fun b o a1 a2 a3 a4 => sb.extBut b o (nC b o a1) (B.keep b o a1 a2 a3 a4), fun b o a1 a2 a3 a4 => ?_, fun b o a1 a2 a4 => ?_, fun b o a1 a4 => ?_, fun b ys a => ?_, fun b o u a => ?_, fun b ps a => ?_⟩
        · obtain ⟨sl, e⟩ := B.slot b o a1 a2 a3 a4
          exact ⟨sl, sb.extBut b _ (nC b o a1) e⟩
        · rw [upd_ne (nD b o a1)]; exact B.free b o a1 a2 a4
        · obtain ⟨o', e⟩ := B.there b o a1 a4
          exact ⟨o', sb.extBut b o' (nC b o a1) e⟩
        · have e := B.tups b ys a; rw [upd_ne (ne_of_none e pD5.2.1)]; exact e
        · have e := B.frzs b o u a; rw [upd_ne (ne_of_none e pD5.2.1)]; exact e
        · obtain ⟨more, e⟩ := B.tbls b ps a; exact ⟨more, by rw [upd_ne (ne_of_none e pD5.2.1)]; exact e⟩
      have I6 : Inv X pins σ0 (upd H' D (.frz { cls := .type "list", data := .seq its.toArray k } (.lst accV))) { s5 with heap := h' } := I2.call' (ch := fp) I5.os un5 hok5 I5.bare fun b hb => ⟨(f2 b hb).2.2.2.1, (f2 b hb).2.1, (f2 b hb).2.2.2.2.1, (f2 b hb).2.2.2.2.2⟩
      refine ⟨.ref D, _, I6, rfl, hk _ M' _ _ hq4 ((e2.trans e4).trans (Ext.new pD5.2.1)) (w4.new pD5.2.1) (rep_ls pD5.2.1 ra)⟩
  exact codeAny_compStart_list (W _ rfl) (T.self X.A 0 _ _ _ (T.keep _ _ _ st2 fun b _ o e => old b o e) (W _ rfl))
end
end R
namespace R
open PySem PySem.Spec PyProof.Rows L2
def keyR : RV → Option Key
  | .int i => some (.inl i)
  | .str x => some (.inr x)
  | _ => none
def lookK {α : Type} (kvs : List (Key × α)) (k : Key) : Option α := (kvs.find? fun p => decide (p.1 = k)).map (·.2)
theorem keyR_kV {K : PySem.W.Frag} {H : Hp} {a : RV} {x : V} {k : Key} (e : keyR a = some k) (r : Rep K H a x) : x = kV k := by
  cases a with
  | int i => cases e; simp only [Rep] at r; exact r
  | str y => cases e; simp only [Rep] at r; exact r
  | _ => cases e
theorem repP_look {K : PySem.W.Frag} {H : Hp} {k : Key} : ∀ {kvs : List (Key × RV)} {ws : List (Key × V)}, RepP K H kvs ws → (∀ r, lookK kvs k = some r → ∃ v, valV ws k = some v ∧ Rep K H r v) ∧ (lookK kvs k = none → valV ws k = none)
  | [], ws, h => by
    have h : ws = [] := h
    subst h
    exact ⟨fun r e => (by cases e), fun _ => rfl⟩
  | (j, x) :: t, ws, h => by
    obtain ⟨v, u, rfl, h1, h2⟩ := h
    have ih := repP_look (k := k) h2
    unfold lookK
    rw [List.find?_cons]
    by_cases hj : j = k
    · rw [decide_eq_true (show (j, x).1 = k from hj)]
      refine ⟨fun r e => ⟨v, valV_pos (p := (j, v)) hj, ?_⟩, fun e => (by cases e)⟩
      cases e; exact h1
    · rw [decide_eq_false (show ¬ (j, x).1 = k from hj)]
      refine ⟨fun r e => ?_, fun e => ?_⟩
      · rw [valV_neg (p := (j, v)) hj]; exact ih.1 r e
      · rw [valV_neg (p := (j, v)) hj]; exact ih.2 e
structure KTab (P : Program) (w : World) (K : PySem.W.Frag) (mg : Str → Option Value) (x : Str) (kvs : List (Key × RV)) : Prop where
  ex : ∃ (a : Addr) (vs : List (Key × Value)) (ws : List (Key × V)), mg x = some (.ref a) ∧ (a == sysModules) = false ∧ (∀ h : Heap, K.In h → h.DictOf (mixKind P w) a vs) ∧ KV ws vs ∧ ∀ H, RepP K H kvs ws
def KRows (w : World) : List DictEntry → List (Str × Value) → Prop
  | [], [] => True
  | e :: es, (x, v) :: r => (∃ t, e.key = .str x t) ∧ e.hash = hashStr w x ∧ e.val = v ∧ KRows w es r
  | _, _ => False
theorem krows_pairs {P : Program} {w : World} : ∀ {es : List DictEntry} {vs : List (Str × Value)}, KRows w es vs →
    (∀ e ∈ es, ∃ k, (mixKind P w).is k e.key = true ∧ e.hash = (mixKind P w).hash k) ∧ Pairs (mixKind P w) es (vs.map fun p => ((Sum.inr p.1 : Key), p.2))
  | [], [], _ => ⟨fun _ h => (by cases h), Pairs.nil⟩
  | e :: es, (x, v) :: r, h => by
    obtain ⟨⟨t, h1⟩, h2, h3, h4⟩ := h
    obtain ⟨ih1, ih2⟩ := krows_pairs (P := P) (w := w) h4
    have hi : (mixKind P w).is (.inr x) e.key = true := by rw [h1]; exact mixKind_str P w x t
    refine ⟨fun e' he => ?_, ?_⟩
    · rcases List.mem_cons.mp he with rfl | he
      · exact ⟨.inr x, hi, h2⟩
      · exact ih1 e' he
    · subst h3
      exact Pairs.cons hi rfl ih2
theorem nodup_inr : ∀ {l : List Str}, l.Nodup → (l.map (Sum.inr : Str → Key)).Nodup
  | [], _ => List.nodup_nil
  | a :: r, h => by
    obtain ⟨h1, h2⟩ := List.nodup_cons.mp h
    rw [List.map_cons]
    refine List.nodup_cons.mpr ⟨fun m => ?_, nodup_inr h2⟩
    obtain ⟨b, hb, e⟩ := List.mem_map.mp m
    cases e
    exact h1 hb
theorem ktab_mk {P : Program} {w : World} {K : PySem.W.Frag} {mg : Str → Option Value} {x : Str} {a : Addr} {es : Array DictEntry} {ep : Nat} {sl : Array (Option Value)} {vs : List (Str × Value)} {kvs : List (Key × RV)} {ws : List (Key × V)}
    (hm : mg x = some (.ref a)) (l : K.lookup a = some ⟨.type "dict", none, .dict es ep, sl⟩) (ha : (a == sysModules) = false) (hr : KRows w es.toList vs) (hn : (vs.map Prod.fst).Nodup)
    (hsl : Obj.ExactDict ⟨.type "dict", none, .dict es ep, sl⟩) (hk : KV ws (vs.map fun p => ((Sum.inr p.1 : Key), p.2))) (hp : ∀ H, RepP K H kvs ws) : KTab P w K mg x kvs := by
  obtain ⟨h1, h2⟩ := krows_pairs (P := P) hr
  refine ⟨a, _, ws, hm, ha, fun h X => ⟨_, es, ep, X _ _ l, hsl, rfl, fun e he => h1 e (by simpa using he), h2, ?_⟩, hk, hp⟩
  have : (vs.map fun p => ((Sum.inr p.1 : Key), p.2)).map (·.1) = (vs.map Prod.fst).map Sum.inr := by simp [List.map_map, Function.comp_def]
  rw [this]
  exact nodup_inr hn
section
variable {X : Cx}
def rTab (kvs : List (Key × RV)) (te : RTE) : RTE := fun σ M Q => te σ M fun k M1 => match keyR k with
  | some key => (match lookK kvs key with | some v => Q v M1 | none => False)
  | none => False
theorem rtab {x : Str} {kvs : List (Key × RV)} {e : Expr} {te : RTE} {p pos : Pos} (T : KTab X.prog X.w X.K X.mg x kvs) (he : RPE X e te) (hs : NoSl e := by intro _ _; rfl) (hg : Gl X x := by rfl) (hd : (x == ("__debug__" : Str)) = false := by decide) :
    RPE X (.Subscript (.Name x p) e pos) (rTab kvs te) := by
  obtain ⟨a, vs, ws, hm, ha, hD, hk, hr⟩ := T.ex
  intro pins s σ0 H Q0 I h
  obtain ⟨σ, M, Q, hs', hv, ht, hq⟩ := h
  refine subD_of PySem.F.slot_dict_getitem.lookup hs (ld_glob I hg hm (thn (he pins s σ0 H (fun v H1 => ∃ r M1, Rep X.K H1 r v ∧ Ext H H1 ∧ View X.K H1 M1 ∧ (match keyR r with
    | some key => (match lookK kvs key with | some v => Q v M1 | none => False)
    | none => False)) I ⟨σ, M, _, hs', hv, ht, fun r M1 v H1 q e w r1 => ⟨r, M1, r1, e, w, q⟩⟩) fun iv s2 ⟨y, H2, I2, ry, r, M2, rr, e2, w2, q2⟩ => ?_) hd)
  have dd := hD _ I2.kIn
  refine ⟨dd.typeIs, ?_⟩
  cases ek : keyR r with
  | none => rw [ek] at q2; exact q2.elim
  | some key =>
    rw [ek] at q2
    simp only at q2
    cases el : lookK kvs key with
    | none => rw [el] at q2; exact q2.elim
    | some rv =>
      rw [el] at q2
      simp only at q2
      obtain ⟨v, e1, r1⟩ := (repP_look (k := key) (hr H2)).1 rv el
      have := keyR_kV ek rr
      subst this
      obtain ⟨w', hw, rw'⟩ := RelO.some_of (v := v) (o := valueAt vs key) (by rw [← e1]; exact hk.val key)
      exact wpAny_getItem_of (kV_is ry) dd.mapOf hw ⟨v, H2, I2.tok _, rw', hq rv M2 v H2 q2 e2 w2 r1⟩
theorem tab_isSome {K : PySem.W.Frag} {H : Hp} {kvs : List (Key × RV)} {ws : List (Key × V)} {vs : List (Key × Value)} {key : Key} (hk : KV ws vs) (hr : RepP K H kvs ws) : (valueAt vs key).isSome = (lookK kvs key).isSome := by
  rw [← (hk.val key).isSome_eq]
  cases el : lookK kvs key with
  | none => rw [(repP_look (k := key) hr).2 el]; rfl
  | some rv => obtain ⟨v, e1, _⟩ := (repP_look (k := key) hr).1 rv el; rw [e1]; rfl
def drop (M : RM) (p : Addr) : RM := fun b => if b = p then none else M b
theorem View.drop {K : PySem.W.Frag} {H : Hp} {M : RM} (w : View K H M) (p : Addr) : View K H (drop M p) := fun a o e => by
  unfold R.drop at e
  split at e
  · cases e
  · exact w a o e
def rDispGet (kvs : List (Key × RV)) (te : RTE) : RTE := fun σ M Q => ∀ p, M p = none → te σ (put M p (.dk kvs)) fun k M1 => M1 p = some (.dk kvs) ∧ (match keyR k with
  | some key => (match lookK kvs key with | some v => Q v (drop M1 p) | none => False)
  | none => False)
end
end R
namespace R
open PySem PySem.Spec PyProof.Rows L2
theorem rfnok {P : Program} {w : World} {K : PySem.W.Frag} {mg : Str → Option Value} {base : Heap} {x qual : Str} {st : Stmt} {f : Addr} {fd : FuncData} {N ps : List Str} {k : Nat} {sp : RSp} {t : RTS} (F : Fun K x qual st f fd) (S : FnScope N ps (defScope st))
    (len : ∀ rs M Q, sp rs M Q → rs.length = ps.length)
    (term : ∀ (cdv : Value) (A : Around) (outer : List Env) (s : Shared) (H : Hp) (E : XK), Room k (A.deeper (envOfC qual (defScope st) s.heap.objs.size f cdv)) → RPSs (cxOf CX0 P w K mg base N qual (defScope st) f cdv A outer s H E).nox (defBody st) t)
    (body : ∀ rs M Q, sp rs M Q → t { nx := fun _ M' => Q .non M', rt := Q } (rstart N rs) M) : FnOk P w K mg base CX0 (k + 1) f fd ps (upSp K sp) := by
  refine F.ok S (fun vs H Q0 E h => ?_) fun cdv A outer s H vs Q0 E hr h => ?_
  · obtain ⟨rs, M, Q, rr, hv, hq, hk⟩ := h
    rw [← rr.length]; exact len rs M Q hq
  · obtain ⟨rs, M, Q, rr, hv, hq, hk⟩ := h
    refine ⟨_, term cdv A outer s H E hr, rstart N rs, M, { nx := fun _ M' => Q .non M', rt := Q }, start_rep rr, hv, body rs M Q hq, ⟨fun σ M' σ0 H' q e w r => hk .non M' .non H' q e w (by simp only [Rep]), hk, fun _ _ _ _ z => z.elim, fun _ _ _ _ z => z.elim⟩⟩
theorem bt_len : bootBuiltins "len" = some (.builtin "len") := by decide +kernel
theorem bt_isinstance : bootBuiltins "isinstance" = some (.builtin "isinstance") := by decide +kernel
theorem bt_ord : bootBuiltins "ord" = some (.builtin "ord") := by decide +kernel
theorem bt_all : bootBuiltins "all" = some (.builtin "all") := by decide +kernel
theorem bt_tuple : bootBuiltins "tuple" = some (.type "tuple") := by decide +kernel
theorem bt_int : bootBuiltins "int" = some (.type "int") := by decide +kernel
theorem bt_bool : bootBuiltins "bool" = some (.type "bool") := by decide +kernel
theorem bt_str : bootBuiltins "str" = some (.type "str") := by decide +kernel
section
variable {X : Cx} {pos : Pos}
theorem rty_int (hm : X.mg "int" = none) (hg : Gl X "int" := by rfl) : RPE X (.Name "int" pos) (rC (.ty "int")) := rbltn hm bt_int (v := .ty "int") rfl (fun H => by simp only [Rep]) hg
theorem rty_bool (hm : X.mg "bool" = none) (hg : Gl X "bool" := by rfl) : RPE X (.Name "bool" pos) (rC (.ty "bool")) := rbltn hm bt_bool (v := .ty "bool") rfl (fun H => by simp only [Rep]) hg
theorem rty_str (hm : X.mg "str" = none) (hg : Gl X "str" := by rfl) : RPE X (.Name "str" pos) (rC (.ty "str")) := rbltn hm bt_str (v := .ty "str") rfl (fun H => by simp only [Rep]) hg
theorem rty_tuple (hm : X.mg "tuple" = none) (hg : Gl X "tuple" := by rfl) : RPE X (.Name "tuple" pos) (rC (.ty "tuple")) := rbltn hm bt_tuple (v := .ty "tuple") rfl (fun H => by simp only [Rep]) hg
def IntC (mg : Str → Option Value) (x : Str) (i : Int) : Prop := ∃ t, mg x = some (.int i t)
theorem rgi {x : Str} {i : Int} (h : IntC X.mg x i) (hg : Gl X x := by rfl) (hd : (x == ("__debug__" : Str)) = false := by decide) : RPE X (.Name x pos) (rC (.int i)) := by
  obtain ⟨t, hm⟩ := h
  exact rglob hm (v := .int i) ⟨t, rfl⟩ (fun H => by simp only [Rep]) hg hd
def TupC (K : PySem.W.Frag) (mg : Str → Option Value) (x : Str) (ss : List Str) : Prop := ∃ a, mg x = some (.ref a) ∧ ∀ H, Rep K H (.tup (ss.map RV.str)) (.ref a)
theorem rgt {x : Str} {ss : List Str} (h : TupC X.K X.mg x ss) (hg : Gl X x := by rfl) (hd : (x == ("__debug__" : Str)) = false := by decide) : RPE X (.Name x pos) (rC (.tup (ss.map RV.str))) := by
  obtain ⟨a, hm, hr⟩ := h
  exact rglob hm (v := .ref a) rfl hr hg hd
end
theorem tupc_mk {K : PySem.W.Frag} {mg : Str → Option Value} {x : Str} {a : Addr} {ss : List Str} {its : Array Value} {n : Nat} {d : Option Addr} {sl : Array (Option Value)} (hm : mg x = some (.ref a)) (l : K.lookup a = some ⟨.type "tuple", d, .seq its n, sl⟩) (hz : its.size ≤ sizeLine)
    (hv : Vals (ss.map V.str) its.toList) : TupC K mg x ss := by
  refine ⟨a, hm, fun H => ?_⟩
  simp only [Rep]
  refine ⟨a, ss.map V.str, rfl, .inr ⟨_, its, n, l, rfl, rfl, hz, hv⟩, ?_⟩
  clear hv
  induction ss with
  | nil => exact Reps.nil
  | cons s r ih => exact Reps.cons (by simp only [Rep]) ih
theorem law_in {K : PySem.W.Frag} {sp : RSp} {H : Hp} {a : Addr} {ns : List Int} (hO : Only H) (hS : SqL K H a (ns.map V.int)) (h : sp [.ls (ns.map RV.int)] (fun _ => none) (fun v _ => v = .bl true)) : upSp K sp [.ref a] H (fun v _ => v = .bl true) (fun _ _ _ => False) := by
  have hr : ∀ l : List Int, Reps K H (l.map RV.int) (l.map V.int) := fun l => by
    induction l with
    | nil => exact Reps.nil
    | cons s r ih => exact Reps.cons (by simp only [Rep]) ih
  have hf : Fz K H a (ns.map V.int) := by
    rcases hS with (e | ⟨o, e⟩) | e
    · rcases hO a with z | ⟨o, xs, z⟩
      · rw [e] at z; cases z
      · rw [e] at z; cases z
    · exact .inl ⟨o, e⟩
    · exact .inr e
  refine ⟨[.ls (ns.map RV.int)], fun _ => none, fun v _ => v = .bl true, Reps.cons (by simp only [Rep]; exact ⟨a, _, rfl, hf, hr ns⟩) Reps.nil, fun _ _ z => (by cases z), h, fun rv M' v H' q _ _ r => ?_⟩
  have q' : rv = .bl true := q
  subst q'
  simpa only [Rep] using r
end R
namespace R
open PySem PySem.Spec PyProof.Rows L2
structure NameOk (N : List Str) (sc : Scope) : Prop where
  nd : N.Nodup
  loc : ∀ x ∈ N, sc.names.lookup x = some .local ∨ sc.names.lookup x = some .cell
  dbg : ∀ x ∈ N, (x == ("__debug__" : Str)) = false ∧ (x == ("__classdict__" : Str)) = false
section
variable {X : Cx} {x : Str} {pos pos' : Pos}
theorem rvN (i : Nat) (S : NameOk X.N X.env.scope) (hN : X.N[i]? = some x := by rfl) : RPE X (.Name x pos) (rVar i) :=
  have m := List.mem_of_getElem? hN
  rv i hN ((S.loc x m).elim .inl fun z => .inr (.inl z)) (S.dbg x m).1 (S.dbg x m).2
theorem ssetN {e : Expr} {te : RTE} (i : Nat) (S : NameOk X.N X.env.scope) (he : RPE X e te) (hN : X.N[i]? = some x := by rfl) (hs : swapsWith e (some (.Name x pos')) pos.line X.env = pure false := by rfl) (hf : X.fn x = true := by rfl) :
    RPS X (.Assign [.Name x pos'] e pos) (rSet i te) := sset i he S.nd hN (S.loc x (List.mem_of_getElem? hN)) hs (.inl hf)
theorem gnameN (i : Nat) (S : NameOk X.N X.env.scope) (hN : X.N[i]? = some x := by rfl) (hf : X.fn x = true := by rfl) : RPG X (.Name x pos) (rgN i) := gname i S.nd hN (S.loc x (List.mem_of_getElem? hN)) (.inl hf)
theorem pgN (i : Nat) (S : NameOk X.N X.env.scope) (hN : X.N[i]? = some x := by rfl) (hf : X.fn x = true := by rfl) : PG X (.Name x pos) (gName i) := pg_name S.nd hN (S.loc x (List.mem_of_getElem? hN)) (.inl hf)
structure VisB (X : Cx) : Prop where
  vis : ∀ x ∈ X.N, Vis X.env.scope x
  dbg : ∀ x ∈ X.N, (x == ("__debug__" : Str)) = false ∧ (x == ("__classdict__" : Str)) = false
theorem rvB (i : Nat) (S : VisB X) (hN : X.N[i]? = some x := by rfl) : RPE X (.Name x pos) (rVar i) :=
  have m := List.mem_of_getElem? hN
  rv i hN (S.vis x m) (S.dbg x m).1 (S.dbg x m).2
theorem glB {scope : Scope} {cl : List (Str × Addr)} {C : Addr} {Nc : List Str} {s : Shared} {H : Hp} {fp : List Addr} (h : scope.names.lookup x = some .globalImplicit) : Gl (blk X scope cl C Nc s H fp) x := by
  show (scope.names.map (relF X.env)).lookup x = _
  rw [lookup_relF]
  rw [lookup_find] at h
  cases e : scope.names.find? fun p => x == p.1 with
  | none => rw [e] at h; cases h
  | some p =>
    rw [e] at h
    have h' : p.2 = .globalImplicit := Option.some.inj h
    show some (relF X.env p).2 = _
    rcases relF_snd X.env p with z | z
    · rw [z, h']
    · rw [h'] at z; cases z.2
theorem rcompN {elt iter : Expr} {px : Pos} {scope : Scope} {ti : RTI} {tt : RTT} {te : RTE} {ifs : List Expr} (caps : List (Nat × Str)) {osc : Scope} {oN : List Str}
    (hc : X.calm = true) (hi : RPI X (.Name x px) iter ti)
    (hif : ∀ cl C s H fp, VisB (blk X scope cl C (x :: caps.map Prod.snd) s H fp) → RPTs (blk X scope cl C (x :: caps.map Prod.snd) s H fp) ifs tt)
    (hel : ∀ cl C s H fp, VisB (blk X scope cl C (x :: caps.map Prod.snd) s H fp) → RPE (blk X scope cl C (x :: caps.map Prod.snd) s H fp) elt te)
    (hX : X.env.scope = osc) (hN : X.N = oN)
    (hcaps : ∀ p ∈ caps, oN[p.1]? = some p.2 ∧ scope.names.lookup p.2 = some .free ∧ (osc.names.lookup p.2 = some .cell ∨ osc.names.lookup p.2 = some .free))
    (hfr : ∀ y ∈ scope.names, y.2 = .free → (osc.names.lookup y.1 = some .cell ∨ osc.names.lookup y.1 = some .free))
    (hcell : ∀ y ∈ scope.names, y.2 ≠ .cell) (hkind : scope.kind = .function) (hnames : ∀ y ∈ scope.names, y.2 = .local → scope.names.lookup y.1 = some .local) (hx : scope.names.lookup x = some .local) (hnd : (x :: caps.map Prod.snd).Nodup)
    (hdb : ∀ y ∈ x :: caps.map Prod.snd, (y == ("__debug__" : Str)) = false ∧ (y == ("__classdict__" : Str)) = false)
    (hs : ∀ v, foldedSetIterable iter X.env v = pure v := by intro _; rfl) :
    RPE X (.ListComp elt [⟨.Name x px, iter, ifs, 0⟩] scope pos) (rComp ti (caps.map Prod.fst) tt te) := by
  have vb : ∀ cl C s H fp, VisB (blk X scope cl C (x :: caps.map Prod.snd) s H fp) := fun cl C s H fp => ⟨fun y hy => by
    rcases List.mem_cons.mp hy with rfl | hy
    · exact .inl (lookup_relabel_local hx)
    · obtain ⟨p, hp, rfl⟩ := List.mem_map.mp hy
      exact .inr (relabel_free (hcaps p hp).2.1), hdb⟩
  exact rcomp caps hc hi (fun cl C s H fp => hif cl C s H fp (vb cl C s H fp)) (fun cl C s H fp => hel cl C s H fp (vb cl C s H fp)) hX hN hcaps hfr hcell hkind hnames hx hnd hs
end
end R
namespace R
open PySem PySem.Spec PyProof.Rows L2
section
variable {σ : RSt} {M : RM} {Q : RVK} {QT : Bool → RM → Prop} {QA : List RV → RM → Prop} {QO : Option Int → RM → Prop} {n b c : RSt → RM → Prop} {r : RVK} {ta tb tc : RTE} {tA tB : RTT} {t u : RTS} {tr : RTA} {rr rr' : RR2} {N : RSt → RM → Prop}
def kTest (Q : Bool → RM → Prop) : RVK := fun v M' => match v with | .bl k => Q k M' | _ => False
def kIf (A B : RM → Prop) : Bool → RM → Prop := fun c M1 => (c = true → A M1) ∧ (c = false → B M1)
def kPart (Q : Option Int → RM → Prop) : RVK := fun x M1 => match x with | .int i => Q (some i) M1 | _ => False
def kAt (Q : RVK) (M : RM) : Option RV → Prop := fun o => match o with | some v => Q v M | none => False
def kItS (Q : List RV → RM → Prop) : RVK := fun v M1 => match v with | .tup xs => Q xs M1 | .ls xs => Q xs M1 | _ => False
def kCh (rr' : RR2) (tc : RTE) (σ : RSt) (y : RV) (Q : RVK) : RVK := fun z M3 => match z with
  | .bl k => (k = true → tc σ M3 fun w M4 => rr' y w M4 Q) ∧ (k = false → Q (.bl false) M3)
  | _ => False
theorem do_var {i : Nat} {v : RV} (e : σ[i]? = some (some v)) (h : Q v M) : rVar i σ M Q := by unfold rVar; rw [e]; exact h
theorem do_c {v : RV} (h : Q v M) : rC v σ M Q := h
theorem do_op (h : ta σ M fun x M1 => tb σ M1 fun y M2 => rr x y M2 Q) : rOp rr ta tb σ M Q := h
theorem do_un {g : RV → RM → RVK → Prop} (h : ta σ M fun x M1 => g x M1 Q) : rUn g ta σ M Q := h
theorem do_chain (h : ta σ M fun x M1 => tb σ M1 fun y M2 => rr x y M2 (kCh rr' tc σ y Q)) : rChain rr rr' ta tb tc σ M Q := h
theorem do_test (h : ta σ M (kTest QT)) : rTest ta σ M QT := h
theorem do_ktest {k : Bool} (h : QT k M) : kTest QT (.bl k) M := h
theorem do_and (h : tA σ M (kIf (fun M1 => tB σ M1 QT) (fun M1 => QT false M1))) : rAnd tA tB σ M QT := h
theorem do_or (h : tA σ M (kIf (fun M1 => QT true M1) (fun M1 => tB σ M1 QT))) : rOr tA tB σ M QT := h
theorem do_not (h : tA σ M fun c M1 => QT (!c) M1) : rNot tA σ M QT := h
theorem do_if (h : tA σ M (kIf (fun M1 => ta σ M1 Q) (fun M1 => tb σ M1 Q))) : rIf tA ta tb σ M Q := h
theorem do_ifs {D : RD} (h : tA σ M (kIf (fun M1 => t D σ M1) (fun M1 => u D σ M1))) : rIfS tA t u D σ M := h
theorem do_kT {A B : RM → Prop} (h : A M) : kIf A B true M := ⟨fun _ => h, fun z => (by cases z)⟩
theorem do_kF {A B : RM → Prop} (h : B M) : kIf A B false M := ⟨fun z => (by cases z), fun _ => h⟩
theorem do_kT' {A B : RM → Prop} {x : Bool} (e : x = true) (h : A M) : kIf A B x M := by subst e; exact do_kT h
theorem do_kF' {A B : RM → Prop} {x : Bool} (e : x = false) (h : B M) : kIf A B x M := by subst e; exact do_kF h
theorem do_kB {A B : RM → Prop} {x : Bool} (h1 : x = true → A M) (h2 : x = false → B M) : kIf A B x M := ⟨h1, h2⟩
theorem do_norm {P : RSt → RM → Prop} {l : RSt} {i : Nat} {v : Option RV} {σ' : RSt} (e : l.set i v = σ') (h : P σ' M) : P (l.set i v) M := by subst e; exact h
theorem do_normU {P : RSt → RM → Prop} {l : RSt} {is : List Nat} {vs : List RV} {σ' : RSt} (e : setAll l is vs = σ') (h : P σ' M) : P (setAll l is vs) M := by subst e; exact h
theorem do_knT {A B : RM → Prop} (h : B M) : kIf A B (!true) M := do_kF h
theorem do_knF {A B : RM → Prop} (h : A M) : kIf A B (!false) M := do_kT h
theorem do_nil (h : QA [] M) : rNil σ M QA := h
theorem do_cons (h : ta σ M fun x M1 => tr σ M1 fun xs M2 => QA (x :: xs) M2) : rCons ta tr σ M QA := h
theorem do_tup (h : tr σ M fun rs M1 => rs.length ≤ sizeLine ∧ Q (.tup rs) M1) : rTup tr σ M Q := h
theorem do_lsf (h : tr σ M fun rs M1 => rs.length ≤ sizeLine ∧ Q (.ls rs) M1) : rLsF tr σ M Q := h
theorem do_lst (h : tr σ M fun rs M1 => rs.length ≤ sizeLine ∧ ∀ p, M1 p = none → Q (.ref p) (put M1 p (.lst rs))) : rLst tr σ M Q := h
theorem do_size {rs : List RV} {P : Prop} (e : Nat.ble rs.length 1000 = true) (h : P) : rs.length ≤ sizeLine ∧ P := ⟨Nat.le_trans (Nat.le_of_ble_eq_true e) (by decide), h⟩
theorem do_call {f : List RV → RM → RVK → Prop} (h : tr σ M fun rs M1 => f rs M1 Q) : rCall f tr σ M Q := h
theorem do_next : n σ M → rNext ⟨n, r, b, c⟩ σ M := fun h => h
theorem do_seq (h : t ⟨u ⟨n, r, b, c⟩, r, b, c⟩ σ M) : rSeq t u ⟨n, r, b, c⟩ σ M := h
theorem do_set {i : Nat} (h : ta σ M fun x M1 => n (σ.set i (some x)) M1) : rSet i ta ⟨n, r, b, c⟩ σ M := h
theorem do_ret (h : ta σ M r) : rRet ta ⟨n, r, b, c⟩ σ M := h
theorem do_drop (h : ta σ M fun _ M1 => n σ M1) : rDrop ta ⟨n, r, b, c⟩ σ M := h
theorem do_asg {g : RTG} (h : ta σ M fun x M1 => g x σ M1 n) : rAsg ta g ⟨n, r, b, c⟩ σ M := h
theorem do_gN {i : Nat} {x : RV} (h : N (σ.set i (some x)) M) : rgN i x σ M N := h
theorem do_gU {is : List Nat} {xs : List RV} (e : xs.length = is.length) (h : N (setAll σ is xs) M) : rgU is (.tup xs) σ M N := ⟨e, h⟩
theorem do_forI {ti : RTI} {g : RTG} (h : ti σ M fun xs M1 => rForL g t ⟨n, r, b, c⟩ xs σ M1) : rForI ti g t ⟨n, r, b, c⟩ σ M := h
theorem do_itS (h : ta σ M (kItS QA)) : rItS ta σ M QA := h
theorem do_kits_t {xs : List RV} (h : QA xs M) : kItS QA (.tup xs) M := h
theorem do_kits_l {xs : List RV} (h : QA xs M) : kItS QA (.ls xs) M := h
theorem do_itR (h : ta σ M fun v M1 => rRngI QA [v] M1) : rItR ta σ M QA := h
theorem do_rng {k : Int} (h0 : -(2 ^ 62) ≤ k) (h1 : k < 2 ^ 62) (h : QA (nums k.toNat) M) : rRngI QA [.int k] M := ⟨h0, h1, h⟩
theorem do_forNil {g : RTG} (h : n σ M) : rForL g t ⟨n, r, b, c⟩ [] σ M := h
theorem do_forCons {g : RTG} {x : RV} {xs : List RV} (h : g x σ M fun σ2 M2 => t ⟨rForL g t ⟨n, r, b, c⟩ xs, r, n, rForL g t ⟨n, r, b, c⟩ xs⟩ σ2 M2) : rForL g t ⟨n, r, b, c⟩ (x :: xs) σ M := h
theorem do_comp {ti : RTI} {cap : List Nat} (h : ti σ M fun xs M1 => xs.length < sizeLine ∧ rCompL tA ta (cap.map fun i => (σ[i]?).join) xs [] M1 Q) : rComp ti cap tA ta σ M Q := h
theorem do_compNil {base : List (Option RV)} {acc : List RV} (h : Q (.ls acc) M) : rCompL tA ta base [] acc M Q := h
theorem do_compYes {base : List (Option RV)} {acc : List RV} {x : RV} {xs : List RV} (h : ta (some x :: base) M fun v M2 => rCompL rYes ta base xs (acc ++ [v]) M2 Q) : rCompL rYes ta base (x :: xs) acc M Q := ⟨fun _ => h, fun z => (by cases z)⟩
theorem do_sl {tl th : RTO} (h : ta σ M fun x M1 => tl σ M1 fun l M2 => th σ M2 fun u M3 => rSlc x l u M3 Q) : rSl ta tl th σ M Q := h
theorem do_noP (h : QO none M) : rNoP σ M QO := h
theorem do_part (h : ta σ M (kPart QO)) : rPart ta σ M QO := h
theorem do_kpart {i : Int} (h : QO (some i) M) : kPart QO (.int i) M := h
theorem do_slT {xs : List RV} {lo hi : Option Int} (h : Q (.tup (cutR xs lo hi)) M) : rSlc (.tup xs) lo hi M Q := h
theorem do_slL {xs : List RV} {lo hi : Option Int} (h : Q (.ls (cutR xs lo hi)) M) : rSlc (.ls xs) lo hi M Q := h
theorem do_int0 {g : Int → Int → RV} {i j : Int} (h : Q (g i j) M) : rInt0 g (.int i) (.int j) M Q := h
theorem do_int2 {C : Int → Int → Prop} {g : Int → Int → RV} {i j : Int} (e : C i j) (h : Q (g i j) M) : rInt2 C g (.int i) (.int j) M Q := ⟨e, h⟩
theorem do_addI {i j : Int} (h : Q (.int (i + j)) M) : R.rAdd (.int i) (.int j) M Q := h
theorem do_addT {xs ys : List RV} (e : Nat.ble (xs.length + ys.length) 1000 = true) (h : Q (.tup (xs ++ ys)) M) : R.rAdd (.tup xs) (.tup ys) M Q := ⟨Nat.le_trans (Nat.le_of_ble_eq_true e) (by decide), h⟩
theorem do_addL {xs ys : List RV} (e : Nat.ble (xs.length + ys.length) 1000 = true) (h : Q (.ls (xs ++ ys)) M) : R.rAdd (.ls xs) (.ls ys) M Q := ⟨Nat.le_trans (Nat.le_of_ble_eq_true e) (by decide), h⟩
theorem do_eq {x y : RV} (e1 : okR 16 x = true) (e2 : okR 16 y = true) (h : Q (.bl (eqR x y)) M) : rEqq x y M Q := ⟨e1, e2, h⟩
theorem do_ne {x y : RV} (e1 : okR 16 x = true) (e2 : okR 16 y = true) (h : Q (.bl (!eqR x y)) M) : rNeq x y M Q := ⟨e1, e2, h⟩
theorem do_is {x : RV} (h : Q (.bl (isN x)) M) : rIs x .non M Q := h
theorem do_isnot {x : RV} (h : Q (.bl (!isN x)) M) : rIsNot x .non M Q := h
theorem do_ixT {xs : List RV} {i : Int} (h : kAt Q M (atI xs i)) : R.rIx (.tup xs) (.int i) M Q := h
theorem do_ixL {xs : List RV} {i : Int} (h : kAt Q M (atI xs i)) : R.rIx (.ls xs) (.int i) M Q := h
theorem do_kat {o : Option RV} {v : RV} (e : o = some v) (h : Q v M) : kAt Q M o := by subst e; exact h
theorem do_len_t {xs : List RV} (h : Q (.int xs.length) M) : rLen [.tup xs] M Q := h
theorem do_tuple_l {xs : List RV} (h : Q (.tup xs) M) : rTuple [.ls xs] M Q := h
theorem do_isi {T : String} {test : RV → Option Bool} {x : RV} {b : Bool} (e : test x = some b) (h : Q (.bl b) M) : rIsi T test [x, .ty T] M Q := by
  refine ⟨rfl, ?_⟩; rw [e]; exact h
def kTab (kvs : List (Key × RV)) (Q : RVK) : RVK := fun k M1 => match keyR k with
  | some key => (match lookK kvs key with | some v => Q v M1 | none => False)
  | none => False
theorem do_tab {kvs : List (Key × RV)} (h : ta σ M (kTab kvs Q)) : rTab kvs ta σ M Q := h
theorem do_ktab {kvs : List (Key × RV)} {k v : RV} {key : Key} (e1 : keyR k = some key) (e2 : lookK kvs key = some v) (h : Q v M) : kTab kvs Q k M := by
  unfold kTab; rw [e1]; dsimp only; rw [e2]; exact h
end
end R
namespace R
open PySem PySem.Spec PyProof.Rows L2
theorem any_den {h : Heap} {e : Value → Bool} {p : RV → Bool} : ∀ {xs : List RV} {us : List Value}, Dens h xs us → (∀ x ∈ xs, ∀ u, Den h x u → e u = p x) → us.any e = xs.any p
  | [], us, d, _ => by simp only [Dens] at d; subst d; rfl
  | x :: xs, us, d, k => by
    simp only [Dens] at d
    obtain ⟨u, r, rfl, d1, d2⟩ := d
    rw [List.any_cons, List.any_cons, k x List.mem_cons_self u d1, any_den d2 fun y hy => k y (List.mem_cons_of_mem _ hy)]
theorem mem_den {h : Heap} : ∀ {xs : List RV} {us : List Value}, Dens h xs us → ∀ u ∈ us, ∃ x ∈ xs, Den h x u
  | [], us, d, u, hu => by simp only [Dens] at d; subst d; cases hu
  | x :: xs, us, d, u, hu => by
    simp only [Dens] at d
    obtain ⟨w, r, rfl, d1, d2⟩ := d
    rcases List.mem_cons.mp hu with rfl | hu
    · exact ⟨x, List.mem_cons_self, d1⟩
    · obtain ⟨y, hy, dy⟩ := mem_den d2 u hu
      exact ⟨y, List.mem_cons_of_mem _ hy, dy⟩
open Classical in
noncomputable def eqD (h : Heap) (a : RV) (w : Value) : Bool := if q : ∃ r, okR 15 r = true ∧ Den h r w then eqR (choose q) a else false
theorem eqD_of {h : Heap} {a x : RV} {u : Value} (o : okR 15 x = true) (d : Den h x u) : eqD h a u = eqR x a := by
  have q : ∃ r, okR 15 r = true ∧ Den h r u := ⟨x, o, d⟩
  unfold eqD
  rw [dif_pos q]
  have e := den_inj 15 _ x u (Classical.choose_spec q).1 o (Classical.choose_spec q).2 d
  rw [e]
def inR (x : RV) (xs : List RV) : Bool := xs.any fun y => eqR y x
def rIn2 (neg : Bool) : RR2 := fun x y M Q => match y with
  | .tup xs => okR 15 x = true ∧ xs.all (okR 15) = true ∧ Q (.bl (if neg then !inR x xs else inR x xs)) M
  | .ls xs => okR 15 x = true ∧ xs.all (okR 15) = true ∧ Q (.bl (if neg then !inR x xs else inR x xs)) M
  | _ => False
section
variable {X : Cx}
theorem den_items {s : Shared} {A : Around} {xs : List RV} {its : List Value} {a : RV} {v : Value} (hu : A.units + 15 < cLine) (os : xs.all (okR 15) = true) (oa : okR 15 a = true) (d : Dens s.heap xs its) (da : Den s.heap a v) :
    (∀ w, w ∈ its.toArray → SeqAt.EqAt A s w v (eqD s.heap a w)) ∧ its.toArray.any (eqD s.heap a) = inR a xs := by
  have os' : ∀ x ∈ xs, okR 15 x = true := by simpa [List.all_eq_true] using os
  refine ⟨fun w hw => ?_, ?_⟩
  · obtain ⟨x, hx, dx⟩ := mem_den d w (by simpa using hw)
    rw [eqD_of (os' x hx) dx]
    exact eqAt_den 15 x a A s w v (os' x hx) oa dx da hu
  · rw [show its.toArray.any (eqD s.heap a) = its.any (eqD s.heap a) by simp]
    exact any_den d fun x hx u du => eqD_of (os' x hx) du
theorem ok_up {xs : List RV} (os : xs.all (okR 15) = true) : okR 16 (.tup xs) = true ∧ okR 16 (.ls xs) = true := ⟨os, os⟩
theorem oin (hu : X.A.units + 64 < cLine) : ROp X (compareOp .In) (rIn2 false) := by
  intro pins s σ H x y v u Q0 I rx ry h
  obtain ⟨a, b, M, Q, ra, rb, hv, hq, hk⟩ := h
  cases b with
  | tup xs =>
    obtain ⟨oa, os, hq⟩ := hq
    have d := den_of I 16 (.tup xs) y u (ok_up os).1 rb ry
    simp only [Den] at d
    obtain ⟨p, its, rfl, ht, ds⟩ := d
    have z := den_items (A := X.A.in1) (by rw [in1_units]; omega) os oa ds (den_of I 15 a x v oa ra rx)
    refine SeqAt.in_tupleAt _ ht z.1 ⟨.bl (inR a xs), H, I, by rw [z.2]; rfl, hk _ M _ H hq (.refl H) hv (by simp only [Rep]; rfl)⟩
  | ls xs =>
    obtain ⟨oa, os, hq⟩ := hq
    have d := den_of I 16 (.ls xs) y u (ok_up os).2 rb ry
    simp only [Den] at d
    obtain ⟨p, its, rfl, ht, ds⟩ := d
    have z := den_items (A := X.A.in1) (by rw [in1_units]; omega) os oa ds (den_of I 15 a x v oa ra rx)
    refine SeqAt.in_listAt _ ht z.1 ⟨.bl (inR a xs), H, I, by rw [z.2]; rfl, hk _ M _ H hq (.refl H) hv (by simp only [Rep]; rfl)⟩
  | _ => exact (show False from hq).elim
theorem onotin (hu : X.A.units + 64 < cLine) : ROp X (compareOp .NotIn) (rIn2 true) := by
  intro pins s σ H x y v u Q0 I rx ry h
  obtain ⟨a, b, M, Q, ra, rb, hv, hq, hk⟩ := h
  cases b with
  | tup xs =>
    obtain ⟨oa, os, hq⟩ := hq
    have d := den_of I 16 (.tup xs) y u (ok_up os).1 rb ry
    simp only [Den] at d
    obtain ⟨p, its, rfl, ht, ds⟩ := d
    have z := den_items (A := X.A.in1) (by rw [in1_units]; omega) os oa ds (den_of I 15 a x v oa ra rx)
    refine SeqAt.notIn_tupleAt _ ht z.1 ⟨.bl (!inR a xs), H, I, by rw [z.2]; rfl, hk _ M _ H hq (.refl H) hv (by simp only [Rep]; rfl)⟩
  | ls xs =>
    obtain ⟨oa, os, hq⟩ := hq
    have d := den_of I 16 (.ls xs) y u (ok_up os).2 rb ry
    simp only [Den] at d
    obtain ⟨p, its, rfl, ht, ds⟩ := d
    have z := den_items (A := X.A.in1) (by rw [in1_units]; omega) os oa ds (den_of I 15 a x v oa ra rx)
    refine SeqAt.notIn_listAt _ ht z.1 ⟨.bl (!inR a xs), H, I, by rw [z.2]; rfl, hk _ M _ H hq (.refl H) hv (by simp only [Rep]; rfl)⟩
  | _ => exact (show False from hq).elim
def rOrd : List RV → RM → RVK → Prop := fun rs M Q => match rs with
  | [.str x] => x.length = 1 ∧ Q (.int (x.cps.getD 0 0 : Nat)) M
  | _ => False
theorem cord : CallR X (.builtin "ord") (upC X.K rOrd) := by
  intro pins s σ H xs us Q0 I rl h
  obtain ⟨rs, M, Q, rr, hv, hq, hk⟩ := h
  match rs, hq with
  | [.str x], hq =>
    obtain ⟨hl, hq⟩ := hq
    simp only [Reps, Rep] at rr
    obtain ⟨v, r, rfl, rfl, rfl⟩ := rr
    exact call_ord pins s σ H _ us Q0 I rl ⟨x, rfl, hl, hk _ M _ H hq (.refl H) hv (by simp only [Rep])⟩
end
end R
namespace R
open PySem PySem.Spec PyProof.Rows L2
section
variable {X : Cx}
def rAll : List RV → RM → RVK → Prop := fun rs M Q => ∃ bs : List Bool, rs = [.ls (bs.map RV.bl)] ∧ Q (.bl (bs.all id)) M
theorem reps_bl {K : PySem.W.Frag} {H : Hp} : ∀ {bs : List Bool} {vs : List V}, Reps K H (bs.map RV.bl) vs → vs = bs.map V.bl
  | [], vs, h => by simpa only [List.map_nil, Reps] using h
  | b :: bs, vs, h => by
    simp only [List.map_cons, Reps, Rep] at h
    obtain ⟨v, r, rfl, rfl, h2⟩ := h
    rw [reps_bl h2]; rfl
theorem vals_bl : ∀ {bs : List Bool} {us : List Value}, Vals (bs.map V.bl) us → us = bs.map Value.bool
  | [], us, h => by cases h; rfl
  | b :: bs, us, h => by
    obtain ⟨u, r, rfl, h1, h2⟩ := Vals.cons_inv h
    cases h1
    rw [vals_bl h2]; rfl
theorem range_all (bs : List Bool) : (List.range bs.length).all (fun i => bs.getD i true) = bs.all id := by
  induction bs with
  | nil => rfl
  | cons b bs ih =>
    rw [List.length_cons, List.range_succ_eq_map, List.all_cons, List.all_map, List.all_cons]
    have : ((fun i => (b :: bs).getD i true) ∘ Nat.succ) = fun i => bs.getD i true := by funext i; rfl
    rw [this, ih]; rfl
theorem call_all (hc : X.calm = true) : CallR X (.builtin "all") (upC X.K rAll) := by
  intro pins s σ H xs us Q0 I rl h
  obtain ⟨rs, M, Q, rr, hv, ⟨bs, rfl, hq⟩, hk⟩ := h
  obtain ⟨v, rfl, r1⟩ := rr.one
  simp only [Rep] at r1
  obtain ⟨a, vs, rfl, h1, h2⟩ := r1
  have := reps_bl h2
  subst this
  obtain ⟨u, rfl, ru⟩ := rl.one
  cases ru
  obtain ⟨its, rv, p, hz⟩ := I.list h1.sq
  have := vals_bl rv
  subst this
  have hlt : a < s.heap.objs.size := by obtain ⟨o, n, e, _⟩ := p; exact Heap.lt_size e
  refine call_all_walk (wpAny_pyIter_list p.isList ?_)
  have hd : X.A.in1.handled = none := I.ok.hd hc
  refine ⟨s.heap.objs.size, _, _, _, _, _, fun i => bs.getD i true, rfl, Walks.list hd s.heap.objs.size a (Nat.ne_of_lt hlt) (bs.map Value.bool).toArray, ⟨⟨_, Heap.get?_push_size _ rfl, rfl, rfl⟩, p.isList.push _⟩, ?_, ?_⟩
  · intro i v s' Q' E' hP hQ'
    have hP' : (bs.map Value.bool)[i]? = some v := by simpa using hP
    rw [List.getElem?_map] at hP'
    cases e : bs[i]? with
    | none => rw [e] at hP'; cases hP'
    | some b =>
      rw [e] at hP'
      have hb : bs.getD i true = b := by rw [List.getD_eq_getElem?_getD, e]; rfl
      cases hP'
      have hQ2 : Q' (bs.getD i true) s' := hQ'
      rw [hb] at hQ2
      exact wpAny_truthy_bool hQ2
  · intro h' tk hk'
    have I1 : Inv X pins σ H { s with heap := s.heap.push { cls := .type "list_iterator", data := .fields #[.ref a, .int 0 0] } } := I.kept (t' := s.toks) fun b o e => Heap.get?_push_of_some _ e
    obtain ⟨f0, f1, f2, f3, f4, f5⟩ := I.fpOk (Nat.le_refl _) (I.hok.fresh (Nat.le_refl _))
    have I2 : Inv X pins σ H { s with heap := h', toks := tk } := by
      have z := I1.turned (h' := h') (t' := tk) (it := s.heap.objs.size) (fun b o hb e => hk' b o (by simpa using hb) e) f0 f1 f3 f4 f5
      exact z
    refine ⟨.bl (bs.all id), H, I2, ?_, hk _ M _ H hq (.refl H) hv (by simp only [Rep])⟩
    show _ = _
    rw [← range_all]
    simp
def Its (x : Str) : It := ⟨fun i _ => i < x.cps.size, fun i H v H' => H' = H ∧ ∃ c, x.cps[i]? = some c ∧ v = .str ⟨#[c]⟩, fun i _ => x.cps.size ≤ i⟩
def signsR (x : Str) : List RV := x.cps.toList.map fun c => .str ⟨#[c]⟩
theorem turn_str {P : Program} {w : World} {K : PySem.W.Frag} {tg : Expr} (it : Addr) (n : String) (x : Str) (t : Tok)
    (hn : ["enumerate", "zip", "dict_itemiterator", "dict_reverseitemiterator", "odict_iterator", "itertools.zip_longest", "itertools.pairwise"].contains n = false)
    (W : ∀ A : Around, A.handled = none → Walks P w A it [it] [it] x.cps.size (SignAt x) (fun i h => h.IsStrIter it n x t i))
    (hend : ∀ (A : Around) (i : Nat) (s : Shared) (Q : Option Value → Shared → Prop) (E : Value → Shared → Prop), A.handled = none → s.heap.IsStrIter it n x t i → x.cps.size ≤ i → (∀ h', (∀ b o, b ≠ it → s.heap.get? b = some o → h'.get? b = some o) → Q none { s with heap := h' }) → wpAny (model P w) A (pyNext (.ref it)) Q E s)
    (hself : ∀ (A : Around) (i : Nat) (s : Shared) (Q : Value → Shared → Prop) (E : Value → Shared → Prop), s.heap.IsStrIter it n x t i → Q (.ref it) s → wpAny (model P w) A (pyIter (.ref it)) Q E s) :
    Turn P w K tg (Its x) [it] it (fun i h => h.IsStrIter it n x t i) where
  mem := by simp
  obj := fun i h st b hb => by
    have e : b = it := by simpa using hb
    subst e
    obtain ⟨o, e, c, d⟩ := st
    exact ⟨o, e, fun v z => by rw [d] at z; cases z⟩
  keep := fun i h h' st k => by
    obtain ⟨o, e, r⟩ := st
    exact ⟨o, k it (by simp) o e, r⟩
  item := by
    intro X hP hw hK hc i pins s σ H E I hf st hg
    subst hP hw hK
    obtain ⟨f0, f1, f2, f3, f4, f5⟩ := hf it (by simp)
    refine (W X.A (I.ok.hd hc)).item i s _ _ hg st fun v h' tk hv st' kk => ?_
    obtain ⟨c, u, hcu, rfl⟩ := hv
    have I1 : Inv X pins σ H { s with heap := h', toks := tk } := I.turned (fun b o hb e => kk b o (by simpa using hb) e) f0 f1 f3 f4 f5
    obtain ⟨o, e, hcl, hd⟩ := id st'
    exact ⟨_, rfl, go_of (s := { s with heap := h', toks := tk }) (n := n) e hcl hd hn ⟨.str ⟨#[c]⟩, H, I1, ⟨u, rfl⟩, ⟨rfl, c, hcu, rfl⟩, st', fun b hb => (hf b hb).1⟩⟩
  done := by
    intro X hP hw hK hc i pins s σ H E I hf st hg
    subst hP hw hK
    obtain ⟨f0, f1, f2, f3, f4, f5⟩ := hf it (by simp)
    exact hend X.A i s _ _ (I.ok.hd hc) st hg fun h' eb => ⟨rfl, I.turned (t' := s.toks) (fun b o hb e => eb b o hb e) f0 f1 f3 f4 f5⟩
  self := hself
theorem its_of {K : PySem.W.Frag} {H1 : Hp} (x : Str) : ItOf K (Its x) (signsR x) H1 where
  turn := fun i H e r hr => by
    have hi : i < x.cps.size := by have := (List.getElem?_eq_some_iff.mp hr).1; simpa [signsR] using this
    refine ⟨hi, fun v' H' y => ?_⟩
    obtain ⟨rfl, c, hcx, rfl⟩ := y
    refine ⟨.refl _, fun _ w => w, ?_⟩
    have : r = .str ⟨#[c]⟩ := by
      have h2 : x.cps.toList[i]? = some c := by simpa using hcx
      simp only [signsR, List.getElem?_map, h2, Option.map_some, Option.some.injEq] at hr
      exact hr.symm
    subst this
    simp only [Rep]
  stop := fun i H e hi => by
    have : (signsR x).length = x.cps.size := by simp [signsR]
    rw [this] at hi; exact hi
def rItX (te : RTE) : RTI := fun σ M Q => te σ M fun v M1 => match v with | .str x => Q (signsR x) M1 | _ => False
theorem istr {tg : Expr} {l : Expr} {te : RTE} (hl : RPE X l te) : RPI X tg l (rItX te) := by
  intro pins s σ0 H R I h
  obtain ⟨σ, M, Q, hs, hv, ht, hk⟩ := h
  refine thn (hl pins s σ0 H (fun v H1 => ∃ x M1, v = .str x ∧ Q (signsR x) M1 ∧ Ext H H1 ∧ View X.K H1 M1) I ⟨σ, M, _, hs, hv, ht, fun rv M1 v H1 q e1 v1 r1 => ?_⟩) fun v s1 ⟨xv, H1, I1, r1, q1⟩ => ?_
  · cases rv with
    | str x => simp only [Rep] at r1; exact ⟨x, M1, r1, q, e1, v1⟩
    | _ => exact (show False from q).elim
  · obtain ⟨x, M1, rfl, q, e1, v1⟩ := q1
    obtain ⟨t, rfl⟩ := r1
    have hf : ∀ b ∈ [s1.heap.objs.size], FpOk X pins H1 b := fun b hb => by
      have e : b = s1.heap.objs.size := by simpa using hb
      subst e
      exact I1.fpOk (Nat.le_refl _) (I1.hok.fresh (Nat.le_refl _))
    cases ha : x.cps.all (· < 128)
    · refine wpAny_pyIter_wide ha ?_
      exact ⟨s1.heap.objs.size, [s1.heap.objs.size], _, Its x, H1, rfl, I1.kept (t' := s1.toks) fun b o e => Heap.get?_push_of_some _ e, turn_str _ "str_iterator" x t (by decide) (fun A hA => Walks.strWide hA _ x t) (fun A i s Q E hA st hi hq => wpAny_pyNext_wide_end hA st (by simp; exact hi) hq) (fun A i s Q E st hq => wpAny_pyIter_striter_wide st hq), ⟨_, Heap.get?_push_size _ rfl, rfl, rfl⟩, hf, hk _ M1 _ H1 q e1 v1 (its_of x)⟩
    · refine wpAny_pyIter_ascii ha ?_
      exact ⟨s1.heap.objs.size, [s1.heap.objs.size], _, Its x, H1, rfl, I1.kept (t' := s1.toks) fun b o e => Heap.get?_push_of_some _ e, turn_str _ "str_ascii_iterator" x t (by decide) (fun A hA => Walks.strAscii hA _ x t) (fun A i s Q E hA st hi hq => wpAny_pyNext_ascii_end hA st (by simp; exact hi) hq) (fun A i s Q E st hq => wpAny_pyIter_striter_ascii st hq), ⟨_, Heap.get?_push_size _ rfl, rfl, rfl⟩, hf, hk _ M1 _ H1 q e1 v1 (its_of x)⟩
end
end R
namespace R
open PySem PySem.Spec PyProof.Rows L2
section
variable {X : Cx}
theorem reps_str {K : PySem.W.Frag} {H : Hp} : ∀ {ys : List Str} {vs : List V}, Reps K H (ys.map RV.str) vs → vs = ys.map V.str
  | [], vs, h => by simpa only [List.map_nil, Reps] using h
  | b :: bs, vs, h => by
    simp only [List.map_cons, Reps, Rep] at h
    obtain ⟨v, r, rfl, rfl, h2⟩ := h
    rw [reps_str h2]; rfl
theorem vals_str : ∀ {ys : List Str} {us : List Value}, Vals (ys.map V.str) us → StrsAre us ys
  | [], us, h => by cases h; exact .nil
  | b :: bs, us, h => by
    obtain ⟨u, r, rfl, h1, h2⟩ := Vals.cons_inv h
    obtain ⟨t, rfl⟩ := h1
    exact .cons _ _ (vals_str h2)
def mJoin (K : PySem.W.Frag) : V → List V → Hp → VK → Prop := fun x vs H Q => ∃ z p ys, x = .str z ∧ vs = [.ref p] ∧ SqL K H p (ys.map V.str) ∧ (ys.map (·.length)).sum + ys.length * z.length ≤ 16777216 ∧ Q (.str (Txt.join z ys)) H
theorem mt_join : MtR X "str.join" (mJoin X.K) := by
  intro pins s σ H x vs v us Q I rx rv h
  obtain ⟨z, p, ys, rfl, rfl, hp, hb, q⟩ := h
  obtain ⟨t, rfl⟩ := rx
  obtain ⟨u, rfl, ru⟩ := rv.one
  cases ru
  obtain ⟨its, r, pl, hz⟩ := I.list hp
  exact join_list pl.isList (by simpa using vals_str r) hb fun t' k => ⟨.str _, H, I.tok _, ⟨_, rfl⟩, q⟩
def rJoin (to : RTE) (t : RTA) : RTE := fun σ M Q => to σ M fun x M1 => match x with
  | .str z => t σ M1 fun rs M2 => ∃ ys : List Str, rs = [.ls (ys.map RV.str)] ∧ (ys.map (·.length)).sum + ys.length * z.length ≤ 16777216 ∧ Q (.str (Txt.join z ys)) M2
  | _ => False
theorem rjoin {o e : Expr} {to : RTE} {t : RTA} {apos cpos : Pos} (ho : RPE X o to) (ha : RPA X [e] t)
    (hbase : attributeBase o "join" X.env (eval o X.env) = eval o X.env := by rfl)
    (hfew : ((backTo cpos (starEach [e] X.env)).all (fun x => !x.1) && (backToKw cpos (keywordEach [] X.env)).all (fun x => x.1.isSome) && decide ([e].length + ([] : List Keyword).length + (if ([] : List Keyword).isEmpty then 0 else 1) < 30)) = true := by rfl)
    (hline : (apos.endLine == cpos.line) = true := by rfl) (hs : starEach [e] X.env = (false, eval e X.env) :: starEach [] X.env := by rfl) (hplain : (backTo cpos (starEach [] X.env)).any (·.1) = false := by rfl) :
    RPE X (.Call (.Attribute o "join" apos) [e] [] cpos) (rJoin to t) := PE.imp (pe_bm PySem.F.plainAttrs_str PySem.F.slot_str_join PySem.F.type_str_join mt_join ho ha hbase hfew hline hs hplain) fun σ0 H Q0 h => by
  obtain ⟨σ, M, Q, hs, hv, ht, hk⟩ := h
  refine ⟨σ, M, _, hs, hv, ht, fun rx M1 x H1 q e1 v1 r1 => ?_⟩
  cases rx with
  | str z =>
    simp only [Rep] at r1
    subst r1
    refine ⟨rfl, σ, M1, _, hs.ext e1, v1, q, fun rs M2 vs H2 q2 e2 v2 r2 => ?_⟩
    obtain ⟨ys, rfl, hb, q2⟩ := q2
    obtain ⟨v, rfl, r3⟩ := r2.one
    simp only [Rep] at r3
    obtain ⟨p, ws, rfl, h1, h2⟩ := r3
    have := reps_str h2
    subst this
    exact ⟨z, p, ys, rfl, rfl, h1.sq, hb, hk _ M2 _ H2 q2 (e1.trans e2) v2 (by simp only [Rep])⟩
  | _ => exact (show False from q).elim
def rApp (to : RTE) (t : RTA) : RTE := fun σ M Q => to σ M fun x M1 => match x with
  | .ref p => (∃ ys, M1 p = some (.lst ys)) ∧ t σ M1 fun rs M2 => ∃ ys y, rs = [y] ∧ M2 p = some (.lst ys) ∧ ys.length < sizeLine ∧ Q .non (put M2 p (.lst (ys ++ [y])))
  | _ => False
theorem rappend {o e : Expr} {to : RTE} {t : RTA} {apos cpos : Pos} (ho : RPE X o to) (ha : RPA X [e] t)
    (hbase : attributeBase o "append" X.env (eval o X.env) = eval o X.env := by rfl)
    (hfew : ((backTo cpos (starEach [e] X.env)).all (fun x => !x.1) && (backToKw cpos (keywordEach [] X.env)).all (fun x => x.1.isSome) && decide ([e].length + ([] : List Keyword).length + (if ([] : List Keyword).isEmpty then 0 else 1) < 30)) = true := by rfl)
    (hline : (apos.endLine == cpos.line) = true := by rfl) (hs : starEach [e] X.env = (false, eval e X.env) :: starEach [] X.env := by rfl) (hplain : (backTo cpos (starEach [] X.env)).any (·.1) = false := by rfl) :
    RPE X (.Call (.Attribute o "append" apos) [e] [] cpos) (rApp to t) := PE.imp (pe_bm PySem.F.plainAttrs_list PySem.F.slot_list_append PySem.F.type_list_append mt_append ho ha hbase hfew hline hs hplain) fun σ0 H Q0 h => by
  obtain ⟨σ, M, Q, hs, hv, ht, hk⟩ := h
  refine ⟨σ, M, _, hs, hv, ht, fun rx M1 x H1 q e1 v1 r1 => ?_⟩
  cases rx with
  | ref p =>
    obtain ⟨⟨ys, hm⟩, q⟩ := q
    simp only [Rep] at r1
    subst r1
    obtain ⟨ho', e0, r0⟩ := v1 p _ hm
    obtain ⟨vs0, rfl, rr0⟩ := r0
    refine ⟨.inl ⟨rfl, _, SqL.of e0⟩, σ, M1, _, hs.ext e1, v1, q, fun rs M2 vs H2 q2 e2 v2 r2 => ?_⟩
    obtain ⟨ys2, y, rfl, hm2, hz, q2⟩ := q2
    obtain ⟨v, rfl, r3⟩ := r2.one
    obtain ⟨ho2, e3, r4⟩ := v2 p _ hm2
    obtain ⟨vs2, rfl, rr2⟩ := r4
    have ex : Ext H2 (upd H2 p (.lst (vs2 ++ [v]))) := Ext.write e3 rfl
    refine ⟨p, vs2, v, rfl, rfl, e3, by rw [← rr2.length]; exact hz, hk _ _ _ _ q2 ((e1.trans e2).trans ex) (v2.write hm2 ⟨_, rfl, ?_⟩) (by simp only [Rep])⟩
    exact (Reps.ext ex _ _ rr2).append (Reps.cons (Rep.ext ex _ _ r3) Reps.nil)
  | _ => exact (show False from q).elim
def rCallV (fs : List (Addr × RSp)) (tx : RTE) (t : RTA) : RTE := fun σ M Q => tx σ M fun v M1 => match v with
  | .ref f => ∃ sp, (f, sp) ∈ fs ∧ t σ M1 fun rs M2 => sp rs M2 Q
  | _ => False
theorem rcallV {x : Str} {p pos : Pos} {e : Expr} {es : List Expr} {t : RTA} {tx : RTE} (fs : List (Addr × RSp))
    (hF : ∀ q ∈ fs, ∃ fd ps k, Room k X.A ∧ PySem.W.keepIn X.K (.ref q.1) = true ∧ Binds X.K fd ps [] ∧ FnOk X.prog X.w X.K X.mg X.base CX0 k q.1 fd ps (upSp X.K q.2)) (hx : RPE X (.Name x p) tx) (ha : RPA X (e :: es) t)
    (he : starEach (e :: es) X.env = (false, eval e X.env) :: starEach es X.env := by rfl) (hpl : (backTo pos (starEach es X.env)).any (·.1) = false := by rfl) : RPE X (.Call (.Name x p) (e :: es) [] pos) (rCallV fs tx t) := by
  intro pins s σ0 H Q0 I h
  obtain ⟨σ, M, Q, hs, hv, ht, hk⟩ := h
  refine wpAny_Call_Name_kw (thn (hx pins s σ0 H (fun v H1 => ∃ f sp M1, v = .ref f ∧ (f, sp) ∈ fs ∧ Ext H H1 ∧ View X.K H1 M1 ∧ t σ M1 fun rs M2 => sp rs M2 Q) I ⟨σ, M, _, hs, hv, ht, fun rv M1 v H1 q e1 v1 r1 => ?_⟩) fun v s1 ⟨y, H1, I1, r1, q1⟩ => ?_)
  · cases rv with
    | ref f => simp only [Rep] at r1; obtain ⟨sp, hm, q⟩ := q; exact ⟨f, sp, M1, r1, hm, e1, v1, q⟩
    | _ => exact (show False from q).elim
  · obtain ⟨f, sp, M1, rfl, hm, e1, v1, q⟩ := q1
    cases r1
    obtain ⟨fd, ps, k, hr, hkp, hb, F⟩ := hF _ hm
    refine PySem.W.callWith_K (h₀ := X.base) I1.ok.mod.kin hkp (thn (ha pos pins s1 σ0 H1 (fun vs H2 => upSp X.K sp (vs ++ []) H2 Q0 (fun _ _ _ => False)) I1 ⟨σ, M1, _, hs.ext e1, v1, q, fun rs M2 vs H2 q2 e2 v2 r2 => ?_⟩) fun us s2 ⟨vs, H2, I2, r, q⟩ => ⟨I2.kIn, ?_⟩) he hpl
    · exact ⟨rs, M2, Q, by rw [List.append_nil]; exact r2, v2, q2, hk.ext (e1.trans e2)⟩
    · exact run_fn F hr hb .nil pass0 I2 r q
end
theorem RFn.at {P : Program} {w : World} {K : PySem.W.Frag} {mg : Str → Option Value} {base : Heap} {k : Nat} {x : Str} {ps : List Str} {sp : RSp} {f : Addr} (F : RFn P w K mg base k x ps sp) (hm : mg x = some (.ref f)) :
    ∃ fd, PySem.W.keepIn K (.ref f) = true ∧ Binds K fd ps [] ∧ FnOk P w K mg base CX0 k f fd ps (upSp K sp) := by
  obtain ⟨g, fd, hg, h1, h2, h3⟩ := F.ex
  have e := hm.symm.trans hg
  cases e
  exact ⟨fd, h1, h2, h3⟩
end R
namespace R
open PySem PySem.Spec PyProof.Rows L2
section
variable {σ : RSt} {M : RM} {Q : RVK} {QA : List RV → RM → Prop} {ta tb : RTE} {tr : RTA}
def kAndV (tb : RTE) (σ : RSt) (Q : RVK) : RVK := fun x M1 => match x with | .bl c => (c = true → tb σ M1 Q) ∧ (c = false → Q (.bl false) M1) | _ => False
def kNotV (Q : RVK) : RVK := fun x M1 => match x with | .bl c => Q (.bl (!c)) M1 | _ => False
theorem do_andv (h : ta σ M (kAndV tb σ Q)) : rAndV ta tb σ M Q := h
theorem do_notv (h : ta σ M (kNotV Q)) : rNotV ta σ M Q := h
theorem do_knotv {c : Bool} (h : Q (.bl (!c)) M) : kNotV Q (.bl c) M := h
theorem do_kand {c : Bool} (h1 : c = true → tb σ M Q) (h2 : c = false → Q (.bl false) M) : kAndV tb σ Q (.bl c) M := ⟨h1, h2⟩
theorem do_kandT (h : tb σ M Q) : kAndV tb σ Q (.bl true) M := ⟨fun _ => h, fun z => (by cases z)⟩
theorem do_kandF (h : Q (.bl false) M) : kAndV tb σ Q (.bl false) M := ⟨fun z => (by cases z), fun _ => h⟩
theorem do_kch {rr' : RR2} {tc : RTE} {y : RV} {k : Bool} (h1 : k = true → tc σ M fun w M4 => rr' y w M4 Q) (h2 : k = false → Q (.bl false) M) : kCh rr' tc σ y Q (.bl k) M := ⟨h1, h2⟩
theorem do_inT {x : RV} {xs : List RV} (e1 : okR 15 x = true) (e2 : xs.all (okR 15) = true) (h : Q (.bl (inR x xs)) M) : rIn2 false x (.tup xs) M Q := ⟨e1, e2, h⟩
theorem do_ninT {x : RV} {xs : List RV} (e1 : okR 15 x = true) (e2 : xs.all (okR 15) = true) (h : Q (.bl (!inR x xs)) M) : rIn2 true x (.tup xs) M Q := ⟨e1, e2, h⟩
theorem do_ord {c : Nat} (h : Q (.int (c : Int)) M) : rOrd [.str ⟨#[c]⟩] M Q := ⟨rfl, h⟩
theorem do_all (bs : List Bool) (h : Q (.bl (bs.all id)) M) : rAll [.ls (bs.map RV.bl)] M Q := ⟨bs, rfl, h⟩
theorem do_len_s {z : Str} (e : z.length ≤ sizeLine) (h : Q (.int z.length) M) : rLen [.str z] M Q := ⟨e, h⟩
def kItX (Q : List RV → RM → Prop) : RVK := fun v M1 => match v with | .str x => Q (signsR x) M1 | _ => False
theorem do_itX (h : ta σ M (kItX QA)) : rItX ta σ M QA := h
theorem do_kitx {x : Str} (h : QA (signsR x) M) : kItX QA (.str x) M := h
def kCallV (fs : List (Addr × RSp)) (t : RTA) (σ : RSt) (Q : RVK) : RVK := fun v M1 => match v with
  | .ref f => ∃ sp, (f, sp) ∈ fs ∧ t σ M1 fun rs M2 => sp rs M2 Q
  | _ => False
theorem do_callV {fs : List (Addr × RSp)} (h : ta σ M (kCallV fs tr σ Q)) : rCallV fs ta tr σ M Q := h
theorem do_kcallV {fs : List (Addr × RSp)} {f : Addr} {sp : RSp} (hm : (f, sp) ∈ fs) (h : tr σ M fun rs M2 => sp rs M2 Q) : kCallV fs tr σ Q (.ref f) M := ⟨sp, hm, h⟩
def kTabIn (neg : Bool) (kvs : List (Key × RV)) (Q : RVK) : RVK := fun k M1 => match keyR k with
  | some key => Q (.bl (if neg then !(lookK kvs key).isSome else (lookK kvs key).isSome)) M1
  | none => False
theorem do_neg {i : Int} (h : Q (.int (-i)) M) : rgNeg (.int i) M Q := h
theorem do_addS {i j : Str} (e : i.length + j.length ≤ sizeLine) (h : Q (.str (i ++ j)) M) : R.rAdd (.str i) (.str j) M Q := ⟨e, h⟩
theorem do_start {P : RSt → RM → Prop} {τ τ' : RSt} (e : τ = τ') (h : P τ' M) : P τ M := by subst e; exact h
def kJoin (t : RTA) (σ : RSt) (Q : RVK) : RVK := fun x M1 => match x with
  | .str z => t σ M1 fun rs M2 => ∃ ys : List Str, rs = [.ls (ys.map RV.str)] ∧ (ys.map (·.length)).sum + ys.length * z.length ≤ 16777216 ∧ Q (.str (Txt.join z ys)) M2
  | _ => False
theorem do_join (h : ta σ M (kJoin tr σ Q)) : rJoin ta tr σ M Q := h
theorem do_kjoin {z : Str} (h : tr σ M fun rs M2 => ∃ ys : List Str, rs = [.ls (ys.map RV.str)] ∧ (ys.map (·.length)).sum + ys.length * z.length ≤ 16777216 ∧ Q (.str (Txt.join z ys)) M2) : kJoin tr σ Q (.str z) M := h
theorem do_mulI {i j : Int} (e : CMul i j) (h : Q (.int (i * j)) M) : R.rMul (.int i) (.int j) M Q := ⟨e, h⟩
theorem do_addT' {xs ys : List RV} (e : xs.length + ys.length ≤ sizeLine) (h : Q (.tup (xs ++ ys)) M) : R.rAdd (.tup xs) (.tup ys) M Q := ⟨e, h⟩
def kApp (t : RTA) (σ : RSt) (Q : RVK) : RVK := fun x M1 => match x with
  | .ref p => (∃ ys, M1 p = some (.lst ys)) ∧ t σ M1 fun rs M2 => ∃ ys y, rs = [y] ∧ M2 p = some (.lst ys) ∧ ys.length < sizeLine ∧ Q .non (put M2 p (.lst (ys ++ [y])))
  | _ => False
theorem do_append (h : ta σ M (kApp tr σ Q)) : rApp ta tr σ M Q := h
theorem do_kapp {p : Addr} {ys : List RV} (e : M p = some (.lst ys)) (h : tr σ M fun rs M2 => ∃ ys y, rs = [y] ∧ M2 p = some (.lst ys) ∧ ys.length < sizeLine ∧ Q .non (put M2 p (.lst (ys ++ [y])))) : kApp tr σ Q (.ref p) M := ⟨⟨ys, e⟩, h⟩
theorem comp_all {te : RTE} {base : List (Option RV)} (p : RV → Prop) : ∀ (xs acc : List RV), (∀ x ∈ xs, ∀ Q' : RVK, (∀ v, p v → Q' v M) → te (some x :: base) M Q') → (∀ ys : List RV, ys.length = xs.length → (∀ y ∈ ys, p y) → Q (.ls (acc ++ ys)) M) → rCompL rYes te base xs acc M Q
  | [], acc, _, h => do_compNil (by simpa using h [] rfl (by simp))
  | x :: xs, acc, hs, h => do_compYes (hs x List.mem_cons_self _ fun v hv => comp_all p xs (acc ++ [v]) (fun y hy => hs y (List.mem_cons_of_mem _ hy)) fun ys hl ha => by
      have := h (v :: ys) (by simp [hl]) (by intro y hy; rcases List.mem_cons.mp hy with rfl | hy; exact hv; exact ha y hy)
      simpa using this)
theorem comp_map {te : RTE} {base : List (Option RV)} {f : RV → RV} : ∀ (xs acc : List RV), (∀ x ∈ xs, ∀ Q' : RVK, Q' (f x) M → te (some x :: base) M Q') → Q (.ls (acc ++ xs.map f)) M → rCompL rYes te base xs acc M Q
  | [], acc, _, h => do_compNil (by simpa using h)
  | x :: xs, acc, hs, h => do_compYes (hs x List.mem_cons_self _ (comp_map xs (acc ++ [f x]) (fun y hy => hs y (List.mem_cons_of_mem _ hy)) (by simpa using h)))
end
end R
namespace R
open PySem PySem.Spec PyProof.Rows L2
def okIs : Option Key → Value → Bool
  | none, .none => true
  | none, _ => false
  | some k, v => keyIs k v
def okH (w : World) : Option Key → Int
  | none => 0xFCA86420
  | some k => keyH w k
theorem okIs_shape : ∀ {k : Option Key} {v : Value}, okIs k v = true → (k = none ∧ v = Value.none) ∨ ∃ j, k = some j ∧ keyIs j v = true
  | none, v, h => by cases v <;> first | exact .inl ⟨rfl, rfl⟩ | (simp [okIs] at h)
  | some k, v, h => .inr ⟨k, rfl, h⟩
theorem keyIs_none {k : Key} : keyIs k Value.none = false := by cases k <;> rfl
section
variable {prog : Program} {w : World} {A : Around} {E : Value → Shared → Prop} {s : Shared}
theorem hash_none {Q : Int → Shared → Prop} (h : Q 0xFCA86420 { s with toks := s.toks + 1 }) : wpAny (model prog w) A (PySem.pyHash .none) Q E s := by
  have hT : s.TypeIs .none "NoneType" := rfl
  unfold PySem.pyHash
  have hv : [Value.none].any Value.onHeap = false := rfl
  refine wpAny_bind ?_
  rw [cRoomFor, if_neg (by rw [hv]; exact Bool.false_ne_true)]; refine wpAny_pure ?_
  refine wpAny_bind (wpAny_specialOf hT F.slot_NoneType_hash.lookup ?_)
  show wpAny _ _ (if (some (Value.builtin "NoneType.__hash__") == some Value.none) = true then _ else _) Q E s
  rw [if_neg (by rw [beq_builtin_none]; exact Bool.false_ne_true)]
  refine wpAny_bind (wpAny_specialOf hT F.slot_NoneType_hash.lookup ?_)
  show wpAny _ _ (callSpecialIfBoundUnlessNone? .none "__hash__" _ >>= _) Q E s
  refine wpAny_bind (wpAny_callSpecialIfBoundUnlessNone?_slot hT F.slot_NoneType_hash
    (wpAny_call_entry F.slot_NoneType_hash hT F.entry_NoneType_hash
      (show wpAny _ _ (do ret (← mkInt 0xFCA86420)) _ _ s from wpAny_ret_mkInt ?_) (F.args_NoneType_hash_1 _)))
  show wpAny _ _ (if (decide (-(2 : Int) ^ 63 ≤ 0xFCA86420) && decide ((0xFCA86420 : Int) < 2 ^ 63)) = true then _ else _) Q E _
  rw [if_pos (by decide)]
  exact wpAny_pure h
end
def optKind (prog : Program) (w : World) : PySem.KeyKind prog w (Option Key) where
  is := okIs
  hash := okH w
  inj := fun v a b ha hb => by
    rcases okIs_shape ha with ⟨rfl, rfl⟩ | ⟨j, rfl, hj⟩
    · rcases okIs_shape hb with ⟨rfl, _⟩ | ⟨i, rfl, hi⟩
      · rfl
      · rw [keyIs_none] at hi; cases hi
    · rcases okIs_shape hb with ⟨rfl, rfl⟩ | ⟨i, rfl, hi⟩
      · rw [keyIs_none] at hj; cases hj
      · rw [(mixKind prog w).inj v j i hj hi]
  byValue := fun k v h => by
    rcases okIs_shape h with ⟨rfl, rfl⟩ | ⟨j, rfl, hj⟩
    · rfl
    · exact (mixKind prog w).byValue j v hj
  pyHash := fun hv h => by
    rcases okIs_shape hv with ⟨rfl, rfl⟩ | ⟨j, rfl, hj⟩
    · exact hash_none h
    · exact (mixKind prog w).pyHash hj h
  eqBool := fun {A E s a b u v Q} hu hv h => by
    rcases okIs_shape hu with ⟨rfl, rfl⟩ | ⟨i, rfl, hi⟩
    · rcases okIs_shape hv with ⟨rfl, rfl⟩ | ⟨j, rfl, hj⟩
      · exact SeqAt.EqAt.same _ _ _ _ _ (by simpa using h)
      · have e : decide ((none : Option Key) = some j) = false := decide_eq_false (fun q => nomatch q)
        rw [e] at h
        rcases keyIs_shape hj with ⟨k, t, rfl, rfl⟩ | ⟨x, t, rfl, rfl⟩
        · exact SeqAt.EqAt.none_int k t _ _ _ _ h
        · exact SeqAt.EqAt.none_str x t _ _ _ _ h
    · rcases okIs_shape hv with ⟨rfl, rfl⟩ | ⟨j, rfl, hj⟩
      · have e : decide ((some i : Option Key) = none) = false := decide_eq_false (fun q => nomatch q)
        rw [e] at h
        rcases keyIs_shape hi with ⟨k, t, rfl, rfl⟩ | ⟨x, t, rfl, rfl⟩
        · exact SeqAt.EqAt.int_none k t _ _ _ _ h
        · exact SeqAt.EqAt.str_none x t _ _ _ _ h
      · have e : decide (some i = some j) = decide (i = j) := by
          by_cases q : i = j
          · subst q; simp
          · rw [decide_eq_false q, decide_eq_false fun z => q (Option.some.inj z)]
        rw [e] at h
        exact (mixKind prog w).eqBool hi hj h
  «strs» := fun k x t v h => by
    rcases okIs_shape h with ⟨rfl, e⟩ | ⟨j, rfl, hj⟩
    · cases e
    · exact (mixKind prog w).strs j x t v hj
theorem pairs_opt {P : Program} {w : World} {es : List DictEntry} {vs : List (Key × Value)} (h : Pairs (mixKind P w) es vs) : Pairs (optKind P w) es (vs.map fun p => (some p.1, p.2)) := by
  induction h with
  | nil => exact .nil
  | cons a b _ ih => exact .cons (kv := (some _, _)) a b ih
theorem nodup_some : ∀ {l : List Key}, l.Nodup → (l.map some).Nodup
  | [], _ => List.nodup_nil
  | a :: r, h => by
    obtain ⟨h1, h2⟩ := List.nodup_cons.mp h
    rw [List.map_cons]
    refine List.nodup_cons.mpr ⟨fun m => ?_, nodup_some h2⟩
    obtain ⟨b, hb, e⟩ := List.mem_map.mp m
    cases e
    exact h1 hb
theorem dict_opt {P : Program} {w : World} {h : Heap} {a : Addr} {vs : List (Key × Value)} (d : h.DictOf (mixKind P w) a vs) : h.DictOf (optKind P w) a (vs.map fun p => (some p.1, p.2)) := by
  obtain ⟨o, es, ep, h1, h2, h3, h4, h5, h6⟩ := d
  refine ⟨o, es, ep, h1, h2, h3, fun e he => ?_, pairs_opt h5, ?_⟩
  · obtain ⟨k, q1, q2⟩ := h4 e he
    exact ⟨some k, q1, q2⟩
  · rw [List.map_map]
    have : ((fun x : Option Key × Value => x.1) ∘ fun p : Key × Value => (some p.1, p.2)) = some ∘ fun p => p.1 := rfl
    rw [this, ← List.map_map]
    exact nodup_some h6
theorem none_at {vs : List (Key × Value)} : valueAt (vs.map fun p => (some p.1, p.2)) (none : Option Key) = none := by
  unfold valueAt
  rw [List.find?_eq_none.mpr]
  · rfl
  · intro x hx
    obtain ⟨p, _, rfl⟩ := List.mem_map.mp hx
    simp
section
variable {X : Cx}
def kTabNotN (kvs : List (Key × RV)) (Q : RVK) : RVK := fun k M1 => match k with
  | .non => Q (.bl true) M1
  | k => kTabIn true kvs Q k M1
def rTabNotN (kvs : List (Key × RV)) (te : RTE) : RTE := fun σ M Q => te σ M (kTabNotN kvs Q)
theorem rtabnotN_core {x : Str} {kvs : List (Key × RV)} {e : Expr} {te : RTE} {p : Pos} (T : KTab X.prog X.w X.K X.mg x kvs) (he : RPE X e te) (hg : Gl X x) (hd : (x == ("__debug__" : Str)) = false) :
    PC X .NotIn e (.Name x p) (up X.K (rTabNotN kvs te)) := by
  obtain ⟨a, vs, ws, hm, ha, hD, hk, hr⟩ := T.ex
  intro pins s σ0 H Q0 I h
  obtain ⟨σ, M, Q, hs', hv, ht, hq⟩ := h
  refine thn (he pins s σ0 H (fun v H1 => ∃ r M1, Rep X.K H1 r v ∧ Ext H H1 ∧ View X.K H1 M1 ∧ kTabNotN kvs Q r M1) I ⟨σ, M, _, hs', hv, ht, fun r M1 v H1 q e w r1 => ⟨r, M1, r1, e, w, q⟩⟩) fun iv s2 ⟨y, H2, I2, ry, r, M2, rr, e2, w2, q2⟩ => ?_
  refine ld_glob I2 hg hm ?_ hd
  have dd := hD _ I2.kIn
  by_cases hn : r = .non
  · subst hn
    have q2 : Q (.bl true) M2 := q2
    have : y = V.non := by simpa only [Rep] using rr
    subst this
    have : iv = Value.none := ry
    subst this
    refine wpAny_notIn_of (knd := optKind X.prog X.w) (k := none) rfl ha (dict_opt dd).mapOf ?_
    rw [none_at]
    exact ⟨.bl true, H2, I2.tok _, rfl, hq _ M2 _ H2 q2 e2 w2 (by simp only [Rep])⟩
  · have q2 : kTabIn true kvs Q r M2 := by
      cases r <;> first | exact q2 | exact absurd rfl hn
    unfold kTabIn at q2
    cases ek : keyR r with
    | none => rw [ek] at q2; exact q2.elim
    | some key =>
      rw [ek] at q2
      simp only at q2
      have := keyR_kV ek rr
      subst this
      refine wpAny_notIn_of (kV_is ry) ha dd.mapOf ?_
      rw [tab_isSome hk (hr H2)]
      exact ⟨.bl (!(lookK kvs key).isSome), H2, I2.tok _, rfl, hq _ M2 _ H2 q2 e2 w2 (by simp only [Rep]; rfl)⟩
theorem rttabnotN {x : Str} {kvs : List (Key × RV)} {e : Expr} {te : RTE} {p pos : Pos} (T : KTab X.prog X.w X.K X.mg x kvs) (he : RPE X e te) (hg : Gl X x := by rfl) (hd : (x == ("__debug__" : Str)) = false := by decide) (h1 : behindInMarks .NotIn (Expr.Name x p) = false := by with_unfolding_all rfl) :
    RPT X (.Compare e [.NotIn] [.Name x p] pos) (rTest (rTabNotN kvs te)) := PT.imp (pt_cmp (rtabnotN_core T he hg hd) h1) fun σ0 H Q0 h => by
  obtain ⟨σ, M, Q, hs, hv, ht, hk⟩ := h
  exact ⟨σ, M, _, hs, hv, ht, test_up hk⟩
end
section
variable {σ : RSt} {M : RM} {Q : RVK} {ta : RTE}
theorem do_tabnotN {kvs : List (Key × RV)} (h : ta σ M (kTabNotN kvs Q)) : rTabNotN kvs ta σ M Q := h
theorem do_ktabnotN0 {kvs : List (Key × RV)} (h : Q (.bl true) M) : kTabNotN kvs Q .non M := h
theorem do_ktabnotN {kvs : List (Key × RV)} {n : Str} (h : Q (.bl (!(lookK kvs (Sum.inr n)).isSome)) M) : kTabNotN kvs Q (.str n) M := h
end
end R
namespace R
open PySem PySem.Spec PyProof.Rows L2
section
variable {prog : Program} {w : World} {A : Around} {E : Value → Shared → Prop} {s : Shared}
theorem draw_tup {it t : Addr} {i : Nat} {items : Array Value} {x : Value} {Q : Value → Shared → Prop} (a1 : s.heap.IsTupleIter it t i) (a2 : s.heap.IsTuple t items) (a3 : items[i]? = some x)
    (k : ∀ h', h'.IsTupleIter it t (i + 1) → Heap.SameBut it s.heap h' → Q x { s with heap := h' }) : wpAny (model prog w) A (Builtin.SmallTypes.nextOf (.ref it)) Q E s := by
  obtain ⟨⟨c, d0, da, sl⟩, oe, oc, od⟩ := id a1
  simp only at oc od
  subst oc od
  obtain ⟨⟨c2, d2, da2, sl2⟩, qe, _, m, qd⟩ := a2
  simp only at qd
  subst qd
  have body : wpAny (model prog w) A.in1 (Builtin.«tuple_iterator.__next__» ⟨[.ref it], []⟩) (fun fin s' => ∃ v, fin = .done (.ret v) ∧ wpAny (model prog w) A (pure v : Sem Value) Q E s') E s := by
    wp_walk
    simp only [Int.toNat_natCast, a3]
    wp_walk
    refine ⟨x, rfl, wpAny_pure (k _ ⟨_, Heap.get?_update_self _ oe rfl, rfl, ?_⟩ (Heap.SameBut.update ..))⟩
    simp [Obj.mapFields, rawInt]
  unfold Builtin.SmallTypes.nextOf
  exact wpAny_bind (wpAny_callSpecial?_slot (name := Str.ofString "__next__") a1.typeIs PySem.F.slot_tuple_iterator_next (wpAny_call_entry PySem.F.slot_tuple_iterator_next a1.typeIs PySem.F.entry_tuple_iterator_next body (PySem.F.args_tuple_iterator_next_1 _)))
theorem end_tup {it t : Addr} {i : Nat} {items : Array Value} {Q : Value → Shared → Prop} (hh : A.handled = none) (a1 : s.heap.IsTupleIter it t i) (a2 : s.heap.IsTuple t items) (a3 : items[i]? = none)
    (k : ∀ h' e, Heap.ExtBut it s.heap h' → (∃ o, h'.get? e = some o ∧ o.cls = .type "StopIteration") → E (.ref e) { s with heap := h' }) : wpAny (model prog w) A (Builtin.SmallTypes.nextOf (.ref it)) Q E s := by
  obtain ⟨⟨c, d0, da, sl⟩, oe, oc, od⟩ := id a1
  simp only at oc od
  subst oc od
  obtain ⟨⟨c2, d2, da2, sl2⟩, qe, _, m, qd⟩ := a2
  simp only at qd
  subst qd
  have body : wpAny (model prog w) A.in1 (Builtin.«tuple_iterator.__next__» ⟨[.ref it], []⟩) (fun fin s' => ∃ v, fin = .done (.ret v) ∧ wpAny (model prog w) A (pure v : Sem Value) Q E s') E s := by
    wp_walk
    simp only [Int.toNat_natCast, a3]
    wp_walk
    unfold raiseNew
    refine wpAny_bind (wpAny_handled ?_)
    rw [show A.in1.handled = none from hh]
    exact wpAny_bind (wpAny_pure (wpAny_throw (k _ _ (((Heap.SameBut.update ..).extBut.push _).push _) ⟨_, Heap.get?_push_size _ rfl, rfl⟩)))
  unfold Builtin.SmallTypes.nextOf
  exact wpAny_bind (wpAny_callSpecial?_slot (name := Str.ofString "__next__") a1.typeIs PySem.F.slot_tuple_iterator_next (wpAny_call_entry PySem.F.slot_tuple_iterator_next a1.typeIs PySem.F.entry_tuple_iterator_next body (PySem.F.args_tuple_iterator_next_1 _)))
structure Apart (z T O i j l m : Addr) : Prop where
  ne : [z, T, O, i, j].Nodup
  src : l ∉ [z, O, i, j] ∧ m ∉ [z, O, i, j]
structure ZipSt (h : Heap) (z T O i j l m : Addr) (n : Nat) (xs ys : Array Value) (f : Value) : Prop where
  zp : IsZip h z T O f
  its : IsPair h T (.ref i) (.ref j)
  own : ∃ a b, IsPair h O a b
  it1 : h.IsTupleIter i l n
  it2 : h.IsListIter j m n
  src1 : h.IsTuple l xs
  src2 : h.IsList m ys
end
section
variable {X : Cx} {pins : List (Addr × Obj)} {σ : L2.St} {H : Hp} {s : Shared} {h' : Heap}
theorem turnedL {t' : Nat} {its : List Addr} (I : Inv X pins σ H s) (k : ∀ b o, b ∉ its → s.heap.get? b = some o → h'.get? b = some o) (hf : ∀ b ∈ its, FpOk X pins H b) : Inv X pins σ H { s with heap := h', toks := t' } := by
  have off : ∀ b u, H b = some u → b ∉ its := fun b u e z => by rw [(hf b z).1] at e; cases e
  refine I.step (g' := s.gens) (d' := s.drawn) (ch := its) (fun b hb => ⟨(hf b hb).2.2.2.1, (hf b hb).2.1, (hf b hb).2.2.2.2.1, (hf b hb).2.2.2.2.2⟩) (fun b o _ _ hc e _ => k b o hc e) (fun b o _ _ hc e _ => ⟨o.slots, k b o hc e⟩) (fun _ _ _ _ n => n)
    (fun b o hc e => ⟨o, k b o hc e⟩) (fun _ _ e => e) (fun _ _ _ e => e) (fun b ps e => ⟨#[], by rw [e]; simp⟩) (fun m hm => ?_) (fun b u e => ?_) I.bare
  · obtain ⟨o, es, ep, ho, r⟩ := hm
    exact ⟨o, es, ep, k _ o (fun z => (hf _ z).2.1 rfl) ho, r⟩
  · refine (I.hok b u e).stay (fun c v hc q => k c v ?_ q) (fun _ q => q) fun _ _ q => q
    rcases hc with z | z
    · rw [z]; exact off b u e
    · exact off c _ z
end
structure ZipTn (h : Heap) (z T O i j l m : Addr) (n : Nat) : Prop where
  zp : IsZip h z T O .none
  its : IsPair h T (.ref i) (.ref j)
  own : ∃ a b, IsPair h O a b
  it1 : h.IsTupleIter i l n
  it2 : h.IsListIter j m n
abbrev zA (h : Heap) (l : Addr) : Heap := h.push { cls := .type "tuple_iterator", data := .fields #[.ref l, .int 0 0] }
section
variable {X : Cx}
end
end R
namespace R
open PySem PySem.Spec PyProof.Rows L2
section
variable {X : Cx}
abbrev numS (i : Int) : Str := Str.ofString (toString i)
theorem log_small {i : Int} (h0 : 0 ≤ i) (h1 : i < 10000000000) : i.natAbs.log2 < 1920 := by
  by_cases hz : i.natAbs = 0
  · rw [hz]; decide
  · rw [Nat.log2_lt hz]
    refine Nat.lt_of_lt_of_le (show i.natAbs < 1099511627776 by omega) ?_
    have e : (1099511627776 : Nat) = 2 ^ 40 := by decide
    rw [e]
    exact Nat.pow_le_pow_right (by decide) (by decide)
def rStrC : List RV → RM → RVK → Prop := fun rs M Q => match rs with
  | [.int i] => 0 ≤ i ∧ i < 10000000000 ∧ Q (.str (numS i)) M
  | [.str x] => Q (.str x) M
  | _ => False
theorem cstr : CallR X (.type "str") (upC X.K rStrC) := by
  intro pins s σ H xs us Q0 I rl h
  obtain ⟨rs, M, Q, rr, hv, hq, hk⟩ := h
  match rs, hq with
  | [.int i], hq =>
    obtain ⟨h0, h1, hq⟩ := hq
    simp only [Reps, Rep] at rr
    obtain ⟨v, r, rfl, rfl, rfl⟩ := rr
    exact call_str_int pins s σ H _ us Q0 I rl ⟨i, rfl, log_small h0 h1, hk _ M _ H hq (.refl H) hv (by simp only [Rep])⟩
  | [.str x], hq =>
    simp only [Reps, Rep] at rr
    obtain ⟨v, r, rfl, rfl, rfl⟩ := rr
    obtain ⟨u, rfl, t, rfl⟩ := vals1 rl
    exact PySem.P.str_of_str ⟨.str x, H, I, ⟨_, rfl⟩, hk _ M _ H hq (.refl H) hv (by simp only [Rep])⟩
def rIntC : List RV → RM → RVK → Prop := fun rs M Q => match rs with
  | [.str x] => ∃ n, PySem.intText? x = some n ∧ x.length ≤ 640 ∧ Q (.int n) M
  | _ => False
theorem cint : CallR X (.type "int") (upC X.K rIntC) := by
  intro pins s σ H xs us Q0 I rl h
  obtain ⟨rs, M, Q, rr, hv, hq, hk⟩ := h
  match rs, hq with
  | [.str x], hq =>
    obtain ⟨n, h1, h2, hq⟩ := hq
    simp only [Reps, Rep] at rr
    obtain ⟨v, r, rfl, rfl, rfl⟩ := rr
    obtain ⟨u, rfl, t, rfl⟩ := vals1 rl
    exact PySem.W.KIN.call_text h1 h2 ⟨.int n, H, I.tok _, ⟨_, rfl⟩, hk _ M _ H hq (.refl H) hv (by simp only [Rep])⟩
def rInS : RR2 := fun x y M Q => match x, y with
  | .str i, .str j => Q (.bl (!(Builtin.Str.occurrences j i 0 j.length 1).isEmpty)) M
  | _, _ => False
theorem oinS : ROp X (compareOp .In) rInS := by
  intro pins s σ H x y v u Q0 I rx ry h
  obtain ⟨a, b, M, Q, ra, rb, hv, hq, hk⟩ := h
  cases a with
  | str i => cases b with
    | str j =>
      simp only [Rep] at ra rb
      subst ra; subst rb
      exact op_in_str pins s σ H _ _ v u Q0 I rx ry ⟨i, j, rfl, rfl, hk _ M _ H hq (.refl H) hv (by simp only [Rep])⟩
    | _ => exact (show False from hq).elim
  | _ => exact (show False from hq).elim
section
variable {prog : Program} {w : World} {A : Around} {E : Value → Shared → Prop} {s : Shared} {z y : Str} {t u : Tok} {Q : Value → Shared → Prop}
open PySem.Builtin PySem.Builtin.Str in
theorem split_len (hsz : z.length + 2 ≤ sizeLine) : (Txt.split z y).length ≤ sizeLine := by
  have oc := StrLaws.occ_length_le z y 0 z.length (z.length + 1)
  unfold Txt.split
  split
  · exact Nat.le_trans (show 1 ≤ 2 by decide) (by omega)
  · split
    · exact Nat.le_trans (show 1 ≤ 2 by decide) (by omega)
    · rw [length_partsBetween]; omega
open PySem.Builtin PySem.Builtin.Str in
theorem split_new (hy : (y.length == 0) = false) (hsz : z.length + 2 ≤ sizeLine)
    (h : ∀ l k, l.map (fun p : Str × Tok => p.1) = Txt.split z y → Q (.ref s.heap.objs.size) { s with heap := s.heap.push { cls := .type "list", data := .seq (strValues l).toArray }, toks := k }) :
    wpAny (model prog w) A (call (.builtin "str.split") [.str z t, .str y u]) Q E s := by
  have oc := StrLaws.occ_length_le z y 0 z.length (z.length + 1)
  have sl := F.slot_str_split
  have ty : s.TypeIs (.str z t) "str" := typeIs_str s z t
  have en := F.entry_str_split
  have ar := F.args_str_split_2 (.str z t) (.str y u)
  by_cases c1 : (decide (z.length < y.length) || decide (strKind z < strKind y)) = true
  · refine call_meets sl ty en ar (meets_str_split_cannot_occur z y t u c1) ?_
    exact h [(z, t)] s.toks (by unfold Txt.split; rw [if_pos c1]; rfl)
  · have c1' := Bool.eq_false_iff.mpr c1
    by_cases c2 : (occurrences z y 0 z.length (z.length + 1)).isEmpty = true
    · refine call_meets sl ty en ar (meets_str_split_not_found z y t u c1' hy c2) ?_
      exact h [(z, t)] s.toks (by unfold Txt.split; rw [if_neg c1, if_pos c2]; rfl)
    · refine call_meets sl ty en ar (meets_str_split_sep z y t u c1' hy (Bool.eq_false_iff.mpr c2) (by omega) (by rw [length_partsBetween]; omega)) ?_
      have e := h (numbered s.toks (partsBetween z (occurrences z y 0 z.length (z.length + 1)) y.length)) (s.toks + (partsBetween z (occurrences z y 0 z.length (z.length + 1)) y.length).length) (by rw [numbered_texts]; unfold Txt.split; rw [if_neg c1, if_neg c2])
      rw [← strsFrom_eq] at e
      exact e
open PySem.Builtin PySem.Builtin.Str in
theorem part_new (hy : (y.length == 0) = false) (hsz : z.length ≤ sizeLine)
    (h : ∀ a b c k, Q (.ref s.heap.objs.size) { s with heap := s.heap.push { cls := .type "tuple", data := .seq #[.str (Txt.partition z y).1 a, .str (Txt.partition z y).2.1 b, .str (Txt.partition z y).2.2 c] }, toks := k }) :
    wpAny (model prog w) A (call (.builtin "str.partition") [.str z t, .str y u]) Q E s := by
  refine call_meets F.slot_str_partition (typeIs_str s z t) F.entry_str_partition (F.args_str_partition_2 (.str z t) (.str y u)) (meets_str_partition z y t u hy hsz) ?_
  unfold Txt.partition at h
  generalize occurrences z y 0 z.length 1 = os at h ⊢
  cases os with
  | nil => exact h t s.toks s.toks _
  | cons i r => exact h s.toks u (s.toks + 1) _
end
theorem vals_texts : ∀ (l : List (Str × Tok)), Vals ((l.map (fun p : Str × Tok => p.1)).map V.str) (strValues l)
  | [] => .nil
  | p :: r => .cons ⟨p.2, rfl⟩ (vals_texts r)
def mSplit : V → List V → Hp → VK → Prop := fun x vs H Q => ∃ z y, x = .str z ∧ vs = [.str y] ∧ (y.length == 0) = false ∧ z.length + 2 ≤ sizeLine ∧ ∀ p, H p = none → Q (.ref p) (upd H p (.lst ((Txt.split z y).map V.str)))
theorem mt_split : MtR X "str.split" mSplit := by
  intro pins s σ H x vs v us Q I rx rv h
  obtain ⟨z, y, rfl, rfl, hy, hz, q⟩ := h
  obtain ⟨t, rfl⟩ := rx
  obtain ⟨u, rfl, ru⟩ := rv.one
  obtain ⟨t2, rfl⟩ := ru
  refine split_new hy hz fun l k e => ?_
  have r := vals_texts l
  rw [e] at r
  refine ⟨.ref s.heap.objs.size, _, I.laid (fun b o e => Heap.get?_push_of_some _ e) (Nat.le_refl _) (show ObjOk X.prog X.w _ _ _ (.lst ((Txt.split z y).map V.str)) from ⟨by rw [List.length_map]; exact split_len hz, strValues l, 0, r, Heap.get?_push_size s.heap rfl⟩), rfl, q _ (I.hok.fresh (Nat.le_refl _))⟩
def mPart : V → List V → Hp → VK → Prop := fun x vs H Q => ∃ z y, x = .str z ∧ vs = [.str y] ∧ (y.length == 0) = false ∧ z.length ≤ sizeLine ∧ ∀ p, H p = none → Q (.ref p) (upd H p (.tup [.str (Txt.partition z y).1, .str (Txt.partition z y).2.1, .str (Txt.partition z y).2.2]))
theorem mt_part : MtR X "str.partition" mPart := by
  intro pins s σ H x vs v us Q I rx rv h
  obtain ⟨z, y, rfl, rfl, hy, hz, q⟩ := h
  obtain ⟨t, rfl⟩ := rx
  obtain ⟨u, rfl, ru⟩ := rv.one
  obtain ⟨t2, rfl⟩ := ru
  refine part_new hy hz fun a b c k => ?_
  refine ⟨.ref s.heap.objs.size, _, I.laid (fun b o e => Heap.get?_push_of_some _ e) (Nat.le_refl _) (show ObjOk X.prog X.w _ _ _ (.tup [.str (Txt.partition z y).1, .str (Txt.partition z y).2.1, .str (Txt.partition z y).2.2]) from ⟨by rw [sizeLine_eq]; simp, _, .cons ⟨_, rfl⟩ (.cons ⟨_, rfl⟩ (.cons ⟨_, rfl⟩ .nil)), IsTup.new _ _⟩), rfl, q _ (I.hok.fresh (Nat.le_refl _))⟩
def kSplit (t : RTA) (σ : RSt) (Q : RVK) : RVK := fun x M1 => match x with
  | .str z => t σ M1 fun rs M2 => ∃ y, rs = [.str y] ∧ (y.length == 0) = false ∧ z.length + 2 ≤ sizeLine ∧ Q (.ls ((Txt.split z y).map RV.str)) M2
  | _ => False
def rSplit (to : RTE) (t : RTA) : RTE := fun σ M Q => to σ M (kSplit t σ Q)
theorem str_reps {K : PySem.W.Frag} {H : Hp} : ∀ (ys : List Str), Reps K H (ys.map RV.str) (ys.map V.str)
  | [] => Reps.nil
  | y :: r => Reps.cons (by simp only [Rep]) (str_reps r)
theorem rsplit {o e : Expr} {to : RTE} {t : RTA} {apos cpos : Pos} (ho : RPE X o to) (ha : RPA X [e] t)
    (hbase : attributeBase o "split" X.env (eval o X.env) = eval o X.env := by rfl)
    (hfew : ((backTo cpos (starEach [e] X.env)).all (fun x => !x.1) && (backToKw cpos (keywordEach [] X.env)).all (fun x => x.1.isSome) && decide ([e].length + ([] : List Keyword).length + (if ([] : List Keyword).isEmpty then 0 else 1) < 30)) = true := by rfl)
    (hline : (apos.endLine == cpos.line) = true := by rfl) (hs : starEach [e] X.env = (false, eval e X.env) :: starEach [] X.env := by rfl) (hplain : (backTo cpos (starEach [] X.env)).any (·.1) = false := by rfl) :
    RPE X (.Call (.Attribute o "split" apos) [e] [] cpos) (rSplit to t) := by
  intro pins s σ0 H Q0 I h
  refine thn (pe_bm PySem.F.plainAttrs_str PySem.F.slot_str_split PySem.F.type_str_split mt_split ho ha hbase hfew hline hs hplain pins s σ0 H (fun v H' => ∃ H1 p xs, v = .ref p ∧ H1 p = none ∧ H' = upd H1 p (.lst xs) ∧ ∀ o, Q0 (.ref p) (upd H1 p (.frz o (.lst xs)))) I ?_) fun _ _ e => frozen e
  obtain ⟨σ, M, Q, hs, hv, ht, hk⟩ := h
  refine ⟨σ, M, _, hs, hv, ht, fun rx M1 x H1 q e1 v1 r1 => ?_⟩
  cases rx with
  | str z =>
    simp only [Rep] at r1
    subst r1
    refine ⟨rfl, σ, M1, _, hs.ext e1, v1, q, fun rs M2 vs H2 q2 e2 v2 r2 => ?_⟩
    obtain ⟨y, rfl, hy, hz, q2⟩ := q2
    obtain ⟨v, rfl, r3⟩ := r2.one
    simp only [Rep] at r3
    subst r3
    refine ⟨z, y, rfl, rfl, hy, hz, fun p hp => ⟨H2, p, _, rfl, hp, rfl, fun o => ?_⟩⟩
    exact hk _ M2 _ _ q2 ((e1.trans e2).trans (Ext.new hp)) (v2.new hp) (rep_ls hp (str_reps _))
  | _ => exact (show False from q).elim
def kPar (t : RTA) (σ : RSt) (Q : RVK) : RVK := fun x M1 => match x with
  | .str z => t σ M1 fun rs M2 => ∃ y, rs = [.str y] ∧ (y.length == 0) = false ∧ z.length ≤ sizeLine ∧ Q (.tup [.str (Txt.partition z y).1, .str (Txt.partition z y).2.1, .str (Txt.partition z y).2.2]) M2
  | _ => False
def rPar (to : RTE) (t : RTA) : RTE := fun σ M Q => to σ M (kPar t σ Q)
theorem rpartit {o e : Expr} {to : RTE} {t : RTA} {apos cpos : Pos} (ho : RPE X o to) (ha : RPA X [e] t)
    (hbase : attributeBase o "partition" X.env (eval o X.env) = eval o X.env := by rfl)
    (hfew : ((backTo cpos (starEach [e] X.env)).all (fun x => !x.1) && (backToKw cpos (keywordEach [] X.env)).all (fun x => x.1.isSome) && decide ([e].length + ([] : List Keyword).length + (if ([] : List Keyword).isEmpty then 0 else 1) < 30)) = true := by rfl)
    (hline : (apos.endLine == cpos.line) = true := by rfl) (hs : starEach [e] X.env = (false, eval e X.env) :: starEach [] X.env := by rfl) (hplain : (backTo cpos (starEach [] X.env)).any (·.1) = false := by rfl) :
    RPE X (.Call (.Attribute o "partition" apos) [e] [] cpos) (rPar to t) := PE.imp (pe_bm PySem.F.plainAttrs_str PySem.F.slot_str_partition PySem.F.type_str_partition mt_part ho ha hbase hfew hline hs hplain) fun σ0 H Q0 h => by
  obtain ⟨σ, M, Q, hs, hv, ht, hk⟩ := h
  refine ⟨σ, M, _, hs, hv, ht, fun rx M1 x H1 q e1 v1 r1 => ?_⟩
  cases rx with
  | str z =>
    simp only [Rep] at r1
    subst r1
    refine ⟨rfl, σ, M1, _, hs.ext e1, v1, q, fun rs M2 vs H2 q2 e2 v2 r2 => ?_⟩
    obtain ⟨y, rfl, hy, hz, q2⟩ := q2
    obtain ⟨v, rfl, r3⟩ := r2.one
    simp only [Rep] at r3
    subst r3
    refine ⟨z, y, rfl, rfl, hy, hz, fun p hp => ?_⟩
    refine hk _ M2 _ _ q2 ((e1.trans e2).trans (Ext.new hp)) (v2.new hp) ?_
    exact rep_tup hp (str_reps [(Txt.partition z y).1, (Txt.partition z y).2.1, (Txt.partition z y).2.2])
  | _ => exact (show False from q).elim
def rNever : RTS := fun _ _ _ => False
theorem snever {st : Stmt} : RPS X st rNever := fun pins s σ0 H D0 I h => by
  obtain ⟨σ, M, D, hs, hv, ht, hk⟩ := h
  exact (show False from ht).elim
end
end R
namespace R.TT
open PySem PySem.Spec PyProof.Rows L2 R
section
variable {prog : Program} {w : World} {A : Around} {E : Value → Shared → Prop} {s : Shared}
structure ZipSt (h : Heap) (z T O i j l m : Addr) (n : Nat) (xs ys : Array Value) (f : Value) : Prop where
  zp : IsZip h z T O f
  its : IsPair h T (.ref i) (.ref j)
  own : ∃ a b, IsPair h O a b
  it1 : h.IsTupleIter i l n
  it2 : h.IsTupleIter j m n
  src1 : h.IsTuple l xs
  src2 : h.IsTuple m ys
theorem zip_turn {z T O i j l m : Addr} {n : Nat} {xs ys : Array Value} {x y : Value} {Q : Value → Shared → Prop} (D : Apart z T O i j l m) (S : ZipSt s.heap z T O i j l m n xs ys .none) (hx : xs[n]? = some x) (hy : ys[n]? = some y)
    (k : ∀ h', ZipSt h' z T O i j l m (n + 1) xs ys (rawInt s.heap.objs.size) → IsPair h' s.heap.objs.size x y → h'.objs.size = s.heap.objs.size + 1 → (∀ c o, c ∉ [z, O, i, j] → s.heap.get? c = some o → h'.get? c = some o) → Q (.ref s.heap.objs.size) { s with heap := h' }) :
    wpAny (model prog w) A (Builtin.«zip.__next__» ⟨[.ref z], []⟩) (fun fin s' => ∃ v, fin = .done (.ret v) ∧ Q v s') E s := by
  obtain ⟨ez, et, ⟨a, b, eo⟩, e1, e2, es1, es2⟩ := S
  show wpAny _ _ (field (.ref z) 2 >>= _) _ _ _
  refine wpAny_bind (wpAny_field ez rfl (x := .bool false) rfl (wpAny_bind (wpAny_field ez rfl (x := .ref T) rfl (wpAny_bind (wpAny_seqItems et rfl ?_)))))
  have nd := D.ne
  simp only [List.nodup_cons, List.mem_cons, List.not_mem_nil, or_false, not_or, List.nodup_nil, not_false_eq_true, and_true] at nd
  obtain ⟨⟨zT, zO, zi, zj⟩, ⟨TO, Ti, Tj⟩, ⟨Oi, Oj⟩, ij⟩ := nd
  have sl := D.src.1
  have sm := D.src.2
  simp only [List.mem_cons, List.not_mem_nil, or_false, not_or] at sl sm
  obtain ⟨lz, lO, li, lj⟩ := sl
  obtain ⟨mz, mO, mi, mj⟩ := sm
  have free : wpAny (model prog w) A (Builtin.SmallTypes.ownedTupleIsFree (.ref z)) (fun b s' => b = true ∧ s' = s) E s := by
    unfold Builtin.SmallTypes.ownedTupleIsFree
    exact wpAny_bind (wpAny_field ez rfl (x := .none) rfl (wpAny_pure ⟨rfl, rfl⟩))
  refine wpAny_bind (m := Builtin.SmallTypes.ownedTupleIsFree (.ref z)) (thn free fun b' s' eb => ?_)
  obtain ⟨rfl, rfl⟩ := eb
  refine wpAny_bind (m := rule _) (wpAny_rule (wpAny_bind (wpAny_field ez rfl (x := .ref O) rfl (wpAny_bind (wpAny_setField_rec ez (by simp) fun g1 zp1 sb1 => ?_)))))
  have zq1 : IsZip g1 z T O .ellipsis := zp1
  refine wpAny_bind ?_
  simp only [List.zipIdx_cons, List.zipIdx_nil, List.forIn_cons, List.forIn_nil]
  refine wpAny_bind (wpAny_bind (wpAny_onRaise ?_))
  have keep1 : ∀ c o, c ≠ z → s'.heap.get? c = some o → g1.get? c = some o := fun c o n e => sb1.extBut c o n e
  refine wpAny_bind (m := Builtin.SmallTypes.nextOf (.ref i)) (draw_tup (e1.at fun o e => keep1 _ o (Ne.symm zi) e) (es1.at fun o e => keep1 _ o lz e) hx fun g2 u1 sb2 => wpAny_pure ?_)
  have keep2 : ∀ c o, c ≠ z → c ≠ i → s'.heap.get? c = some o → g2.get? c = some o := fun c o n n2 e => sb2.extBut c o n2 (keep1 c o n e)
  have eo2 : IsPair g2 O a b := keep2 _ _ (Ne.symm zO) Oi eo
  refine wpAny_bind (wpAny_seqItems eo2 rfl (wpAny_bind (wpAny_updateSeq_pair eo2 fun g3 v3 sb3 => wpAny_bind (wpAny_letGo (wpAny_pure ?_)))))
  have eo3 : IsPair g3 O x b := v3
  have keep3 : ∀ c o, c ≠ z → c ≠ i → c ≠ O → s'.heap.get? c = some o → g3.get? c = some o := fun c o n n2 n3 e => sb3.extBut c o n3 (keep2 c o n n2 e)
  refine wpAny_bind (wpAny_bind (wpAny_onRaise ?_))
  refine wpAny_bind (m := Builtin.SmallTypes.nextOf (.ref j)) (draw_tup (e2.at fun o e => keep3 _ o (Ne.symm zj) (Ne.symm ij) (Ne.symm Oj) e) (es2.at fun o e => keep3 _ o mz mi mO e) hy fun g4 u2 sb4 => wpAny_pure ?_)
  have eo4 : IsPair g4 O x b := sb4.extBut _ _ Oj eo3
  refine wpAny_bind (wpAny_seqItems eo4 rfl (wpAny_bind (wpAny_updateSeq_pair eo4 fun g5 v5 sb5 => wpAny_bind (wpAny_letGo (wpAny_pure (wpAny_pure ?_))))))
  have eo5 : IsPair g5 O x y := v5
  have keep5 : ∀ c o, c ≠ z → c ≠ i → c ≠ O → c ≠ j → s'.heap.get? c = some o → g5.get? c = some o := fun c o n n2 n3 n4 e => sb5.extBut c o n3 (sb4.extBut c o n4 (keep3 c o n n2 n3 e))
  have size5 : g5.objs.size = s'.heap.objs.size := by rw [sb5.1, sb4.1, sb3.1, sb2.1, sb1.1]
  have zq5 : IsZip g5 z T O .ellipsis := sb5.extBut _ _ zO (sb4.extBut _ _ zj (sb3.extBut _ _ zO (sb2.extBut _ _ zi zq1)))
  have u15 : g5.IsTupleIter i l (n + 1) := u1.at fun o e => sb5.extBut _ _ (Ne.symm Oi) (sb4.extBut _ _ ij (sb3.extBut _ _ (Ne.symm Oi) e))
  have u25 : g5.IsTupleIter j m (n + 1) := u2.at fun o e => sb5.extBut _ _ (Ne.symm Oj) e
  refine wpAny_bind (wpAny_seqItems eo5 rfl (wpAny_bind (wpAny_newTuple ?_)))
  have zq6 : IsZip (g5.push { cls := .type "tuple", data := .seq #[x, y] }) z T O .ellipsis := Heap.get?_push_of_some _ zq5
  have hand : wpAny (model prog w) A (Builtin.SmallTypes.ownedTupleHandOut (.ref z) (.ref g5.objs.size)) (fun _ s2 => ∃ g8, IsZip g8 z T O (rawInt g5.objs.size) ∧ g8.objs.size = g5.objs.size + 1 ∧ (∀ c o, c ≠ z → (g5.push { cls := .type "tuple", data := .seq #[x, y] }).get? c = some o → g8.get? c = some o) ∧ s2 = { s' with heap := g8 }) E { s' with heap := g5.push { cls := .type "tuple", data := .seq #[x, y] } } := by
    unfold Builtin.SmallTypes.ownedTupleHandOut
    refine wpAny_bind (wpAny_setField_rec zq6 (by simp) fun g7 w7 sb7 => wpAny_setField_rec (show IsZip g7 z T O (rawInt g5.objs.size) from w7) (by simp) fun g8 w8 sb8 => ⟨g8, w8, by rw [sb8.1, sb7.1, Heap.size_push], fun c o n e => sb8.extBut c o n (sb7.extBut c o n e), rfl⟩)
  refine wpAny_bind (m := Builtin.SmallTypes.ownedTupleHandOut (.ref z) (.ref g5.objs.size)) (thn hand fun _ s2 e8 => ?_)
  obtain ⟨g8, w8, sz8, keep8, rfl⟩ := e8
  have up : ∀ c o, c ≠ z → g5.get? c = some o → g8.get? c = some o := fun c o n e => keep8 c o n (Heap.get?_push_of_some _ e)
  have zlt : z < g5.objs.size := Heap.lt_size zq5
  have pr : IsPair g8 g5.objs.size x y := keep8 _ _ (Nat.ne_of_gt zlt) (Heap.get?_push_size _ rfl)
  rw [size5] at pr w8 sz8
  have keepK : ∀ c o, c ∉ [z, O, i, j] → s'.heap.get? c = some o → g8.get? c = some o := fun c o hc e => by
    simp only [List.mem_cons, List.not_mem_nil, or_false, not_or] at hc
    exact up c o hc.1 (keep5 c o hc.1 hc.2.2.1 hc.2.1 hc.2.2.2 e)
  have fin := k g8 ⟨w8, up _ _ (Ne.symm zT) (keep5 _ _ (Ne.symm zT) Ti TO Tj et), ⟨x, y, up _ _ (Ne.symm zO) eo5⟩, u15.at fun o e => up _ o (Ne.symm zi) e, u25.at fun o e => up _ o (Ne.symm zj) e, es1.at fun o e => up _ o lz (keep5 _ o lz li lO lj e), es2.at fun o e => up _ o mz (keep5 _ o mz mi mO mj e)⟩ pr sz8 keepK
  refine wpAny_pure ⟨_, rfl, ?_⟩
  show Q (.ref g5.objs.size) _
  rw [size5]
  exact fin
theorem zip_stop {z T O i j l m : Addr} {n : Nat} {xs ys : Array Value} {Q : Fin → Shared → Prop} (hh : A.handled = none) (D : Apart z T O i j l m) (S : ZipSt s.heap z T O i j l m n xs ys .none) (hx : xs[n]? = none)
    (k : ∀ h' e, (∀ c o, c ∉ [z, O, i, j] → s.heap.get? c = some o → h'.get? c = some o) → (∃ o, h'.get? e = some o ∧ o.cls = .type "StopIteration") → E (.ref e) { s with heap := h' }) :
    wpAny (model prog w) A (Builtin.«zip.__next__» ⟨[.ref z], []⟩) Q E s := by
  obtain ⟨ez, et, ⟨a, b, eo⟩, e1, e2, es1, es2⟩ := S
  have nd := D.ne
  simp only [List.nodup_cons, List.mem_cons, List.not_mem_nil, or_false, not_or, List.nodup_nil, not_false_eq_true, and_true] at nd
  obtain ⟨⟨zT, zO, zi, zj⟩, ⟨TO, Ti, Tj⟩, ⟨Oi, Oj⟩, ij⟩ := nd
  have sl := D.src.1
  simp only [List.mem_cons, List.not_mem_nil, or_false, not_or] at sl
  obtain ⟨lz, lO, li, lj⟩ := sl
  show wpAny _ _ (field (.ref z) 2 >>= _) _ _ _
  refine wpAny_bind (wpAny_field ez rfl (x := .bool false) rfl (wpAny_bind (wpAny_field ez rfl (x := .ref T) rfl (wpAny_bind (wpAny_seqItems et rfl ?_)))))
  have free : wpAny (model prog w) A (Builtin.SmallTypes.ownedTupleIsFree (.ref z)) (fun b s' => b = true ∧ s' = s) E s := by
    unfold Builtin.SmallTypes.ownedTupleIsFree
    exact wpAny_bind (wpAny_field ez rfl (x := .none) rfl (wpAny_pure ⟨rfl, rfl⟩))
  refine wpAny_bind (m := Builtin.SmallTypes.ownedTupleIsFree (.ref z)) (thn free fun b' s' eb => ?_)
  obtain ⟨rfl, rfl⟩ := eb
  refine wpAny_bind (m := rule _) (wpAny_rule (wpAny_bind (wpAny_field ez rfl (x := .ref O) rfl (wpAny_bind (wpAny_setField_rec ez (by simp) fun g1 zp1 sb1 => ?_)))))
  have zq1 : IsZip g1 z T O .ellipsis := zp1
  refine wpAny_bind ?_
  simp only [List.zipIdx_cons, List.zipIdx_nil, List.forIn_cons, List.forIn_nil]
  refine wpAny_bind (wpAny_bind (wpAny_onRaise ?_))
  have keep1 : ∀ c o, c ≠ z → s'.heap.get? c = some o → g1.get? c = some o := fun c o n e => sb1.extBut c o n e
  refine wpAny_bind (m := Builtin.SmallTypes.nextOf (.ref i)) (end_tup hh (e1.at fun o e => keep1 _ o (Ne.symm zi) e) (es1.at fun o e => keep1 _ o lz e) hx fun g2 ex sb2 st => ?_)
  obtain ⟨oe, he, hc⟩ := st
  have zq2 : IsZip g2 z T O .ellipsis := sb2 _ _ zi zq1
  have exz : ex ≠ z := fun q => by subst q; rw [zq2] at he; cases he; simp at hc
  refine wpAny_setField_rec zq2 (by simp) fun g3 _ sb3 => k g3 ex (fun c o hc e => ?_) ⟨oe, sb3.extBut _ _ exz he, hc⟩
  simp only [List.mem_cons, List.not_mem_nil, or_false, not_or] at hc
  exact sb3.extBut _ _ hc.1 (sb2 _ _ hc.2.2.1 (keep1 _ _ hc.1 e))
theorem zip_next {z T O i j l m : Addr} {n : Nat} {xs ys : Array Value} {x y : Value} {Q : Option Value → Shared → Prop} (D : Apart z T O i j l m) (S : ZipSt s.heap z T O i j l m n xs ys .none) (hx : xs[n]? = some x) (hy : ys[n]? = some y)
    (k : ∀ h', ZipSt h' z T O i j l m (n + 1) xs ys (rawInt s.heap.objs.size) → IsPair h' s.heap.objs.size x y → h'.objs.size = s.heap.objs.size + 1 → (∀ c o, c ∉ [z, O, i, j] → s.heap.get? c = some o → h'.get? c = some o) → Q (some (.ref s.heap.objs.size)) { s with heap := h' }) :
    wpAny (model prog w) A (pyNext (.ref z)) Q E s := by
  have ty : s.TypeIs (.ref z) "zip" := ⟨_, S.zp, rfl⟩
  unfold pyNext
  exact wpAny_bind (wpAny_attempt (wpAny_callSpecial?_slot (name := Str.ofString "__next__") ty PySem.F.slot_zip_next (wpAny_call_entry PySem.F.slot_zip_next ty PySem.F.entry_zip_next (zip_turn D S hx hy fun h' q1 q2 q3 q4 => wpAny_pure (k h' q1 q2 q3 q4)) (PySem.F.args_zip_next_1 _))))
theorem zip_over {z T O i j l m : Addr} {n : Nat} {xs ys : Array Value} {Q : Option Value → Shared → Prop} (hh : A.handled = none) (D : Apart z T O i j l m) (S : ZipSt s.heap z T O i j l m n xs ys .none) (hx : xs[n]? = none)
    (k : ∀ h', (∀ c o, c ∉ [z, O, i, j] → s.heap.get? c = some o → h'.get? c = some o) → Q none { s with heap := h' }) : wpAny (model prog w) A (pyNext (.ref z)) Q E s := by
  have ty : s.TypeIs (.ref z) "zip" := ⟨_, S.zp, rfl⟩
  unfold pyNext
  refine wpAny_bind (wpAny_attempt (wpAny_callSpecial?_slot (name := Str.ofString "__next__") ty PySem.F.slot_zip_next (wpAny_call_entry PySem.F.slot_zip_next ty PySem.F.entry_zip_next (zip_stop hh D S hx fun h' e q1 q2 => ?_) (PySem.F.args_zip_next_1 _))))
  obtain ⟨o, ho, hc⟩ := q2
  exact wpAny_bind (wpAny_isInstance (T := "StopIteration") (b := true) ⟨o, ho, hc⟩ isSubtype_stop (wpAny_pure (k _ q1)))
end
def Itz (K : PySem.W.Frag) (l m : Addr) : It :=
  ⟨fun i H => ∃ xs ys x y, SqT K H l xs ∧ SqT K H m ys ∧ xs[i]? = some x ∧ ys[i]? = some y,
   fun i H v H' => ∃ p x y, v = .ref p ∧ H p = none ∧ H' = upd H p (.tup [x, y]) ∧ (∀ xs, SqT K H l xs → xs[i]? = some x) ∧ ∀ ys, SqT K H m ys → ys[i]? = some y,
   fun i H => ∃ xs ys, SqT K H l xs ∧ SqT K H m ys ∧ xs.length ≤ i⟩
structure ZipTn (h : Heap) (z T O i j l m : Addr) (n : Nat) : Prop where
  zp : IsZip h z T O .none
  its : IsPair h T (.ref i) (.ref j)
  own : ∃ a b, IsPair h O a b
  it1 : h.IsTupleIter i l n
  it2 : h.IsTupleIter j m n
theorem turn_zip {P : Program} {w : World} {K : PySem.W.Frag} {es : List Expr} {k : Nat} {ps : Pos} {z T O i j l m : Addr} (D : Apart z T O i j l m) : Turn P w K (.Tuple es k ps) (Itz K l m) [z, T, O, i, j] z (fun n h => ZipTn h z T O i j l m n) where
  mem := by simp
  obj := fun n h st b hb => by
    obtain ⟨q1, q2, ⟨a, c, q3⟩, ⟨o4, q4, _, d4⟩, ⟨o5, q5, _, d5⟩⟩ := st
    simp only [List.mem_cons, List.not_mem_nil, or_false] at hb
    rcases hb with rfl | rfl | rfl | rfl | rfl
    · exact ⟨_, q1, fun v e => by cases e⟩
    · exact ⟨_, q2, fun v e => by cases e⟩
    · exact ⟨_, q3, fun v e => by cases e⟩
    · exact ⟨o4, q4, fun v e => by rw [d4] at e; cases e⟩
    · exact ⟨o5, q5, fun v e => by rw [d5] at e; cases e⟩
  keep := fun n h h' st kp => by
    obtain ⟨q1, q2, ⟨a, c, q3⟩, q4, q5⟩ := st
    exact ⟨kp _ (by simp) _ q1, kp _ (by simp) _ q2, ⟨a, c, kp _ (by simp) _ q3⟩, q4.at fun o e => kp _ (by simp) o e, q5.at fun o e => kp _ (by simp) o e⟩
  item := by
    intro X hP hw hK hc n pins s σ H E I hf st hg
    subst hP hw hK
    obtain ⟨xs, ys, x, y, t1, t2, hx, hy⟩ := hg
    obtain ⟨its1, rv1, p1, hz1⟩ := I.tuple t1
    obtain ⟨its2, rv2, p2, hz2⟩ := I.tuple t2
    obtain ⟨u1, hu1, ru1⟩ := rv1.get hx
    obtain ⟨u2, hu2, ru2⟩ := rv2.get hy
    obtain ⟨q1, q2, q3, q4, q5⟩ := id st
    have hfr := I.hok.fresh (Nat.le_refl s.heap.objs.size)
    have new : ∀ b ∈ [z, T, O, i, j], b < s.heap.objs.size := fun b hb => by
      obtain ⟨a, c, q3'⟩ := q3
      obtain ⟨o4, q4', _⟩ := q4
      obtain ⟨o5, q5', _⟩ := q5
      simp only [List.mem_cons, List.not_mem_nil, or_false] at hb
      rcases hb with rfl | rfl | rfl | rfl | rfl
      · exact Heap.lt_size q1
      · exact Heap.lt_size q2
      · exact Heap.lt_size q3'
      · exact Heap.lt_size q4'
      · exact Heap.lt_size q5'
    have hfO : FpOk X pins H O := hf O (by simp)
    refine zip_next D ⟨q1, q2, q3, q4, q5, show s.heap.IsTuple l its1.toArray from p1, show s.heap.IsTuple m its2.toArray from p2⟩ (by simpa using hu1) (by simpa using hu2) fun g S pr sz kk => ⟨_, rfl, ?_⟩
    refine wpAny_letOwnedTupleGo_zip S.zp fun g' z' sb => ?_
    have keepg : ∀ c o, c ∉ [z, O, i, j] → s.heap.get? c = some o → g'.get? c = some o := fun c o hc' e => sb.extBut c o (fun q => hc' (by simp [q])) (kk c o hc' e)
    have pz : s.heap.objs.size ≠ z := Nat.ne_of_gt (new z (by simp))
    have pr' : IsPair g' s.heap.objs.size u1 u2 := sb.extBut _ _ pz pr
    have I1 := I.laid (h' := s.heap.push { cls := .type "tuple", data := .seq #[u1, u2] }) (a := s.heap.objs.size) (o := .tup [x, y]) (t' := s.toks) (fun b o e => Heap.get?_push_of_some _ e) (Nat.le_refl _) ⟨show 2 ≤ sizeLine by decide, [u1, u2], .cons ru1 (.cons ru2 .nil), ⟨_, Heap.get?_push_size _ rfl, rfl, _, rfl⟩⟩
    have fp' : ∀ b ∈ [z, O, i, j], FpOk X pins (upd H s.heap.objs.size (.tup [x, y])) b := fun b hb => by
      have hb' : b ∈ [z, T, O, i, j] := by
        simp only [List.mem_cons, List.not_mem_nil, or_false] at hb ⊢
        rcases hb with q | q | q | q <;> simp [q]
      have z1 := hf b hb'
      exact ⟨by rw [upd_ne (Nat.ne_of_lt (new b hb'))]; exact z1.1, z1.2⟩
    have I2 := turnedL (h' := g') (t' := s.toks) (its := [z, O, i, j]) I1 (fun b o hb e => by
      rcases Heap.get?_push_cases e with ⟨rfl, rfl⟩ | e2
      · exact pr'
      · exact keepg b o hb e2) fp'
    refine ⟨.ref s.heap.objs.size, upd H s.heap.objs.size (.tup [x, y]), I2, rfl, ⟨_, x, y, rfl, hfr, rfl, fun xs' t1' => ?_, fun ys' t2' => ?_⟩, ?_, fun b hb => ?_⟩
    · rw [I.tuple_inj t1' t1]; exact hx
    · rw [I.tuple_inj t2' t2]; exact hy
    · obtain ⟨w1, w2, ⟨a, c, w3⟩, w4, w5, _, _⟩ := S
      have nd := D.ne
      simp only [List.nodup_cons, List.mem_cons, List.not_mem_nil, or_false, not_or, List.nodup_nil, not_false_eq_true, and_true] at nd
      obtain ⟨⟨zT, zO, zi, zj⟩, _⟩ := nd
      exact ⟨z', sb.extBut _ _ (Ne.symm zT) w2, ⟨a, c, sb.extBut _ _ (Ne.symm zO) w3⟩, w4.at fun o e => sb.extBut _ _ (Ne.symm zi) e, w5.at fun o e => sb.extBut _ _ (Ne.symm zj) e⟩
    · rw [upd_ne (Nat.ne_of_lt (new b hb))]; exact (hf b hb).1
  done := by
    intro X hP hw hK hc n pins s σ H E I hf st hg
    subst hP hw hK
    obtain ⟨xs, ys, t1, t2, hn⟩ := hg
    obtain ⟨its1, rv1, p1, hz1⟩ := I.tuple t1
    obtain ⟨its2, rv2, p2, hz2⟩ := I.tuple t2
    obtain ⟨q1, q2, q3, q4, q5⟩ := id st
    have hl := rv1.length
    refine zip_over (I.ok.hd hc) D ⟨q1, q2, q3, q4, q5, show s.heap.IsTuple l its1.toArray from p1, show s.heap.IsTuple m its2.toArray from p2⟩ (by simp; omega) fun g kk => ⟨rfl, ?_⟩
    exact turnedL (h' := g) (t' := s.toks) (its := [z, O, i, j]) I kk fun b hb => hf b (by
      simp only [List.mem_cons, List.not_mem_nil, or_false] at hb ⊢
      rcases hb with q | q | q | q <;> simp [q])
  self := fun A n s Q E st h => wpAny_pyIter_zip st.zp h
abbrev zB (h : Heap) (l m : Addr) : Heap := (zA h l).push { cls := .type "tuple_iterator", data := .fields #[.ref m, .int 0 0] }
abbrev zC (h : Heap) (l m : Addr) : Heap := (zB h l m).push { cls := .type "tuple", data := .seq #[.ref h.objs.size, .ref (zA h l).objs.size] }
abbrev zD (h : Heap) (l m : Addr) : Heap := (zC h l m).push { cls := .type "tuple", data := .seq #[.none, .none] }
abbrev zE (h : Heap) (l m : Addr) : Heap := (zD h l m).push { cls := .type "zip", data := .fields #[.none, .bool false, .bool false, .ref (zB h l m).objs.size, .ref (zC h l m).objs.size] }
theorem zip_made (l m : Addr) (xs ys : Array Value) : Meets (Builtin.«zip.__new__» ⟨[.type "zip", .ref l, .ref m], []⟩) (fun _ R s => s.heap.IsTuple l xs ∧ s.heap.IsTuple m ys ∧ R (.ok (.ret (.ref (zD s.heap l m).objs.size))) { s with heap := zE s.heap l m }) :=
  .of_wp fun prog w A R s h => by
    obtain ⟨hp, g, d, tk, os⟩ := s
    obtain ⟨t1, t2, q⟩ := h
    have sub := sub_zip
    have k1 : Heap.IsTuple (Shared.heap ⟨hp, g, d, tk, os⟩) l xs := t1
    have k2 : Heap.IsTuple (Shared.heap ⟨zA hp l, g, d, tk, os⟩) m ys := t2.at fun o e => Heap.get?_push_of_some _ e
    wp_walk using wpAny_pyIter_tuple k1, wpAny_pyIter_tuple k2
    exact ⟨_, rfl, q⟩
section
variable {X : Cx}
def zRs (Q : List RV → RM → Prop) : List RV → RM → Prop := fun rs M2 => match rs with
  | [.tup xs, .tup ys] => xs.length = ys.length ∧ Q ((xs.zip ys).map fun p => .tup [p.1, p.2]) M2
  | _ => False
def rItZ (t1 t2 : RTE) : RTI := fun σ M Q => rCons t1 (rCons t2 rNil) σ M (zRs Q)
def kItZ (Q : List RV → RM → Prop) (x : RV) : RVK := fun y M2 => zRs Q [x, y] M2
theorem itz_of {K : PySem.W.Frag} {H1 : Hp} {l m : Addr} {xs ys : List RV} {vs ws : List V} (t1 : SqT K H1 l vs) (t2 : SqT K H1 m ws) (r1 : Reps K H1 xs vs) (r2 : Reps K H1 ys ws) (he : xs.length = ys.length) : ItOf K (Itz K l m) ((xs.zip ys).map fun p => .tup [p.1, p.2]) H1 where
  turn := fun i H e x hx => by
    rw [List.getElem?_map] at hx
    cases hz : (xs.zip ys)[i]? with
    | none => rw [hz] at hx; cases hx
    | some p =>
      rw [hz] at hx
      have hx' : RV.tup [p.1, p.2] = x := by simpa using hx
      subst hx'
      rw [List.getElem?_zip_eq_some] at hz
      obtain ⟨v, hv, rv⟩ := r1.get hz.1
      obtain ⟨w, hw, rw_⟩ := r2.get hz.2
      refine ⟨⟨vs, ws, v, w, SqT.ext e t1, SqT.ext e t2, hv, hw⟩, fun u H' y => ?_⟩
      obtain ⟨q, v', w', rfl, hn, rfl, k1, k2⟩ := y
      have e1 := k1 vs (SqT.ext e t1)
      have e2 := k2 ws (SqT.ext e t2)
      rw [hv] at e1; cases e1
      rw [hw] at e2; cases e2
      refine ⟨Ext.new hn, fun M vw => vw.new hn, ?_⟩
      exact rep_tup hn (Reps.cons (Rep.ext e _ _ rv) (Reps.cons (Rep.ext e _ _ rw_) Reps.nil))
  stop := fun i H e hi => ⟨vs, ws, SqT.ext e t1, SqT.ext e t2, by
    rw [List.length_map, List.length_zip] at hi
    rw [← r1.length]
    omega⟩
theorem izip {tg a b : Expr} {t1 t2 : RTE} {p pos : Pos} (hm : X.mg "zip" = none) (ha : RPE X a t1) (hb : RPE X b t2) (hgl : Gl X "zip" := by rfl) (htg : ∃ elts k q, tg = .Tuple elts k q := by exact ⟨_, _, _, rfl⟩)
    (hst : starEach [a, b] X.env = [(false, eval a X.env), (false, eval b X.env)] := by rfl) (hs2 : starEach [b] X.env = [(false, eval b X.env)] := by rfl)
    (he1 : starEach [a, b] X.env = (false, eval a X.env) :: starEach [b] X.env := by rfl) (he2 : starEach [b] X.env = (false, eval b X.env) :: starEach [] X.env := by rfl) : RPI X tg (.Call (.Name "zip" p) [a, b] [] pos) (rItZ t1 t2) := by
  obtain ⟨elts, kk, qq, rfl⟩ := htg
  intro pins s σ0 H R I h
  obtain ⟨σ, M, Q, hs, hv, ht, hk⟩ := h
  have args : RPA X [a, b] (rCons t1 (rCons t2 rNil)) := acons ha (acons hb anil he2) he1
  refine Call_ (ld_blt I hgl hm boot_zip (PyProof.Rows.callWith_type1 (thn (args pos pins s σ0 H (fun vs H1 => ∃ xs ys M1, Reps X.K H1 [.tup xs, .tup ys] vs ∧ xs.length = ys.length ∧ Q ((xs.zip ys).map fun p => .tup [p.1, p.2]) M1 ∧ Ext H H1 ∧ View X.K H1 M1) I ⟨σ, M, _, hs, hv, ht, fun rs M1 vs H1 q e1 v1 r1 => ?_⟩) fun us s1 q1 => ?_) (by rw [hst, hs2]) (by rw [hs2]; rfl)))
  · unfold zRs at q
    split at q
    · exact ⟨_, _, M1, r1, q.1, q.2, e1, v1⟩
    · exact q.elim
  · obtain ⟨vs, H1, I1, rv, xs, ys, M1, rr, hl, q, e1, v1⟩ := q1
    simp only [Reps, Rep] at rr
    obtain ⟨v, r, rfl, ⟨l, ws, rfl, ht1, hr1⟩, v2, r2, rfl, ⟨m, ws2, rfl, ht2, hr2⟩, rfl⟩ := rr
    obtain ⟨u1, us1, rfl, q1, rv⟩ := Vals.cons_inv rv
    obtain ⟨u2, us2, rfl, q2, rv⟩ := Vals.cons_inv rv
    cases rv
    cases q1; cases q2
    obtain ⟨i1, vv1, p1, z1⟩ := I1.tuple ht1
    obtain ⟨i2, vv2, p2, z2⟩ := I1.tuple ht2
    have l1 : l < s1.heap.objs.size := by obtain ⟨o, e, _⟩ := (show s1.heap.IsTuple l i1.toArray from p1); exact Heap.lt_size e
    have l2 : m < s1.heap.objs.size := by obtain ⟨o, e, _⟩ := (show s1.heap.IsTuple m i2.toArray from p2); exact Heap.lt_size e
    have sA : (zA s1.heap l).objs.size = s1.heap.objs.size + 1 := Heap.size_push ..
    have sB : (zB s1.heap l m).objs.size = s1.heap.objs.size + 2 := by rw [Heap.size_push, sA]
    have sC : (zC s1.heap l m).objs.size = s1.heap.objs.size + 3 := by rw [Heap.size_push, sB]
    have sD : (zD s1.heap l m).objs.size = s1.heap.objs.size + 4 := by rw [Heap.size_push, sC]
    have g1 : (zE s1.heap l m).get? s1.heap.objs.size = some _ := Heap.get?_push_of_some _ (Heap.get?_push_of_some _ (Heap.get?_push_of_some _ (Heap.get?_push_of_some _ (Heap.get?_push_size _ rfl))))
    have g2 : (zE s1.heap l m).get? (zA s1.heap l).objs.size = some _ := Heap.get?_push_of_some _ (Heap.get?_push_of_some _ (Heap.get?_push_of_some _ (Heap.get?_push_size _ rfl)))
    have g3 : (zE s1.heap l m).get? (zB s1.heap l m).objs.size = some _ := Heap.get?_push_of_some _ (Heap.get?_push_of_some _ (Heap.get?_push_size _ rfl))
    have g4 : (zE s1.heap l m).get? (zC s1.heap l m).objs.size = some _ := Heap.get?_push_of_some _ (Heap.get?_push_size _ rfl)
    have g5 : (zE s1.heap l m).get? (zD s1.heap l m).objs.size = some _ := Heap.get?_push_size _ rfl
    have old : ∀ b o, s1.heap.get? b = some o → (zE s1.heap l m).get? b = some o := fun b o e => Heap.get?_push_of_some _ (Heap.get?_push_of_some _ (Heap.get?_push_of_some _ (Heap.get?_push_of_some _ (Heap.get?_push_of_some _ e))))
    refine callType_new PySem.F.called_zip (by decide) (PySem.F.typeCall_zip_2 _ _) (PySem.F.newCall_zip_2 _ _) (fun obj => PySem.F.args_object_init_3 obj _ _) PySem.F.entry_zip_new (zip_made l m i1.toArray i2.toArray) ⟨p1, p2, ⟨_, g5, rfl⟩, ?_⟩
    have D : Apart (zD s1.heap l m).objs.size (zB s1.heap l m).objs.size (zC s1.heap l m).objs.size s1.heap.objs.size (zA s1.heap l).objs.size l m := by
      rw [sA, sB, sC, sD]
      refine ⟨by simp, ?_, ?_⟩
      · simp only [List.mem_cons, List.not_mem_nil, or_false, not_or]
        exact ⟨Nat.ne_of_lt (Nat.lt_of_lt_of_le l1 (Nat.le_add_right _ 4)), Nat.ne_of_lt (Nat.lt_of_lt_of_le l1 (Nat.le_add_right _ 3)), Nat.ne_of_lt l1, Nat.ne_of_lt (Nat.lt_of_lt_of_le l1 (Nat.le_add_right _ 1))⟩
      · simp only [List.mem_cons, List.not_mem_nil, or_false, not_or]
        exact ⟨Nat.ne_of_lt (Nat.lt_of_lt_of_le l2 (Nat.le_add_right _ 4)), Nat.ne_of_lt (Nat.lt_of_lt_of_le l2 (Nat.le_add_right _ 3)), Nat.ne_of_lt l2, Nat.ne_of_lt (Nat.lt_of_lt_of_le l2 (Nat.le_add_right _ 1))⟩
    have I2 : Inv X pins σ0 H1 { s1 with heap := zE s1.heap l m } := I1.kept (t' := s1.toks) old
    refine wpAny_pyIter_zip (z := (zD s1.heap l m).objs.size) g5 ⟨(zD s1.heap l m).objs.size, _, _, Itz X.K l m, H1, rfl, I2, turn_zip D, ⟨g5, g3, ⟨_, _, g4⟩, ⟨_, g1, rfl, rfl⟩, ⟨_, g2, rfl, rfl⟩⟩, fun b hb => ?_, hk _ M1 _ H1 q e1 v1 (itz_of ht1 ht2 hr1 hr2 hl)⟩
    have hge : s1.heap.objs.size ≤ b := by
      rw [sA, sB, sC, sD] at hb
      simp only [List.mem_cons, List.not_mem_nil, or_false] at hb
      rcases hb with q | q | q | q | q <;> rw [q] <;> first | exact Nat.le_add_right _ _ | exact Nat.le_refl _
    exact I1.fpOk hge (I1.hok.fresh hge)
end
end R.TT
namespace R.PR
open PySem PySem.Spec PyProof.Rows L2 R
def rCompL (tt : RTT) (te : RTE) (base : List (Option RV)) : List RV → List RV → RM → RVK → Prop
  | [], acc, M, Q => Q (.ls acc) M
  | x :: r, acc, M, Q => ∃ a b, x = .tup [a, b] ∧ tt (some a :: some b :: base) M fun ok M1 => (ok = true → te (some a :: some b :: base) M1 fun v M2 => rCompL tt te base r (acc ++ [v]) M2 Q) ∧ (ok = false → rCompL tt te base r acc M1 Q)
def rComp (ti : RTI) (cap : List Nat) (tt : RTT) (te : RTE) : RTE := fun σ M Q => ti σ M fun xs M1 => xs.length < sizeLine ∧ rCompL tt te (cap.map fun i => (σ[i]?).join) xs [] M1 Q
section
variable {X : Cx}
theorem rcomp {elt iter : Expr} {x x2 : Str} {px px2 : Pos} {tk : Nat} {tp : Pos} {scope : Scope} {pos : Pos} {ti : RTI} {tt : RTT} {te : RTE} {ifs : List Expr} (caps : List (Nat × Str)) {osc : Scope} {oN : List Str}
    (hc : X.calm = true) (hi : RPI X (.Tuple [.Name x px, .Name x2 px2] tk tp) iter ti)
    (hif : ∀ cl C s H fp, RPTs (blk X scope cl C (x :: x2 :: caps.map Prod.snd) s H fp) ifs tt)
    (hel : ∀ cl C s H fp, RPE (blk X scope cl C (x :: x2 :: caps.map Prod.snd) s H fp) elt te)
    (hX : X.env.scope = osc) (hN : X.N = oN)
    (hcaps : ∀ p ∈ caps, oN[p.1]? = some p.2 ∧ scope.names.lookup p.2 = some .free ∧ (osc.names.lookup p.2 = some .cell ∨ osc.names.lookup p.2 = some .free))
    (hfr : ∀ y ∈ scope.names, y.2 = .free → (osc.names.lookup y.1 = some .cell ∨ osc.names.lookup y.1 = some .free))
    (hcell : ∀ y ∈ scope.names, y.2 ≠ .cell) (hkind : scope.kind = .function) (hnames : ∀ y ∈ scope.names, y.2 = .local → scope.names.lookup y.1 = some .local) (hx : scope.names.lookup x = some .local) (hx2 : scope.names.lookup x2 = some .local) (hnd : (x :: x2 :: caps.map Prod.snd).Nodup)
    (hs : ∀ v, foldedSetIterable iter X.env v = pure v := by intro _; rfl) :
    RPE X (.ListComp elt [⟨.Tuple [.Name x px, .Name x2 px2] tk tp, iter, ifs, 0⟩] scope pos) (rComp ti (caps.map Prod.fst) tt te) := by
  subst hX; subst hN
  intro pins s σ0 H Q0 I hw
  obtain ⟨σ, M, Q, hst, hv, ht, hk⟩ := hw
  obtain ⟨cl, hclos, hcl1, hcl2⟩ := closure_ok scope fun y hy hf => I.ok.has y.1 (hfr y hy hf)
  rw [eval_ListComp]
  refine wpAny_comprehension_free (use := none) (cl := cl) rfl hs hclos hkind hnames ?_
  refine wpAny_mono (hi pins s σ0 H (fun J H1 => ∃ xs M1, Ext H H1 ∧ View X.K H1 M1 ∧ ItOf X.K J xs H1 ∧ xs.length < sizeLine ∧ rCompL tt te ((caps.map Prod.fst).map fun i => (σ[i]?).join) xs [] M1 Q) I ⟨σ, M, _, hst, hv, ht, fun xs M' J H' q e w hJ => ⟨xs, M', e, w, hJ, q.1, q.2⟩⟩)
    (fun v s1 h1 => wpAny_mono h1 (fun itv s2 h2 => ?_) fun _ _ e => e) fun _ _ e => e
  obtain ⟨it, fp, tn, J, H2, rfl, I2, T, st2, f2, xs, M1, e2, w2, hJ, hz, hq⟩ := h2
  have flt : ∀ b ∈ fp, b < s2.heap.objs.size := fun b hb => by obtain ⟨o, e, _⟩ := T.obj _ _ st2 b hb; exact Heap.lt_size e
  -- the list and the frame of the block
  refine wpAny_newObj_type (wpAny_newFunctionEnv hcell (by intro y hy; simp at hy) (fun h₁ hns₁ hsb₁ => ?_) hkind)
  dsimp only at hns₁ hsb₁ ⊢
  generalize hH2 : s2.heap.push { cls := .type "list", dict := none, data := .seq ([] : List Value).toArray } = hp2 at hns₁ hsb₁ ⊢
  have hCs : hp2.objs.size = s2.heap.objs.size + 1 := by rw [← hH2, Heap.size_push]
  have hDC : s2.heap.objs.size ≠ hp2.objs.size := by rw [hCs]; exact Nat.ne_of_lt (Nat.lt_succ_self _)
  have hCle : s2.heap.objs.size ≤ hp2.objs.size := by rw [hCs]; exact Nat.le_succ _
  have old : ∀ b o, s2.heap.get? b = some o → h₁.get? b = some o := fun b o e => hsb₁.extBut b o (Nat.ne_of_lt (by rw [hCs]; exact Nat.lt_succ_of_lt (Heap.lt_size e))) (Heap.get?_push_of_some _ (hH2 ▸ Heap.get?_push_of_some _ e))
  have hacc : h₁.get? s2.heap.objs.size = some { cls := .type "list", data := .seq ([] : List Value).toArray } := hsb₁.extBut _ _ hDC (Heap.get?_push_of_some _ (hH2 ▸ Heap.get?_push_size _ rfl))
  generalize hD : s2.heap.objs.size = D at *
  generalize hCg : hp2.objs.size = C at *
  have hDfp : ∀ b ∈ fp, b ≠ D := fun b hb => Nat.ne_of_lt (flt b hb)
  have okB : (blk X scope cl C (x :: x2 :: caps.map Prod.snd) s2 H2 fp).Ok := blk_ok I2 f2 (by rw [hD]; exact flt) hkind (by rw [hD]; exact hCle) hcl1 hcl2 hcell
  have fr : ∀ b, D ≤ b → H2 b = none := fun b hb => I2.hok.fresh (by rw [hD]; exact hb)
  -- the captured values
  have capsV : ∃ cv : List (Option V), cv.length = caps.length ∧ (∀ (j : Nat) v, cv[j]? = some (some v) → ∃ p, caps[j]? = some p ∧ σ0[p.1]? = some (some v)) ∧
      ∀ (j : Nat) r, ((caps.map Prod.fst).map fun i => (σ[i]?).join)[j]? = some (some r) → ∃ v, cv[j]? = some (some v) ∧ Rep X.K H2 r v := by
    refine ⟨caps.map fun p => (σ0[p.1]?).join, by simp, fun j v e => ?_, fun j r e => ?_⟩
    · rw [List.getElem?_map] at e
      cases q : caps[j]? with
      | none => rw [q] at e; cases e
      | some p =>
        rw [q] at e
        have e' : (σ0[p.1]?).join = some v := Option.some.inj e
        refine ⟨p, rfl, ?_⟩
        cases z : σ0[p.1]? with
        | none => rw [z] at e'; cases e'
        | some o => rw [z] at e'; have : o = some v := e'; rw [this]
    · rw [List.getElem?_map, List.getElem?_map] at e
      cases q : caps[j]? with
      | none => rw [q] at e; cases e
      | some p =>
        rw [q] at e
        have e' : (σ[p.1]?).join = some r := Option.some.inj e
        have e'' : σ[p.1]? = some (some r) := by
          cases z : σ[p.1]? with
          | none => rw [z] at e'; cases e'
          | some o => rw [z] at e'; have : o = some r := e'; rw [this]
        obtain ⟨v, h1, h2⟩ := hst.2 p.1 r e''
        refine ⟨v, ?_, Rep.ext e2 r v h2⟩
        rw [List.getElem?_map, q]
        show some ((σ0[p.1]?).join) = _
        rw [h1]; rfl
  obtain ⟨cv, cvl, cv1, cv2⟩ := capsV
  -- the block's state at its start
  have I3 : Inv (blk X scope cl C (x :: x2 :: caps.map Prod.snd) s2 H2 fp) [(D, { cls := .type "list", data := .seq ([] : List Value).toArray })] (none :: none :: cv) H2 { s2 with heap := h₁, toks := s2.toks + ([] : List (Str × Value)).length } := by
    refine ⟨okB, rfl, I2.bare, Un.kept old, ⟨_, hns₁, fun i y v a b c => ?_⟩, fun y c e => ?_, fr C hCle, fun y c e => I2.freeC y c (hcl1 y c e), fun p hp => ?_, I2.hok.kept old, ?_⟩
    · match i, a, b with
      | 0, a, b => cases b
      | 1, a, b => cases b
      | j + 2, a, b =>
        obtain ⟨p, q1, q2⟩ := cv1 j v b
        have hy : p.2 = y := by
          have a' : (caps.map Prod.snd)[j]? = some y := a
          rw [List.getElem?_map, q1] at a'
          exact Option.some.inj a'
        subst hy
        obtain ⟨z1, z2, z3⟩ := hcaps p (List.mem_of_getElem? q1)
        obtain ⟨m, hn, hl⟩ := I2.loc
        have vis : Vis X.env.scope p.2 := by rcases z3 with z | z; exact .inr (.inl z); exact .inr (.inr z)
        obtain ⟨u, ru, lk⟩ := hl p.1 p.2 v z1 q2 vis
        refine ⟨u, ru, .inr ⟨relabel_free z2, ?_⟩⟩
        obtain ⟨c, ec⟩ := hcl2 (p.2, .free) (PySem.mem_of_lookup z2) rfl
        have ec' := hcl1 p.2 c ec
        rcases lk with ⟨k, _⟩ | ⟨_, c', e', ic⟩
        · have k' : X.env.scope.names.lookup p.2 = some .local := k
          rcases z3 with z | z <;> (rw [z] at k'; cases k')
        · rw [ec'] at e'; cases e'
          obtain ⟨o, ho, hd⟩ := ic
          exact ⟨c, ec, o, old c o ho, hd⟩
    · obtain ⟨v, o, ho, hd⟩ := I2.cell y c (hcl1 y c e)
      exact ⟨v, o, old c o ho, hd⟩
    · have hp' : p = (D, { cls := .type "list", data := .seq ([] : List Value).toArray }) := by simpa [blk] using hp
      subst hp'
      refine ⟨hacc, fr D (Nat.le_refl _), hDC, fun z => ?_, fun v => by simp⟩
      have := I2.stkFree D z
      rcases List.mem_cons.mp (I2.stkSub D z) with e | e
      · exact absurd I2.lt (by rw [← e, hD]; exact Nat.lt_irrefl _)
      · exact I2.nofs (by rw [hD]; exact Nat.le_refl _) e
    · show (none :: none :: cv).length = (x :: x2 :: caps.map Prod.snd).length
      simp [cvl]
  -- the loop
  have W : ∀ s3 : Shared, s3 = { s2 with heap := h₁, toks := s2.toks + ([] : List (Str × Value)).length } → codeAny (model X.prog X.w) X.A (.compLoop (.ListComp elt [⟨.Tuple [.Name x px, .Name x2 px2] tk tp, iter, ifs, 0⟩] scope pos) 0 (.ref it) (.ref D) (compEnvC scope cl C X.env))
      (compPost (model X.prog X.w) X.A X.xe none (EP X pins σ0 Q0) (.ref D) C) s3 := by
    rintro s3 rfl
    refine comp_loop (fun n s' => ∃ (i : Nat) (v0 v1 : Option V) (H' : Hp) (M' : RM) (accR : List RV) (accV : List V) (its : List Value) (k : Nat), n = xs.length - i ∧ i ≤ xs.length ∧ accR.length ≤ i ∧
        Inv (blk X scope cl C (x :: x2 :: caps.map Prod.snd) s2 H2 fp) [(D, { cls := .type "list", data := .seq its.toArray k })] (v0 :: v1 :: cv) H' s' ∧ View X.K H' M' ∧ Ext H2 H' ∧ Reps X.K H' accR accV ∧ Vals accV its ∧ tn i s'.heap ∧ (∀ b ∈ fp, H' b = none) ∧
        rCompL tt te ((caps.map Prod.fst).map fun i => (σ[i]?).join) (xs.drop i) accR M' Q) ?_ xs.length ⟨0, none, none, H2, M1, [], [], [], 0, rfl, Nat.zero_le _, Nat.le_refl _, I3, w2, .refl _, Reps.nil, .nil, T.keep _ _ _ st2 fun b _ o e => old b o e, fun b hb => (f2 b hb).1, by simpa using hq⟩
    rintro n s' ⟨i, v0, v1, H', M', accR, accV, its, k, rfl, hi, hal, I4, w4, e4, ra, rl, st4, f4, hq4⟩
    have fpB : ∀ (pins' : List (Addr × Obj)) (H'' : Hp), (∀ b ∈ fp, H'' b = none) → (∀ p ∈ pins', ∀ b ∈ fp, p.1 ≠ b) → ∀ b ∈ fp, FpOk (blk X scope cl C (x :: x2 :: caps.map Prod.snd) s2 H2 fp) pins' H'' b := fun pins' H'' h1 h2 b hb =>
      ⟨h1 b hb, (okB.exf b hb).1, okB.exfs b hb, .inl hb, (okB.exf b hb).2, fun p hp => h2 p (by simpa [blk] using hp) b hb⟩
    have pD : ∀ (o : Obj), ∀ p ∈ [(D, o)], ∀ b ∈ fp, p.1 ≠ b := fun o p hp b hb => by
      have : p = (D, o) := by simpa using hp
      subst this
      exact (hDfp b hb).symm
    by_cases hlt : i < xs.length
    · obtain ⟨hgo, hy⟩ := hJ.turn i H' e4 xs[i] (by simp)
      refine thn (T.item (blk X scope cl C (x :: x2 :: caps.map Prod.snd) s2 H2 fp) rfl rfl rfl hc i _ s' _ H' Nv I4 (fpB _ _ f4 (pD _)) st4 hgo) fun r s5 ⟨u, hr, h5⟩ => .inr ⟨u, hr, ?_⟩
      refine thn h5 fun _ s6 ⟨xv, H6, I6, r6, y6, st6, f6⟩ => ?_
      obtain ⟨e6, w6, rr6⟩ := hy xv H6 y6
      have I6' := I6.pinned (fpB _ _ f6 (pD _)) (T.obj _ _ st6)
      have ed : xs.drop i = xs[i] :: xs.drop (i + 1) := by simp
      rw [ed] at hq4
      obtain ⟨qa, qb, exi, hq4⟩ := hq4
      rw [exi] at rr6
      simp only [Rep] at rr6
      obtain ⟨pa, pvs, rfl, sq6, rp6⟩ := rr6
      obtain ⟨va, vr, rfl, ra6, rp6⟩ := rp6
      obtain ⟨vb, vr2, rfl, rb6, rp6⟩ := rp6
      have : vr2 = [] := rp6
      subst this
      have lcl : ∀ {z : Str}, scope.names.lookup z = some .local → Loc (blk X scope cl C (x :: x2 :: caps.map Prod.snd) s2 H2 fp).env.scope z := fun e => .inl (lookup_relabel_local e)
      have pg : PG (blk X scope cl C (x :: x2 :: caps.map Prod.snd) s2 H2 fp) (.Tuple [.Name x px, .Name x2 px2] tk tp) (gTup X.K 2 (gCons (gName 0) (gCons (gName 1) gNil))) :=
        pg_tup (n := 2) hc (pgs_cons (pg_name (i := 0) hnd rfl (lcl hx) (.inr (lookup_relabel_local hx))) (pgs_cons (pg_name (i := 1) hnd rfl (lcl hx2) (.inr (lookup_relabel_local hx2))) pgs_nil))
      refine thn (pg _ s6 _ H6 _ u (fun σ' H' => σ' = (some va :: some vb :: cv) ∧ H' = H6) I6' r6 ⟨pa, [va, vb], rfl, sq6, rfl, va, [vb], rfl, vb, [], rfl, rfl, rfl, rfl⟩) fun _ s7 ⟨σ7, H7, I7, q7, q7'⟩ => ?_
      obtain rfl := q7
      subst q7'
      have base : ∀ {Hx : Hp}, Ext H7 Hx → RepSt X.K Hx (some qa :: some qb :: (caps.map Prod.fst).map fun i => (σ[i]?).join) (some va :: some vb :: cv) := fun {Hx} ex => by
        refine ⟨by simp [cvl], fun j r e => ?_⟩
        match j, e with
        | 0, e =>
          have e' : qa = r := by simpa using e
          subst e'
          exact ⟨va, rfl, Rep.ext ex _ _ ra6⟩
        | 1, e =>
          have e' : qb = r := by simpa using e
          subst e'
          exact ⟨vb, rfl, Rep.ext ex _ _ rb6⟩
        | j + 2, e =>
          obtain ⟨v, a, b⟩ := cv2 j r (by simpa using e)
          exact ⟨v, by simpa using a, Rep.ext (e4.trans (e6.trans ex)) r v b⟩
      have next : ∀ (M8 : RM) (H8 : Hp) (s8 : Shared) (accR' : List RV) (accV' : List V) (its' : List Value) (k' : Nat), accR'.length ≤ i + 1 →
          Inv (blk X scope cl C (x :: x2 :: caps.map Prod.snd) s2 H2 fp) ([(D, { cls := .type "list", data := .seq its'.toArray k' })] ++ pinsAt fp s6.heap) (some va :: some vb :: cv) H8 s8 → View X.K H8 M8 → Ext H7 H8 → Reps X.K H8 accR' accV' → Vals accV' its' →
          rCompL tt te ((caps.map Prod.fst).map fun i => (σ[i]?).join) (xs.drop (i + 1)) accR' M8 Q → ∃ m, m < xs.length - i ∧ ∃ (i : Nat) (v0 v1 : Option V) (H' : Hp) (M' : RM) (accR : List RV) (accV : List V) (its : List Value) (k : Nat), m = xs.length - i ∧ i ≤ xs.length ∧ accR.length ≤ i ∧
        Inv (blk X scope cl C (x :: x2 :: caps.map Prod.snd) s2 H2 fp) [(D, { cls := .type "list", data := .seq its.toArray k })] (v0 :: v1 :: cv) H' s8 ∧ View X.K H' M' ∧ Ext H2 H' ∧ Reps X.K H' accR accV ∧ Vals accV its ∧ tn i s8.heap ∧ (∀ b ∈ fp, H' b = none) ∧
        rCompL tt te ((caps.map Prod.fst).map fun i => (σ[i]?).join) (xs.drop i) accR M' Q := by
        intro M8 H8 s8 accR' accV' its' k' hl' I8 w8 e8 ra' rl' hq8
        have keep8 : ∀ b ∈ fp, ∀ o, s6.heap.get? b = some o → s8.heap.get? b = some o ∧ H8 b = none := fun b hb o e => by
          have := I8.pin (b, o) (List.mem_append_right _ (List.mem_append_right _ (mem_pinsAt hb e)))
          exact ⟨this.1, this.2.1⟩
        refine ⟨xs.length - (i + 1), by omega, i + 1, some va, some vb, H8, M8, accR', accV', its', k', rfl, hlt, hl', I8.unpinned, w8, e4.trans (e6.trans e8), ra', rl', T.keep _ _ _ st6 fun b hb o e => (keep8 b hb o e).1, fun b hb => ?_, hq8⟩
        obtain ⟨o, e, _⟩ := T.obj _ _ st6 b hb
        exact (keep8 b hb o e).2
      refine thn (hif cl C s2 H2 fp _ s7 _ H7 (fun ok H8 => ∃ M8, View X.K H8 M8 ∧ Ext H7 H8 ∧ (ok = true → te (some qa :: some qb :: (caps.map Prod.fst).map fun i => (σ[i]?).join) M8 fun v M2 => rCompL tt te ((caps.map Prod.fst).map fun i => (σ[i]?).join) (xs.drop (i + 1)) (accR ++ [v]) M2 Q) ∧
        (ok = false → rCompL tt te ((caps.map Prod.fst).map fun i => (σ[i]?).join) (xs.drop (i + 1)) accR M8 Q)) I7 ⟨_, M', _, base (.refl _), w6 M' w4, hq4, fun b M8 H8 q e w => ⟨M8, w, e, q.1, q.2⟩⟩) fun ok s8 ⟨H8, I8, M8, w8, e8, qt, qf⟩ => ?_
      cases ok with
      | false =>
        exact next M8 H8 s8 accR accV its k (by omega) I8 w8 e8 (Reps.ext (e6.trans e8) _ _ ra) rl (qf rfl)
      | true =>
        refine thn (hel cl C s2 H2 fp _ s8 _ H8 (fun v H9 => ∃ rv M9, View X.K H9 M9 ∧ Ext H8 H9 ∧ Rep X.K H9 rv v ∧ rCompL tt te ((caps.map Prod.fst).map fun i => (σ[i]?).join) (xs.drop (i + 1)) (accR ++ [rv]) M9 Q) I8 ⟨_, M8, _, base e8, w8, qt rfl, fun rv M9 v H9 q e w r => ⟨rv, M9, w, e, r, q⟩⟩) fun y s9 ⟨yv, H9, I9, r9, rv, M9, w9, e9, rr9, hq9⟩ => ?_
        have pD9 := I9.pin (D, { cls := .type "list", data := .seq its.toArray k }) (List.mem_append_right _ (List.mem_append_left _ List.mem_cons_self))
        have hlen : its.length ≤ i := by rw [← rl.length, ← ra.length]; exact hal
        refine call_meets F.slot_list_append ⟨_, pD9.1, rfl⟩ F.entry_list_append (F.args_list_append_2 _ _) (PySem.list_append D its.toArray k y (by rw [List.size_toArray]; omega)) ⟨pD9.1, ?_⟩
        have q := PySem.IsL.update pD9.1 (fun x_1 => x_1.push y)
        have hpush : its.toArray.push y = (its ++ [y]).toArray := by simp
        rw [hpush] at q
        obtain ⟨k', q⟩ : ∃ k', (s9.heap.update D (Obj.mapSeq fun x_1 => x_1.push y)).get? D = some { cls := .type "list", data := .seq (its ++ [y]).toArray k' } := ⟨_, q⟩
        have I10 : Inv (blk X scope cl C (x :: x2 :: caps.map Prod.snd) s2 H2 fp) (pinsAt fp s6.heap) (some va :: some vb :: cv) H9 { s9 with heap := s9.heap.update D (Obj.mapSeq fun x_1 => x_1.push y), toks := s9.toks } := by
          refine Inv.turned (it := D) (I9.pins_of fun p hp => I9.pin p (List.mem_append_right _ (List.mem_append_right _ hp))) (fun b o hb e => (Heap.get?_update_other _ _ (Ne.symm hb)).trans e) pD9.2.1 pD9.2.2.1 (.inr (by show s2.heap.objs.size ≤ D; rw [hD]; exact Nat.le_refl _)) (fun z c e => ?_) fun p hp => ?_
          · obtain ⟨v, o, ho, hd⟩ := I2.cell z c (hcl1 z c e)
            exact Nat.ne_of_lt (by have := Heap.lt_size ho; rw [hD] at this; exact this)
          · have hp' : p ∈ pinsAt fp s6.heap := by simpa [blk] using hp
            exact hDfp p.1 (of_pinsAt hp').1
        have I11 : Inv (blk X scope cl C (x :: x2 :: caps.map Prod.snd) s2 H2 fp) ([(D, { cls := .type "list", data := .seq (its ++ [y]).toArray k' })] ++ pinsAt fp s6.heap) (some va :: some vb :: cv) H9 { s9 with heap := s9.heap.update D (Obj.mapSeq fun x_1 => x_1.push y), toks := s9.toks } := by
          refine I10.pins_of fun p hp => ?_
          rcases List.mem_append.mp hp with hp | hp
          · have : p = (D, { cls := .type "list", data := .seq (its ++ [y]).toArray k' }) := by simpa using hp
            subst this
            exact ⟨q, pD9.2.1, pD9.2.2.1, pD9.2.2.2.1, fun v => by simp⟩
          · exact I10.pin p (List.mem_append_right _ hp)
        exact next M9 H9 _ (accR ++ [rv]) (accV ++ [yv]) (its ++ [y]) k' (by rw [List.length_append, List.length_singleton]; omega) I11 w9 (e8.trans e9) ((Reps.ext (e6.trans (e8.trans e9)) _ _ ra).append (Reps.cons rr9 Reps.nil)) (rl.append (.cons r9 .nil)) hq9
    · have ei : i = xs.length := by omega
      subst ei
      refine thn (T.done (blk X scope cl C (x :: x2 :: caps.map Prod.snd) s2 H2 fp) rfl rfl rfl hc _ _ s' _ H' Nv I4 (fpB _ _ f4 (pD _)) st4 (hJ.stop _ H' e4 (Nat.le_refl _))) fun r s5 ⟨hr, I5⟩ => .inl ⟨hr, ?_⟩
      rw [List.drop_length] at hq4
      obtain ⟨m5, hn5, _⟩ := I5.loc
      refine ⟨m5, hn5, fun h' sb => ?_⟩
      have pD5 := I5.pin (D, { cls := .type "list", data := .seq its.toArray k }) (List.mem_append_right _ List.mem_cons_self)
      have hDh : h'.get? D = some { cls := .type "list", data := .seq its.toArray k } := sb.extBut _ _ hDC pD5.1
      have hC5 : H' C = none := I5.free
      have hz' : accV.length ≤ sizeLine := by rw [← ra.length]; omega
      have hok5 : HOk X.prog X.w (upd H' D (.frz { cls := .type "list", data := .seq its.toArray k } (.lst accV))) h' := fun b u q => by
        by_cases hb : b = D
        · subst hb; rw [upd_same] at q; cases q
          exact ⟨hDh, hz', its, k, rl, hDh⟩
        · rw [upd_ne hb] at q
          refine (I5.hok b u q).stay (fun c v hcb e => sb.extBut c v ?_ e) (fun c e => ?_) fun c ys e => ?_
          · rcases hcb with rfl | e'
            · exact ne_of_none q hC5
            · exact ne_of_none e' hC5
          · rw [upd_ne (ne_of_none e pD5.2.1)]; exact e
          · rw [upd_ne (ne_of_none e pD5.2.1)]; exact e
      have un5 : Un (frs X.stack) fp H2 (upd H' D (.frz { cls := .type "list", data := .seq its.toArray k } (.lst accV))) s2.heap h' := by
        have B : Un (frs X.stack) fp H2 H' s2.heap s5.heap := I5.base
        have nC : ∀ b o, s2.heap.get? b = some o → b ≠ C := fun b o e => Nat.ne_of_lt (Nat.lt_of_lt_of_le (Heap.lt_size e) (by rw [hD]; exact hCle))
        have nD : ∀ b o, s2.heap.get? b = some o → b ≠ D := fun b o e => Nat.ne_of_lt (by have := Heap.lt_size e; rw [hD] at this; exact this)
        refine ⟨fun b o a1 a2 a3 a4 => sb.extBut b o (nC b o a1) (B.keep b o a1 a2 a3 a4), fun b o a1 a2 a3 a4 => ?_, fun b o a1 a2 a4 => ?_, fun b o a1 a4 => ?_, fun b ys a => ?_, fun b o u a => ?_, fun b ps a => ?_⟩
        · obtain ⟨sl, e⟩ := B.slot b o a1 a2 a3 a4
          exact ⟨sl, sb.extBut b _ (nC b o a1) e⟩
        · rw [upd_ne (nD b o a1)]; exact B.free b o a1 a2 a4
        · obtain ⟨o', e⟩ := B.there b o a1 a4
          exact ⟨o', sb.extBut b o' (nC b o a1) e⟩
        · have e := B.tups b ys a; rw [upd_ne (ne_of_none e pD5.2.1)]; exact e
        · have e := B.frzs b o u a; rw [upd_ne (ne_of_none e pD5.2.1)]; exact e
        · obtain ⟨more, e⟩ := B.tbls b ps a; exact ⟨more, by rw [upd_ne (ne_of_none e pD5.2.1)]; exact e⟩
      have I6 : Inv X pins σ0 (upd H' D (.frz { cls := .type "list", data := .seq its.toArray k } (.lst accV))) { s5 with heap := h' } := I2.call' (ch := fp) I5.os un5 hok5 I5.bare fun b hb => ⟨(f2 b hb).2.2.2.1, (f2 b hb).2.1, (f2 b hb).2.2.2.2.1, (f2 b hb).2.2.2.2.2⟩
      refine ⟨.ref D, _, I6, rfl, hk _ M' _ _ hq4 ((e2.trans e4).trans (Ext.new pD5.2.1)) (w4.new pD5.2.1) (rep_ls pD5.2.1 ra)⟩
  exact codeAny_compStart_list (W _ rfl) (T.self X.A 0 _ _ _ (T.keep _ _ _ st2 fun b _ o e => old b o e) (W _ rfl))
end
end R.PR
namespace R
open PySem PySem.Spec PyProof.Rows L2
section
variable {X : Cx}
def kFmt (x : Str) (Q : RVK) : RVK := fun v M1 => match v with
  | .int i => 0 ≤ i ∧ i < 10000000000 ∧ x.length ≤ 1000 ∧ Q (.str (x ++ numS i)) M1
  | _ => False
def rFmt (x : Str) (te : RTE) : RTE := fun σ M Q => te σ M (kFmt x Q)
theorem num_len {i : Int} (h0 : 0 ≤ i) (h1 : i < 10000000000) : (numS i).length ≤ 10 := PySem.W.KT.len_num h0 (by omega)
theorem nil_app (d : Str) : Str.empty ++ d = d := PySem.W.KT.empty_app d
theorem rfmt {x : Str} {e : Expr} {te : RTE} {j : Nat} {p1 p2 pos : Pos} (he : RPE X e te) (hx : x.length ≤ 1000 := by decide +kernel) : RPE X (.JoinedStr [.Constant (.str x) j p1, .FormattedValue e (-1) none p2] pos) (rFmt x te) := by
  intro pins s σ0 H Q0 I h
  obtain ⟨σ, M, Q, hs, hv, ht, hk⟩ := h
  · have hx' : (Str.empty ++ x).length ≤ sizeLine := by rw [nil_app]; exact Nat.le_trans hx (by decide)
    refine JoinedStr_many (joinParts_cons (Calls.Constant_str ⟨hx', joinParts_cons (FormattedValue_plain ?_)⟩))
    refine thn (he pins _ σ0 H (fun v H1 => ∃ r M1, Rep X.K H1 r v ∧ Ext H H1 ∧ View X.K H1 M1 ∧ kFmt x Q r M1) (I.tok _) ⟨σ, M, _, hs, hv, ht, fun r M1 v H1 q e w r1 => ⟨r, M1, r1, e, w, q⟩⟩) fun iv s2 ⟨y, H2, I2, ry, r, M2, rr, e2, w2, q2⟩ => ?_
    cases r with
    | int i =>
      obtain ⟨h0, h1, _, q2⟩ := q2
      simp only [Rep] at rr
      subst rr
      obtain ⟨t, rfl⟩ := ry
      have hl := num_len h0 h1
      have hz : ((Str.empty ++ x) ++ numS i).length ≤ sizeLine := by
        rw [nil_app, Str.length_append]
        exact Nat.le_trans (show x.length + (numS i).length ≤ 2000 by omega) (by decide)
      refine wpAny_formatField_int (log_small h0 h1) ?_
      refine ⟨hz, joinParts_nil ?_ hz⟩
      rw [nil_app]
      exact ⟨.str _, H2, (I2.tok _).tok _, ⟨_, rfl⟩, hk _ M2 _ H2 q2 e2 w2 (by simp only [Rep])⟩
    | _ => exact (show False from q2).elim
def kTestS (Q : Bool → RM → Prop) : RVK := fun v M' => match v with | .str z => z.length ≤ sizeLine ∧ Q ((z.length : Int) != 0) M' | _ => False
def rTestS (t : RTE) : RTT := fun σ M Q => t σ M (kTestS Q)
theorem rtvalS {e : Expr} {t : RTE} (h : RPE X e t) (he : ∀ whole, isTrue e X.env whole = (do let v ← whole; standAt e.pos; holding [v] (truthy v)) := by intro _; rfl) : RPT X e (rTestS t) :=
  PT.imp (pt_truth h he) fun σ0 H Q0 h => by
    obtain ⟨σ, M, Q, hs, hv, ht, hk⟩ := h
    refine ⟨σ, M, _, hs, hv, ht, fun r M1 x H1 q e1 v1 r1 => ?_⟩
    cases r with
    | str z =>
      simp only [Rep] at r1
      subst r1
      exact ⟨_, ⟨q.1, rfl⟩, hk _ M1 H1 q.2 e1 v1⟩
    | _ => exact (show False from q).elim
def StrC (mg : Str → Option Value) (x : Str) (z : Str) : Prop := ∃ t, mg x = some (.str z t)
theorem rgs {x z : Str} {pos : Pos} (h : StrC X.mg x z) (hg : Gl X x := by rfl) (hd : (x == ("__debug__" : Str)) = false := by decide) : RPE X (.Name x pos) (rC (.str z)) := by
  obtain ⟨t, hm⟩ := h
  exact rglob hm (v := .str z) ⟨t, rfl⟩ (fun H => by simp only [Rep]) hg hd
def spNever : RSp := fun _ _ _ => False
theorem never_ok {P : Program} {w : World} {K : PySem.W.Frag} {mg : Str → Option Value} {base : Heap} {k : Nat} {f : Addr} {fd : FuncData} {ps : List Str} : FnOk P w K mg base CX0 k f fd ps (upSp K spNever) :=
  ⟨fun vs H Q E h => by obtain ⟨_, _, _, _, _, h, _⟩ := h; exact (show False from h).elim, fun A outer s H args us vs Q E hr he hb hv h => by obtain ⟨_, _, _, _, _, h, _⟩ := h; exact (show False from h).elim⟩
theorem rcompP {elt iter : Expr} {x x2 : Str} {px px2 : Pos} {tk : Nat} {tp pos : Pos} {scope : Scope} {ti : RTI} {tt : RTT} {te : RTE} {ifs : List Expr} (caps : List (Nat × Str)) {osc : Scope} {oN : List Str}
    (hc : X.calm = true) (hi : RPI X (.Tuple [.Name x px, .Name x2 px2] tk tp) iter ti)
    (hif : ∀ cl C s H fp, VisB (blk X scope cl C (x :: x2 :: caps.map Prod.snd) s H fp) → RPTs (blk X scope cl C (x :: x2 :: caps.map Prod.snd) s H fp) ifs tt)
    (hel : ∀ cl C s H fp, VisB (blk X scope cl C (x :: x2 :: caps.map Prod.snd) s H fp) → RPE (blk X scope cl C (x :: x2 :: caps.map Prod.snd) s H fp) elt te)
    (hX : X.env.scope = osc) (hN : X.N = oN)
    (hcaps : ∀ p ∈ caps, oN[p.1]? = some p.2 ∧ scope.names.lookup p.2 = some .free ∧ (osc.names.lookup p.2 = some .cell ∨ osc.names.lookup p.2 = some .free))
    (hfr : ∀ y ∈ scope.names, y.2 = .free → (osc.names.lookup y.1 = some .cell ∨ osc.names.lookup y.1 = some .free))
    (hcell : ∀ y ∈ scope.names, y.2 ≠ .cell) (hkind : scope.kind = .function) (hnames : ∀ y ∈ scope.names, y.2 = .local → scope.names.lookup y.1 = some .local) (hx : scope.names.lookup x = some .local ∧ scope.names.lookup x2 = some .local) (hnd : (x :: x2 :: caps.map Prod.snd).Nodup)
    (hdb : ∀ y ∈ x :: x2 :: caps.map Prod.snd, (y == ("__debug__" : Str)) = false ∧ (y == ("__classdict__" : Str)) = false)
    (hs : ∀ v, foldedSetIterable iter X.env v = pure v := by intro _; rfl) :
    RPE X (.ListComp elt [⟨.Tuple [.Name x px, .Name x2 px2] tk tp, iter, ifs, 0⟩] scope pos) (PR.rComp ti (caps.map Prod.fst) tt te) := by
  have vb : ∀ cl C s H fp, VisB (blk X scope cl C (x :: x2 :: caps.map Prod.snd) s H fp) := fun cl C s H fp => ⟨fun y hy => by
    rcases List.mem_cons.mp hy with rfl | hy
    · exact .inl (lookup_relabel_local hx.1)
    · rcases List.mem_cons.mp hy with rfl | hy
      · exact .inl (lookup_relabel_local hx.2)
      · obtain ⟨p, hp, rfl⟩ := List.mem_map.mp hy
        exact .inr (relabel_free (hcaps p hp).2.1), hdb⟩
  exact PR.rcomp caps hc hi (fun cl C s H fp => hif cl C s H fp (vb cl C s H fp)) (fun cl C s H fp => hel cl C s H fp (vb cl C s H fp)) hX hN hcaps hfr hcell hkind hnames hx.1 hx.2 hnd hs
end
section
variable {σ : RSt} {M : RM} {Q : RVK} {ta : RTE} {tr : RTA} {tA : RTT}
theorem do_strI {i : Int} (h0 : 0 ≤ i) (h1 : i < 10000000000) (h : Q (.str (numS i)) M) : rStrC [.int i] M Q := ⟨h0, h1, h⟩
theorem do_strS {x : Str} (h : Q (.str x) M) : rStrC [.str x] M Q := h
theorem do_intS {x : Str} {n : Int} (e : PySem.intText? x = some n) (hl : x.length ≤ 640) (h : Q (.int n) M) : rIntC [.str x] M Q := ⟨n, e, hl, h⟩
theorem do_inS {i j : Str} (h : Q (.bl (!(Builtin.Str.occurrences j i 0 j.length 1).isEmpty)) M) : rInS (.str i) (.str j) M Q := h
theorem do_split (h : ta σ M (kSplit tr σ Q)) : rSplit ta tr σ M Q := h
theorem do_ksplit {z : Str} (h : tr σ M fun rs M2 => ∃ y, rs = [.str y] ∧ (y.length == 0) = false ∧ z.length + 2 ≤ sizeLine ∧ Q (.ls ((Txt.split z y).map RV.str)) M2) : kSplit tr σ Q (.str z) M := h
theorem do_par (h : ta σ M (kPar tr σ Q)) : rPar ta tr σ M Q := h
theorem do_kpar {z : Str} (h : tr σ M fun rs M2 => ∃ y, rs = [.str y] ∧ (y.length == 0) = false ∧ z.length ≤ sizeLine ∧ Q (.tup [.str (Txt.partition z y).1, .str (Txt.partition z y).2.1, .str (Txt.partition z y).2.2]) M2) : kPar tr σ Q (.str z) M := h
theorem do_fmt {x : Str} (h : ta σ M (kFmt x Q)) : rFmt x ta σ M Q := h
theorem do_kfmt {x : Str} {i : Int} (h0 : 0 ≤ i) (h1 : i < 10000000000) (hx : x.length ≤ 1000) (h : Q (.str (x ++ numS i)) M) : kFmt x Q (.int i) M := ⟨h0, h1, hx, h⟩
theorem do_testS {K : Bool → RM → Prop} (h : ta σ M (kTestS K)) : rTestS ta σ M K := h
theorem do_ktestS {K : Bool → RM → Prop} {z : Str} (hz : z.length ≤ sizeLine) (h : K ((z.length : Int) != 0) M) : kTestS K (.str z) M := ⟨hz, h⟩
theorem do_compP {ti : RTI} {cap : List Nat} (h : ti σ M fun xs M1 => xs.length < sizeLine ∧ PR.rCompL tA ta (cap.map fun i => (σ[i]?).join) xs [] M1 Q) : PR.rComp ti cap tA ta σ M Q := h
theorem do_itT {t1 t2 : RTE} {K : List RV → RM → Prop} (h : t1 σ M fun x M1 => t2 σ M1 (TT.kItZ K x)) : TT.rItZ t1 t2 σ M K := h
theorem compP_map {te : RTE} {base : List (Option RV)} {f : RV → RV → RV} : ∀ (xs : List (RV × RV)) (acc : List RV), (∀ p ∈ xs, ∀ Q' : RVK, Q' (f p.1 p.2) M → te (some p.1 :: some p.2 :: base) M Q') → Q (.ls (acc ++ xs.map fun p => f p.1 p.2)) M →
    PR.rCompL rYes te base (xs.map fun p => RV.tup [p.1, p.2]) acc M Q
  | [], acc, _, h => by simpa [PR.rCompL] using h
  | p :: xs, acc, hs, h => ⟨p.1, p.2, rfl, fun _ => hs p List.mem_cons_self _ (compP_map xs (acc ++ [f p.1 p.2]) (fun y hy => hs y (List.mem_cons_of_mem _ hy)) (by simpa using h)), fun z => (by cases z)⟩
end
end R
namespace R
open PySem PySem.Spec PyProof.Rows L2
section
variable {X : Cx}
def rAddR : RR2 := fun x y M Q => match x, y with
  | .ref a, .ls ys => ∃ xs, M a = some (.lst xs) ∧ xs.length + ys.length ≤ sizeLine ∧ Q (.ls (xs ++ ys)) M
  | _, _ => False
theorem oaddR : ROp X (binaryOp .Add) rAddR := by
  intro pins s σ H x y v u Q0 I rx ry h
  obtain ⟨a, b, M, Q, ra, rb, hv, hq, hk⟩ := h
  cases a with
  | ref p =>
    cases b with
    | ls ys =>
      obtain ⟨xs, hm, hz, hq⟩ := hq
      simp only [Rep] at ra rb
      subst ra
      obtain ⟨q, ws, rfl, hp2, hr2⟩ := rb
      obtain ⟨ho', e0, r0⟩ := hv p _ hm
      obtain ⟨vs, rfl, hr⟩ := r0
      cases rx; cases ry
      obtain ⟨its, r1, p1, z1⟩ := I.list (SqL.of e0)
      obtain ⟨its2, r2, p2, z2⟩ := I.list hp2.sq
      have hz' : vs.length + ws.length ≤ sizeLine := by rw [← hr.length, ← hr2.length]; exact hz
      refine thn (cat_lst (Q := EP X pins σ (fun v H' => ∃ H1 p xs, v = .ref p ∧ H1 p = none ∧ H' = upd H1 p (.lst xs) ∧ ∀ o, Q0 (.ref p) (upd H1 p (.frz o (.lst xs))))) p1.isList p2.isList ?_ (by rw [← r1.length, ← r2.length]; exact hz')) fun _ _ e => frozen e
      have hf := I.hok.fresh (Nat.le_refl s.heap.objs.size)
      refine ⟨.ref s.heap.objs.size, upd H s.heap.objs.size (.lst (vs ++ ws)), I.laid (t' := s.toks) (fun b ob q => Heap.get?_push_of_some _ q) (Nat.le_refl _) ?_, rfl, H, _, _, rfl, hf, rfl, fun o => ?_⟩
      · exact ⟨by rw [List.length_append]; exact hz', _, 0, r1.append r2, Heap.get?_push_size _ rfl⟩
      · exact hk _ M _ _ hq (Ext.new hf) (hv.new hf) (rep_ls hf (hr.append hr2))
    | _ => exact (show False from hq).elim
  | _ => exact (show False from hq).elim
def kJoinR (t : RTA) (σ : RSt) (Q : RVK) : RVK := fun x M1 => match x with
  | .str z => t σ M1 fun rs M2 => ∃ (p : Addr) (ys : List Str), rs = [.ref p] ∧ M2 p = some (.lst (ys.map RV.str)) ∧ (ys.map (·.length)).sum + ys.length * z.length ≤ 16777216 ∧ Q (.str (Txt.join z ys)) M2
  | _ => False
def rJoinR (to : RTE) (t : RTA) : RTE := fun σ M Q => to σ M (kJoinR t σ Q)
theorem rjoinR {o e : Expr} {to : RTE} {t : RTA} {apos cpos : Pos} (ho : RPE X o to) (ha : RPA X [e] t)
    (hbase : attributeBase o "join" X.env (eval o X.env) = eval o X.env := by rfl)
    (hfew : ((backTo cpos (starEach [e] X.env)).all (fun x => !x.1) && (backToKw cpos (keywordEach [] X.env)).all (fun x => x.1.isSome) && decide ([e].length + ([] : List Keyword).length + (if ([] : List Keyword).isEmpty then 0 else 1) < 30)) = true := by rfl)
    (hline : (apos.endLine == cpos.line) = true := by rfl) (hs : starEach [e] X.env = (false, eval e X.env) :: starEach [] X.env := by rfl) (hplain : (backTo cpos (starEach [] X.env)).any (·.1) = false := by rfl) :
    RPE X (.Call (.Attribute o "join" apos) [e] [] cpos) (rJoinR to t) := PE.imp (pe_bm PySem.F.plainAttrs_str PySem.F.slot_str_join PySem.F.type_str_join mt_join ho ha hbase hfew hline hs hplain) fun σ0 H Q0 h => by
  obtain ⟨σ, M, Q, hs, hv, ht, hk⟩ := h
  refine ⟨σ, M, _, hs, hv, ht, fun rx M1 x H1 q e1 v1 r1 => ?_⟩
  cases rx with
  | str z =>
    simp only [Rep] at r1
    subst r1
    refine ⟨rfl, σ, M1, _, hs.ext e1, v1, q, fun rs M2 vs H2 q2 e2 v2 r2 => ?_⟩
    obtain ⟨p, ys, rfl, hm, hb, q2⟩ := q2
    obtain ⟨v, rfl, r3⟩ := r2.one
    simp only [Rep] at r3
    subst r3
    obtain ⟨ho', e0, r0⟩ := v2 p _ hm
    obtain ⟨ws, rfl, hr⟩ := r0
    have := reps_str hr
    subst this
    exact ⟨z, p, ys, rfl, rfl, SqL.of e0, hb, hk _ M2 _ H2 q2 (e1.trans e2) v2 (by simp only [Rep])⟩
  | _ => exact (show False from q).elim
end
section
variable {σ : RSt} {M : RM} {Q : RVK} {ta : RTE} {tr : RTA}
theorem do_addR {a : Addr} {xs ys : List RV} (e : M a = some (.lst xs)) (hz : xs.length + ys.length ≤ sizeLine) (h : Q (.ls (xs ++ ys)) M) : rAddR (.ref a) (.ls ys) M Q := ⟨xs, e, hz, h⟩
theorem do_joinR (h : ta σ M (kJoinR tr σ Q)) : rJoinR ta tr σ M Q := h
theorem do_kjoinR {z : Str} (h : tr σ M fun rs M2 => ∃ (p : Addr) (ys : List Str), rs = [.ref p] ∧ M2 p = some (.lst (ys.map RV.str)) ∧ (ys.map (·.length)).sum + ys.length * z.length ≤ 16777216 ∧ Q (.str (Txt.join z ys)) M2) : kJoinR tr σ Q (.str z) M := h
end
end R
namespace R
open PySem PySem.Builtin PySem.Builtin.Str PySem.StrLaws PySem.NumText
theorem str_ext {a b : Str} (h : a.cps.toList = b.cps.toList) : a = b := by
  cases a; cases b
  simp only [Str.mk.injEq]
  exact Array.toList_inj.mp h
theorem str_map {xs ys : List Str} (h : xs.map (fun s => s.cps.toList) = ys.map fun s => s.cps.toList) : xs = ys := by
  induction xs generalizing ys with
  | nil => cases ys with
    | nil => rfl
    | cons y r => cases h
  | cons x r ih => cases ys with
    | nil => cases h
    | cons y r2 =>
      have h1 := (List.cons.inj h).1
      have h2 := (List.cons.inj h).2
      rw [str_ext h1, ih h2]
theorem codes_len (s : Str) : s.length = s.cps.toList.length := by simp [Str.length]
theorem app_codes (a b : Str) : (a ++ b).cps.toList = a.cps.toList ++ b.cps.toList := by simp [Str.cps_append]
def pos (c : Nat) : Nat → List Nat → List Nat
  | _, [] => []
  | a, x :: r => if x = c then a :: pos c (a + 1) r else pos c (a + 1) r
theorem pos_app (c : Nat) : ∀ (w r : List Nat) (a : Nat), pos c a (w ++ r) = pos c a w ++ pos c (a + w.length) r
  | [], r, a => by simp [pos]
  | x :: w, r, a => by
    have ih := pos_app c w r (a + 1)
    have e : a + 1 + w.length = a + (x :: w).length := by simp; omega
    rw [e] at ih
    simp only [List.cons_append, pos]
    split
    · rw [ih]; rfl
    · exact ih
theorem pos_none (c : Nat) : ∀ (w : List Nat) (a : Nat), c ∉ w → pos c a w = []
  | [], _, _ => rfl
  | x :: w, a, h => by
    simp only [List.mem_cons, not_or] at h
    simp only [pos, if_neg (Ne.symm h.1)]
    exact pos_none c w (a + 1) h.2
def hits (l : List Nat) (c : Nat) (is : List Nat) : List Nat := is.filter fun i => l[i]? == some c
theorem hits_pos (c : Nat) : ∀ (l pre : List Nat), hits (pre ++ l) c (List.range' pre.length (l.length + 1)) = pos c pre.length l
  | [], pre => by simp [hits, pos]
  | x :: l, pre => by
    have ih := hits_pos c l (pre ++ [x])
    simp only [List.append_assoc, List.cons_append, List.nil_append, List.length_append, List.length_cons, List.length_nil, Nat.zero_add] at ih
    rw [List.length_cons, List.range'_succ]
    unfold hits at ih ⊢
    rw [List.filter_cons, ih]
    have e : (pre ++ x :: l)[pre.length]? = some x := by simp
    rw [e]
    simp only [pos]
    by_cases h : x = c
    · subst h; simp
    · rw [if_neg h, if_neg (by simpa using h)]
theorem occ_go (x : Str) (c limit : Nat) : ∀ (m k : Nat) (st : Array Nat × Nat), st.snd ≤ k → st.fst.size ≤ k → k + m ≤ limit →
    (forIn (List.range' k m) st (occBody x ⟨#[c]⟩ x.length limit)).run.fst.toList = st.fst.toList ++ hits x.cps.toList c (List.range' k m)
  | 0, k, st, _, _, _ => by simp [hits]
  | m + 1, k, st, h1, h2, h3 => by
    rw [List.range'_succ, List.forIn_cons]
    unfold occBody
    have key := subAt_one x c k
    by_cases hc : x.cps.toList[k]? = some c
    · have hk := key.mpr hc
      rw [if_pos ⟨⟨⟨by omega, h1⟩, hk.1⟩, hk.2⟩]
      refine (occ_go x c limit m (k + 1) (st.fst.push k, k + 1) (Nat.le_refl _) (by simp; omega) (by omega)).trans ?_
      unfold hits
      rw [List.filter_cons, if_pos (by rw [hc]; simp)]
      simp
    · rw [if_neg fun h => hc (key.mp ⟨h.1.2, h.2⟩)]
      refine (occ_go x c limit m (k + 1) st (by omega) (by omega) (by omega)).trans ?_
      unfold hits
      rw [List.filter_cons, if_neg (by simpa using hc)]
theorem occ_one (x : Str) (c : Nat) : occurrences x ⟨#[c]⟩ 0 x.length (x.length + 1) = pos c 0 x.cps.toList := by
  rw [occ_eq]
  refine (occ_go x c (x.length + 1) (x.length + 1 - 0) 0 (#[], 0) (Nat.le_refl _) (Nat.le_refl _) (by omega)).trans ?_
  have := hits_pos c x.cps.toList []
  rw [codes_len]
  simpa using this
def glue (c : Nat) : List (List Nat) → List Nat
  | [] => []
  | [w] => w
  | w :: r => w ++ c :: glue c r
theorem parts_glue (c : Nat) (x : Str) : ∀ (ws : List (List Nat)) (w pre : List Nat), x.cps.toList = pre ++ glue c (w :: ws) → (∀ v ∈ w :: ws, c ∉ v) →
    (partsFrom x 1 pre.length (pos c pre.length (glue c (w :: ws)))).map (fun s => s.cps.toList) = w :: ws
  | [], w, pre, e, h => by
    have e' : x.cps.toList = pre ++ w := e
    show (partsFrom x 1 pre.length (pos c pre.length w)).map _ = _
    rw [pos_none c w _ (h w (by simp))]
    show [(strSub x pre.length x.length).cps.toList] = [w]
    rw [strSub_toList, codes_len, e']
    simp
  | v :: ws, w, pre, e, h => by
    have e' : x.cps.toList = pre ++ (w ++ c :: glue c (v :: ws)) := e
    show (partsFrom x 1 pre.length (pos c pre.length (w ++ c :: glue c (v :: ws)))).map _ = _
    rw [pos_app, pos_none c w _ (h w (by simp)), List.nil_append]
    simp only [pos, if_true]
    show (strSub x pre.length (pre.length + w.length)).cps.toList :: (partsFrom x 1 (pre.length + w.length + 1) (pos c (pre.length + w.length + 1) (glue c (v :: ws)))).map _ = _
    have ih := parts_glue c x ws v (pre ++ (w ++ [c])) (by rw [e']; simp) (fun u hu => h u (List.mem_cons_of_mem _ hu))
    have el : (pre ++ (w ++ [c])).length = pre.length + w.length + 1 := by simp; omega
    rw [el] at ih
    rw [ih, strSub_toList, e']
    simp
theorem join_codes (sep : Nat) : ∀ ws : List Str, (Str.join ⟨#[sep]⟩ ws).cps.toList = glue sep (ws.map fun s => s.cps.toList)
  | [] => rfl
  | [w] => rfl
  | w :: v :: r => by
    have ih := join_codes sep (v :: r)
    show (w ++ ⟨#[sep]⟩ ++ Str.join ⟨#[sep]⟩ (v :: r)).cps.toList = _
    rw [app_codes, app_codes, ih]
    simp [glue]
theorem kind_pos (x : Str) : 1 ≤ Builtin.Str.strKind x := by unfold Builtin.Str.strKind; repeat (first | decide | split)
theorem blank_eq : (" " : Str) = ⟨#[32]⟩ := by decide +kernel
theorem split_join {w : Str} {ws : List Str} (hne : w.cps.toList ≠ []) (h : ∀ v ∈ w :: ws, 32 ∉ v.cps.toList) : Txt.split (Txt.join " " (w :: ws)) " " = w :: ws := by
  have ej : Txt.join " " (w :: ws) = Str.join ⟨#[32]⟩ (w :: ws) := by rw [blank_eq]; exact glued_eq_join _ _
  rw [ej, blank_eq]
  generalize hx : Str.join ⟨#[32]⟩ (w :: ws) = x
  have hc : x.cps.toList = glue 32 ((w :: ws).map fun s => s.cps.toList) := by rw [← hx]; exact join_codes 32 _
  have hl : 1 ≤ x.length := by
    rw [codes_len, hc]
    have : 1 ≤ w.cps.toList.length := List.length_pos_iff.mpr hne
    cases ws with
    | nil => exact this
    | cons v r => show 1 ≤ (w.cps.toList ++ _).length; rw [List.length_append]; omega
  have main : partsFrom x 1 0 (pos 32 0 x.cps.toList) = w :: ws := by
    apply str_map
    rw [hc]
    exact parts_glue 32 x (ws.map fun s => s.cps.toList) w.cps.toList [] (by rw [hc]; rfl) (fun v hv => by
      have hv' : v ∈ (w :: ws).map fun s => s.cps.toList := hv
      obtain ⟨u, hu, rfl⟩ := List.mem_map.mp hv'
      exact h u hu)
  unfold Txt.split
  have c1 : (decide (x.length < (⟨#[32]⟩ : Str).length) || decide (Builtin.Str.strKind x < Builtin.Str.strKind ⟨#[32]⟩)) = false := by
    have k1 : Builtin.Str.strKind ⟨#[32]⟩ = 1 := by decide +kernel
    have k2 := kind_pos x
    rw [k1, decide_eq_false (show ¬ x.length < (⟨#[32]⟩ : Str).length from Nat.not_lt.mpr hl), decide_eq_false (by omega)]
    rfl
  rw [if_neg (by rw [c1]; exact Bool.false_ne_true), occ_one]
  split
  · rename_i hz
    rw [List.isEmpty_iff.mp hz] at main
    have e : partsFrom x 1 0 [] = [strSub x 0 x.length] := rfl
    rw [e, sub_whole] at main
    exact main
  · rw [partsBetween_eq]; exact main
theorem part_at {x y a t : Str} (hx : x = a ++ y ++ t) (hm : ∀ k, k < a.length → ¬ At x y x.length k) : Txt.partition x y = (a, y, t) := by
  have lx : x.length = a.length + y.length + t.length := by rw [hx, Str.length_append, Str.length_append]
  have cx : x.cps.toList = a.cps.toList ++ (y.cps.toList ++ t.cps.toList) := by rw [hx, app_codes, app_codes, List.append_assoc]
  have la := codes_len a
  have ly := codes_len y
  have lt := codes_len t
  have hit : At x y x.length a.length := by
    refine ⟨by omega, ?_⟩
    rw [subAt_eq, cx, la, ly]
    simp
  have fin : ∀ i r, occurrences x y 0 x.length 1 = i :: r → i = a.length → Txt.partition x y = (a, y, t) := by
    intro i r e ei
    subst ei
    unfold Txt.partition
    rw [e]
    simp only [Prod.mk.injEq, true_and]
    refine ⟨str_ext ?_, str_ext ?_⟩
    · rw [strSub_toList, cx, la]; simp
    · rw [strSub_toList, cx]
      have e1 : a.length + y.length = (a.cps.toList ++ y.cps.toList).length := by rw [List.length_append]; omega
      rw [e1, ← List.append_assoc, List.drop_left]
      rw [List.length_append]
      exact List.take_of_length_le (by omega)
  rcases occ_head x y 1 (Nat.le_refl _) with ⟨_, hn⟩ | ⟨i, r, e, hi, hmin⟩
  · exact absurd hit (hn _)
  · refine fin i r e ?_
    rcases Nat.lt_trichotomy i a.length with q | q | q
    · exact absurd hi (hm i q)
    · exact q
    · exact absurd hit (hmin _ q)
theorem part_blank {n r : Str} (h : 32 ∉ n.cps.toList) : (Txt.partition (n ++ " " ++ r) " ").1 = n := by
  rw [blank_eq, part_at rfl]
  intro k hk hat
  have q := (subAt_one _ 32 k).mp hat
  rw [app_codes, app_codes, List.append_assoc, List.getElem?_append_left (by rw [← codes_len]; exact hk)] at q
  exact h (List.mem_of_getElem? q)
theorem colon_eq : (" :" : Str) = ⟨#[32, 58]⟩ := by decide +kernel
theorem part_colon {a t : Str} (h : 58 ∉ a.cps.toList) : Txt.partition (a ++ " :" ++ t) " :" = (a, (" :" : Str), t) := by
  rw [colon_eq]
  refine part_at rfl fun k hk hat => ?_
  have q := hat.2
  rw [subAt_eq] at q
  have q := eq_of_beq q
  rw [app_codes, app_codes, List.append_assoc] at q
  have la := codes_len a
  have q1 : (((a.cps.toList ++ ([32, 58] ++ t.cps.toList)).drop k).take 2)[1]? = some 58 := by
    have : (⟨#[32, 58]⟩ : Str).length = 2 := rfl
    rw [this] at q
    rw [show (⟨#[32, 58]⟩ : Str).cps.toList = [32, 58] from rfl] at q
    rw [q]; rfl
  rw [List.getElem?_take_of_lt (by decide), List.getElem?_drop] at q1
  by_cases hk1 : k + 1 < a.cps.toList.length
  · rw [List.getElem?_append_left hk1] at q1
    exact h (List.mem_of_getElem? q1)
  · have ek : k + 1 = a.cps.toList.length := by omega
    rw [ek, List.getElem?_append_right (Nat.le_refl _)] at q1
    simp at q1
theorem num_codes {n : Int} (h0 : 0 ≤ n) : AllDigits (numS n).cps.toList ∧ (numS n).cps.toList ≠ [] ∧ (n ≠ 0 → ∀ r, (numS n).cps.toList ≠ 48 :: r) := by
  obtain ⟨m, rfl⟩ := Int.eq_ofNat_of_zero_le h0
  have e : (numS ((m : Nat) : Int)).cps.toList = (Nat.toDigits 10 m).map Char.toNat := PySem.W.KIN.signs_num m
  have hd : AllDigits (numS ((m : Nat) : Int)).cps.toList := by
    intro c hc
    rw [e] at hc
    obtain ⟨ch, hch, ec⟩ := List.mem_map.mp hc
    rw [← ec]
    exact PyProof.Rows.digit_range (Nat.isDigit_of_mem_toDigits (by decide) (by decide) hch)
  refine ⟨hd, ?_, ?_⟩
  · rw [e]
    intro q
    have h := Nat.length_toDigits_pos (b := 10) (n := m)
    rw [List.map_eq_nil_iff.mp q] at h
    exact absurd h (by decide)
  · intro hn r q
    rw [e] at hd q
    rw [q] at hd
    have v := PySem.W.KIN.val_back m
    rw [q, digitsVal_zero] at v
    have t := toDigits_all r hd.tail
    rw [v] at t
    have l1 : (Nat.toDigits 10 m).length = r.length + 1 := by
      have := congrArg List.length q
      rw [List.length_map] at this
      exact this
    have l2 : (Nat.toDigits 10 m).length ≤ max 1 r.length := by
      rw [t]
      split
      · show 1 ≤ _; omega
      · rename_i c r' hd'
        have := len_dropWhile (· == 48) r
        rw [hd'] at this
        rw [List.length_map]; omega
    have : r = [] := List.eq_nil_of_length_eq_zero (by omega)
    subst this
    have : m = 0 := v.symm
    omega
end R
namespace K25
open PySem PySem.Spec PyProof.Rows L2 R
def top (i : Nat) : Stmt := PySem.Challenge.pw_lentgate_k25_deeds_written_and_read.main.body.getD i (.Pass ⟨0, 0, 0, 0⟩)
abbrev GL (st : Stmt) (x : Str) : Prop := (defScope st).names.lookup x = some .globalImplicit
abbrev DB (x : Str) : Prop := (x == ("__debug__" : Str)) = false
abbrev s_is_whole : Stmt := top 13
abbrev N_is_whole : List Str := ["thing"]
theorem sc_is_whole : FnScope N_is_whole ["thing"] (defScope s_is_whole) := ⟨rfl, rfl, rfl, by decide +kernel, rfl, by decide +kernel, by decide +kernel⟩
theorem no_is_whole : NameOk N_is_whole (defScope s_is_whole) := ⟨by decide +kernel, by decide +kernel, by decide +kernel⟩
theorem gl_is_whole_bool : GL s_is_whole "bool" := by decide +kernel
theorem gl_is_whole_int : GL s_is_whole "int" := by decide +kernel
theorem gl_is_whole_isinstance : GL s_is_whole "isinstance" := by decide +kernel
abbrev s_is_kind : Stmt := top 20
abbrev N_is_kind : List Str := ["thing"]
theorem sc_is_kind : FnScope N_is_kind ["thing"] (defScope s_is_kind) := ⟨rfl, rfl, rfl, by decide +kernel, rfl, by decide +kernel, by decide +kernel⟩
theorem no_is_kind : NameOk N_is_kind (defScope s_is_kind) := ⟨by decide +kernel, by decide +kernel, by decide +kernel⟩
theorem gl_is_kind_KINDS : GL s_is_kind "KINDS" := by decide +kernel
abbrev s_is_word : Stmt := top 21
abbrev N_is_word : List Str := ["kind", "thing"]
theorem sc_is_word : FnScope N_is_word ["kind", "thing"] (defScope s_is_word) := ⟨rfl, rfl, rfl, by decide +kernel, rfl, by decide +kernel, by decide +kernel⟩
theorem no_is_word : NameOk N_is_word (defScope s_is_word) := ⟨by decide +kernel, by decide +kernel, by decide +kernel⟩
theorem gl_is_word_LINE_WORDS : GL s_is_word "LINE_WORDS" := by decide +kernel
theorem gl_is_word_NOTE_WORDS : GL s_is_word "NOTE_WORDS" := by decide +kernel
abbrev s_is_sign : Stmt := top 22
abbrev N_is_sign : List Str := ["sign", "at"]
theorem sc_is_sign : FnScope N_is_sign ["sign"] (defScope s_is_sign) := ⟨rfl, rfl, rfl, by decide +kernel, rfl, by decide +kernel, by decide +kernel⟩
theorem no_is_sign : NameOk N_is_sign (defScope s_is_sign) := ⟨by decide +kernel, by decide +kernel, by decide +kernel⟩
theorem gl_is_sign_FIRST_SIGN : GL s_is_sign "FIRST_SIGN" := by decide +kernel
theorem gl_is_sign_LAST_SIGN : GL s_is_sign "LAST_SIGN" := by decide +kernel
theorem gl_is_sign_PERCENT_SIGN : GL s_is_sign "PERCENT_SIGN" := by decide +kernel
theorem gl_is_sign_ord : GL s_is_sign "ord" := by decide +kernel
abbrev s_name_of : Stmt := top 32
abbrev N_name_of : List Str := ["thing"]
theorem sc_name_of : FnScope N_name_of ["thing"] (defScope s_name_of) := ⟨rfl, rfl, rfl, by decide +kernel, rfl, by decide +kernel, by decide +kernel⟩
theorem no_name_of : NameOk N_name_of (defScope s_name_of) := ⟨by decide +kernel, by decide +kernel, by decide +kernel⟩
theorem gl_name_of_isinstance : GL s_name_of "isinstance" := by decide +kernel
theorem gl_name_of_len : GL s_name_of "len" := by decide +kernel
theorem gl_name_of_str : GL s_name_of "str" := by decide +kernel
theorem gl_name_of_tuple : GL s_name_of "tuple" := by decide +kernel
abbrev s__law_cell : Stmt := top 51
abbrev N__law_cell : List Str := ["script", "k"]
theorem sc__law_cell : FnScope N__law_cell ["script", "k"] (defScope s__law_cell) := ⟨rfl, rfl, rfl, by decide +kernel, rfl, by decide +kernel, by decide +kernel⟩
theorem no__law_cell : NameOk N__law_cell (defScope s__law_cell) := ⟨by decide +kernel, by decide +kernel, by decide +kernel⟩
theorem gl__law_cell_len : GL s__law_cell "len" := by decide +kernel
abbrev s__law_well : Stmt := top 52
abbrev N__law_well : List Str := ["cell", "turn"]
theorem sc__law_well : FnScope N__law_well ["cell", "turn"] (defScope s__law_well) := ⟨rfl, rfl, rfl, by decide +kernel, rfl, by decide +kernel, by decide +kernel⟩
theorem no__law_well : NameOk N__law_well (defScope s__law_well) := ⟨by decide +kernel, by decide +kernel, by decide +kernel⟩
abbrev s__law_take : Stmt := top 53
abbrev N__law_take : List Str := ["bag", "many", "p", "n", "found"]
theorem sc__law_take : FnScope N__law_take ["bag", "many"] (defScope s__law_take) := ⟨rfl, rfl, rfl, by decide +kernel, rfl, by decide +kernel, by decide +kernel⟩
theorem no__law_take : NameOk N__law_take (defScope s__law_take) := ⟨by decide +kernel, by decide +kernel, by decide +kernel⟩
abbrev s_is_whole_within : Stmt := top 14
abbrev N_is_whole_within : List Str := ["thing", "least", "greatest"]
theorem sc_is_whole_within : FnScope N_is_whole_within ["thing", "least", "greatest"] (defScope s_is_whole_within) := ⟨rfl, rfl, rfl, by decide +kernel, rfl, by decide +kernel, by decide +kernel⟩
theorem no_is_whole_within : NameOk N_is_whole_within (defScope s_is_whole_within) := ⟨by decide +kernel, by decide +kernel, by decide +kernel⟩
theorem gl_is_whole_within_is_whole : GL s_is_whole_within "is_whole" := by decide +kernel
abbrev s_is_text : Stmt := top 23
abbrev N_is_text : List Str := ["thing"]
theorem sc_is_text : FnScope N_is_text ["thing"] (defScope s_is_text) := ⟨rfl, rfl, rfl, by decide +kernel, rfl, by decide +kernel, by decide +kernel⟩
theorem no_is_text : NameOk N_is_text (defScope s_is_text) := ⟨by decide +kernel, by decide +kernel, by decide +kernel⟩
theorem gl_is_text_MOST_SIGNS : GL s_is_text "MOST_SIGNS" := by decide +kernel
theorem gl_is_text_all : GL s_is_text "all" := by decide +kernel
theorem gl_is_text_isinstance : GL s_is_text "isinstance" := by decide +kernel
theorem gl_is_text_len : GL s_is_text "len" := by decide +kernel
theorem gl_is_text_str : GL s_is_text "str" := by decide +kernel
abbrev s_is_house : Stmt := top 15
abbrev N_is_house : List Str := ["thing"]
theorem sc_is_house : FnScope N_is_house ["thing"] (defScope s_is_house) := ⟨rfl, rfl, rfl, by decide +kernel, rfl, by decide +kernel, by decide +kernel⟩
theorem no_is_house : NameOk N_is_house (defScope s_is_house) := ⟨by decide +kernel, by decide +kernel, by decide +kernel⟩
theorem gl_is_house_GREATEST_HOUSE : GL s_is_house "GREATEST_HOUSE" := by decide +kernel
theorem gl_is_house_is_whole_within : GL s_is_house "is_whole_within" := by decide +kernel
abbrev s_is_door : Stmt := top 16
abbrev N_is_door : List Str := ["thing"]
theorem sc_is_door : FnScope N_is_door ["thing"] (defScope s_is_door) := ⟨rfl, rfl, rfl, by decide +kernel, rfl, by decide +kernel, by decide +kernel⟩
theorem no_is_door : NameOk N_is_door (defScope s_is_door) := ⟨by decide +kernel, by decide +kernel, by decide +kernel⟩
theorem gl_is_door_GREATEST_DOOR : GL s_is_door "GREATEST_DOOR" := by decide +kernel
theorem gl_is_door_is_whole_within : GL s_is_door "is_whole_within" := by decide +kernel
abbrev s_is_place : Stmt := top 17
abbrev N_is_place : List Str := ["thing"]
theorem sc_is_place : FnScope N_is_place ["thing"] (defScope s_is_place) := ⟨rfl, rfl, rfl, by decide +kernel, rfl, by decide +kernel, by decide +kernel⟩
theorem no_is_place : NameOk N_is_place (defScope s_is_place) := ⟨by decide +kernel, by decide +kernel, by decide +kernel⟩
theorem gl_is_place_GREATEST_PLACE : GL s_is_place "GREATEST_PLACE" := by decide +kernel
theorem gl_is_place_is_whole_within : GL s_is_place "is_whole_within" := by decide +kernel
abbrev s_is_outer_place : Stmt := top 18
abbrev N_is_outer_place : List Str := ["thing"]
theorem sc_is_outer_place : FnScope N_is_outer_place ["thing"] (defScope s_is_outer_place) := ⟨rfl, rfl, rfl, by decide +kernel, rfl, by decide +kernel, by decide +kernel⟩
theorem no_is_outer_place : NameOk N_is_outer_place (defScope s_is_outer_place) := ⟨by decide +kernel, by decide +kernel, by decide +kernel⟩
theorem gl_is_outer_place_GREATEST_PLACE : GL s_is_outer_place "GREATEST_PLACE" := by decide +kernel
theorem gl_is_outer_place_is_whole_within : GL s_is_outer_place "is_whole_within" := by decide +kernel
abbrev s_is_ticks : Stmt := top 19
abbrev N_is_ticks : List Str := ["thing"]
theorem sc_is_ticks : FnScope N_is_ticks ["thing"] (defScope s_is_ticks) := ⟨rfl, rfl, rfl, by decide +kernel, rfl, by decide +kernel, by decide +kernel⟩
theorem no_is_ticks : NameOk N_is_ticks (defScope s_is_ticks) := ⟨by decide +kernel, by decide +kernel, by decide +kernel⟩
theorem gl_is_ticks_GREATEST_TICKS : GL s_is_ticks "GREATEST_TICKS" := by decide +kernel
theorem gl_is_ticks_is_whole_within : GL s_is_ticks "is_whole_within" := by decide +kernel
abbrev s_is_letter : Stmt := top 24
abbrev N_is_letter : List Str := ["kind", "word", "text"]
theorem sc_is_letter : FnScope N_is_letter ["kind", "word", "text"] (defScope s_is_letter) := ⟨rfl, rfl, rfl, by decide +kernel, rfl, by decide +kernel, by decide +kernel⟩
theorem no_is_letter : NameOk N_is_letter (defScope s_is_letter) := ⟨by decide +kernel, by decide +kernel, by decide +kernel⟩
theorem gl_is_letter_is_kind : GL s_is_letter "is_kind" := by decide +kernel
theorem gl_is_letter_is_text : GL s_is_letter "is_text" := by decide +kernel
theorem gl_is_letter_is_word : GL s_is_letter "is_word" := by decide +kernel
abbrev s_is_unrule : Stmt := top 30
abbrev N_is_unrule : List Str := ["parts"]
theorem sc_is_unrule : FnScope N_is_unrule ["parts"] (defScope s_is_unrule) := ⟨rfl, rfl, rfl, by decide +kernel, rfl, by decide +kernel, by decide +kernel⟩
theorem no_is_unrule : NameOk N_is_unrule (defScope s_is_unrule) := ⟨by decide +kernel, by decide +kernel, by decide +kernel⟩
theorem gl_is_unrule_GREATEST_RULE : GL s_is_unrule "GREATEST_RULE" := by decide +kernel
theorem gl_is_unrule_is_whole_within : GL s_is_unrule "is_whole_within" := by decide +kernel
theorem gl_is_unrule_len : GL s_is_unrule "len" := by decide +kernel
abbrev s_is_out : Stmt := top 25
abbrev N_is_out : List Str := ["parts", "kind", "house", "door", "place", "far", "word", "text"]
theorem sc_is_out : FnScope N_is_out ["parts"] (defScope s_is_out) := ⟨rfl, rfl, rfl, by decide +kernel, rfl, by decide +kernel, by decide +kernel⟩
theorem no_is_out : NameOk N_is_out (defScope s_is_out) := ⟨by decide +kernel, by decide +kernel, by decide +kernel⟩
theorem gl_is_out_is_door : GL s_is_out "is_door" := by decide +kernel
theorem gl_is_out_is_house : GL s_is_out "is_house" := by decide +kernel
theorem gl_is_out_is_letter : GL s_is_out "is_letter" := by decide +kernel
theorem gl_is_out_is_place : GL s_is_out "is_place" := by decide +kernel
theorem gl_is_out_len : GL s_is_out "len" := by decide +kernel
abbrev s_is_come : Stmt := top 26
abbrev N_is_come : List Str := ["parts", "kind", "place", "far", "number", "word", "text"]
theorem sc_is_come : FnScope N_is_come ["parts"] (defScope s_is_come) := ⟨rfl, rfl, rfl, by decide +kernel, rfl, by decide +kernel, by decide +kernel⟩
theorem no_is_come : NameOk N_is_come (defScope s_is_come) := ⟨by decide +kernel, by decide +kernel, by decide +kernel⟩
theorem gl_is_come_is_door : GL s_is_come "is_door" := by decide +kernel
theorem gl_is_come_is_letter : GL s_is_come "is_letter" := by decide +kernel
theorem gl_is_come_is_outer_place : GL s_is_come "is_outer_place" := by decide +kernel
theorem gl_is_come_len : GL s_is_come "len" := by decide +kernel
abbrev s_is_lost : Stmt := top 27
abbrev N_is_lost : List Str := ["parts", "teller", "kind", "number", "place", "far"]
theorem sc_is_lost : FnScope N_is_lost ["parts"] (defScope s_is_lost) := ⟨rfl, rfl, rfl, by decide +kernel, rfl, by decide +kernel, by decide +kernel⟩
theorem no_is_lost : NameOk N_is_lost (defScope s_is_lost) := ⟨by decide +kernel, by decide +kernel, by decide +kernel⟩
theorem gl_is_lost_is_door : GL s_is_lost "is_door" := by decide +kernel
theorem gl_is_lost_is_kind : GL s_is_lost "is_kind" := by decide +kernel
theorem gl_is_lost_is_outer_place : GL s_is_lost "is_outer_place" := by decide +kernel
theorem gl_is_lost_len : GL s_is_lost "len" := by decide +kernel
abbrev s_is_wait : Stmt := top 28
abbrev N_is_wait : List Str := ["parts"]
theorem sc_is_wait : FnScope N_is_wait ["parts"] (defScope s_is_wait) := ⟨rfl, rfl, rfl, by decide +kernel, rfl, by decide +kernel, by decide +kernel⟩
theorem no_is_wait : NameOk N_is_wait (defScope s_is_wait) := ⟨by decide +kernel, by decide +kernel, by decide +kernel⟩
theorem gl_is_wait_is_ticks : GL s_is_wait "is_ticks" := by decide +kernel
theorem gl_is_wait_len : GL s_is_wait "len" := by decide +kernel
abbrev s_is_rule : Stmt := top 29
abbrev N_is_rule : List Str := ["parts", "kind", "number", "place", "house", "door"]
theorem sc_is_rule : FnScope N_is_rule ["parts"] (defScope s_is_rule) := ⟨rfl, rfl, rfl, by decide +kernel, rfl, by decide +kernel, by decide +kernel⟩
theorem no_is_rule : NameOk N_is_rule (defScope s_is_rule) := ⟨by decide +kernel, by decide +kernel, by decide +kernel⟩
theorem gl_is_rule_is_door : GL s_is_rule "is_door" := by decide +kernel
theorem gl_is_rule_is_house : GL s_is_rule "is_house" := by decide +kernel
theorem gl_is_rule_is_kind : GL s_is_rule "is_kind" := by decide +kernel
theorem gl_is_rule_is_place : GL s_is_rule "is_place" := by decide +kernel
theorem gl_is_rule_len : GL s_is_rule "len" := by decide +kernel
abbrev s_is_deed : Stmt := top 33
abbrev N_is_deed : List Str := ["thing", "name", "has_parts"]
theorem sc_is_deed : FnScope N_is_deed ["thing"] (defScope s_is_deed) := ⟨rfl, rfl, rfl, by decide +kernel, rfl, by decide +kernel, by decide +kernel⟩
theorem no_is_deed : NameOk N_is_deed (defScope s_is_deed) := ⟨by decide +kernel, by decide +kernel, by decide +kernel⟩
theorem gl_is_deed_DEEDS : GL s_is_deed "DEEDS" := by decide +kernel
theorem gl_is_deed_name_of : GL s_is_deed "name_of" := by decide +kernel
abbrev s_show_part : Stmt := top 41
abbrev N_show_part : List Str := ["part"]
theorem sc_show_part : FnScope N_show_part ["part"] (defScope s_show_part) := ⟨rfl, rfl, rfl, by decide +kernel, rfl, by decide +kernel, by decide +kernel⟩
theorem no_show_part : NameOk N_show_part (defScope s_show_part) := ⟨by decide +kernel, by decide +kernel, by decide +kernel⟩
theorem gl_show_part_str : GL s_show_part "str" := by decide +kernel
abbrev s_is_number_word : Stmt := top 45
abbrev N_is_number_word : List Str := ["word"]
theorem sc_is_number_word : FnScope N_is_number_word ["word"] (defScope s_is_number_word) := ⟨rfl, rfl, rfl, by decide +kernel, rfl, by decide +kernel, by decide +kernel⟩
theorem no_is_number_word : NameOk N_is_number_word (defScope s_is_number_word) := ⟨by decide +kernel, by decide +kernel, by decide +kernel⟩
theorem gl_is_number_word_MOST_FIGURES : GL s_is_number_word "MOST_FIGURES" := by decide +kernel
theorem gl_is_number_word_all : GL s_is_number_word "all" := by decide +kernel
theorem gl_is_number_word_len : GL s_is_number_word "len" := by decide +kernel
abbrev s__law_shown : Stmt := top 59
abbrev N__law_shown : List Str := ["deed", "words", "part"]
theorem sc__law_shown : FnScope N__law_shown ["deed"] (defScope s__law_shown) := ⟨rfl, rfl, rfl, by decide +kernel, rfl, by decide +kernel, by decide +kernel⟩
theorem no__law_shown : NameOk N__law_shown (defScope s__law_shown) := ⟨by decide +kernel, by decide +kernel, by decide +kernel⟩
theorem gl__law_shown_str : GL s__law_shown "str" := by decide +kernel
abbrev s_show_row : Stmt := top 42
abbrev N_show_row : List Str := ["parts"]
theorem sc_show_row : FnScope N_show_row ["parts"] (defScope s_show_row) := ⟨rfl, rfl, rfl, by decide +kernel, rfl, by decide +kernel, by decide +kernel⟩
theorem no_show_row : NameOk N_show_row (defScope s_show_row) := ⟨by decide +kernel, by decide +kernel, by decide +kernel⟩
abbrev s_read_word : Stmt := top 46
abbrev N_read_word : List Str := ["word"]
theorem sc_read_word : FnScope N_read_word ["word"] (defScope s_read_word) := ⟨rfl, rfl, rfl, by decide +kernel, rfl, by decide +kernel, by decide +kernel⟩
theorem no_read_word : NameOk N_read_word (defScope s_read_word) := ⟨by decide +kernel, by decide +kernel, by decide +kernel⟩
theorem gl_read_word_int : GL s_read_word "int" := by decide +kernel
theorem gl_read_word_is_number_word : GL s_read_word "is_number_word" := by decide +kernel
abbrev s__law_said : Stmt := top 54
abbrev N__law_said : List Str := ["bag", "signs", "many", "one", "step"]
theorem sc__law_said : FnScope N__law_said ["bag"] (defScope s__law_said) := ⟨rfl, rfl, rfl, by decide +kernel, rfl, by decide +kernel, by decide +kernel⟩
theorem no__law_said : NameOk N__law_said (defScope s__law_said) := ⟨by decide +kernel, by decide +kernel, by decide +kernel⟩
theorem gl__law_said__law_take : GL s__law_said "_law_take" := by decide +kernel
theorem gl__law_said_range : GL s__law_said "range" := by decide +kernel
abbrev s__law_is : Stmt := top 55
abbrev N__law_is : List Str := ["found", "due"]
theorem sc__law_is : FnScope N__law_is ["found", "due"] (defScope s__law_is) := ⟨rfl, rfl, rfl, by decide +kernel, rfl, by decide +kernel, by decide +kernel⟩
theorem no__law_is : NameOk N__law_is (defScope s__law_is) := ⟨by decide +kernel, by decide +kernel, by decide +kernel⟩
theorem gl__law_is_all : GL s__law_is "all" := by decide +kernel
theorem gl__law_is_bool : GL s__law_is "bool" := by decide +kernel
theorem gl__law_is_isinstance : GL s__law_is "isinstance" := by decide +kernel
theorem gl__law_is_len : GL s__law_is "len" := by decide +kernel
theorem gl__law_is_tuple : GL s__law_is "tuple" := by decide +kernel
theorem gl__law_is_zip : GL s__law_is "zip" := by decide +kernel
abbrev s__law_number_for : Stmt := top 57
abbrev N__law_number_for : List Str := ["bag", "low", "high"]
theorem sc__law_number_for : FnScope N__law_number_for ["bag", "low", "high"] (defScope s__law_number_for) := ⟨rfl, rfl, rfl, by decide +kernel, rfl, by decide +kernel, by decide +kernel⟩
theorem no__law_number_for : NameOk N__law_number_for (defScope s__law_number_for) := ⟨by decide +kernel, by decide +kernel, by decide +kernel⟩
theorem gl__law_number_for__law_take : GL s__law_number_for "_law_take" := by decide +kernel
abbrev s__law_answered : Stmt := top 61
abbrev N__law_answered : List Str := ["answer"]
theorem sc__law_answered : FnScope N__law_answered ["answer"] (defScope s__law_answered) := ⟨rfl, rfl, rfl, by decide +kernel, rfl, by decide +kernel, by decide +kernel⟩
theorem no__law_answered : NameOk N__law_answered (defScope s__law_answered) := ⟨by decide +kernel, by decide +kernel, by decide +kernel⟩
theorem gl__law_answered__law_answered : GL s__law_answered "_law_answered" := by decide +kernel
theorem gl__law_answered_isinstance : GL s__law_answered "isinstance" := by decide +kernel
theorem gl__law_answered_str : GL s__law_answered "str" := by decide +kernel
theorem gl__law_answered_tuple : GL s__law_answered "tuple" := by decide +kernel
abbrev s_show_deed : Stmt := top 43
abbrev N_show_deed : List Str := ["deed"]
theorem sc_show_deed : FnScope N_show_deed ["deed"] (defScope s_show_deed) := ⟨rfl, rfl, rfl, by decide +kernel, rfl, by decide +kernel, by decide +kernel⟩
theorem no_show_deed : NameOk N_show_deed (defScope s_show_deed) := ⟨by decide +kernel, by decide +kernel, by decide +kernel⟩
theorem gl_show_deed_WITH_TEXT : GL s_show_deed "WITH_TEXT" := by decide +kernel
theorem gl_show_deed_show_row : GL s_show_deed "show_row" := by decide +kernel
abbrev s_show_answer : Stmt := top 44
abbrev N_show_answer : List Str := ["answer"]
theorem sc_show_answer : FnScope N_show_answer ["answer"] (defScope s_show_answer) := ⟨rfl, rfl, rfl, by decide +kernel, rfl, by decide +kernel, by decide +kernel⟩
theorem no_show_answer : NameOk N_show_answer (defScope s_show_answer) := ⟨by decide +kernel, by decide +kernel, by decide +kernel⟩
theorem gl_show_answer_is_whole : GL s_show_answer "is_whole" := by decide +kernel
abbrev s_read_words : Stmt := top 47
abbrev N_read_words : List Str := ["text"]
theorem sc_read_words : FnScope N_read_words ["text"] (defScope s_read_words) := ⟨rfl, rfl, rfl, by decide +kernel, rfl, by decide +kernel, by decide +kernel⟩
theorem no_read_words : NameOk N_read_words (defScope s_read_words) := ⟨by decide +kernel, by decide +kernel, by decide +kernel⟩
theorem gl_read_words_tuple : GL s_read_words "tuple" := by decide +kernel
abbrev s__law_a_text : Stmt := top 56
abbrev N__law_a_text : List Str := ["bag", "odd"]
theorem sc__law_a_text : FnScope N__law_a_text ["bag"] (defScope s__law_a_text) := ⟨rfl, rfl, rfl, by decide +kernel, rfl, by decide +kernel, by decide +kernel⟩
theorem no__law_a_text : NameOk N__law_a_text (defScope s__law_a_text) := ⟨by decide +kernel, by decide +kernel, by decide +kernel⟩
theorem gl__law_a_text__law_said : GL s__law_a_text "_law_said" := by decide +kernel
theorem gl__law_a_text__law_take : GL s__law_a_text "_law_take" := by decide +kernel
abbrev s__law_an_answer : Stmt := top 60
abbrev N__law_an_answer : List Str := ["bag", "number", "inside", "why", "some"]
theorem sc__law_an_answer : FnScope N__law_an_answer ["bag"] (defScope s__law_an_answer) := ⟨rfl, rfl, rfl, by decide +kernel, rfl, by decide +kernel, by decide +kernel⟩
theorem no__law_an_answer : NameOk N__law_an_answer (defScope s__law_an_answer) := ⟨by decide +kernel, by decide +kernel, by decide +kernel⟩
theorem gl__law_an_answer__law_number_for : GL s__law_an_answer "_law_number_for" := by decide +kernel
theorem gl__law_an_answer__law_take : GL s__law_an_answer "_law_take" := by decide +kernel
abbrev s_read_parts : Stmt := top 48
abbrev N_read_parts : List Str := ["text", "name", "head", "colon", "letter"]
theorem sc_read_parts : FnScope N_read_parts ["text"] (defScope s_read_parts) := ⟨rfl, rfl, rfl, by decide +kernel, rfl, by decide +kernel, by decide +kernel⟩
theorem no_read_parts : NameOk N_read_parts (defScope s_read_parts) := ⟨by decide +kernel, by decide +kernel, by decide +kernel⟩
theorem gl_read_parts_WITH_TEXT : GL s_read_parts "WITH_TEXT" := by decide +kernel
theorem gl_read_parts_read_words : GL s_read_parts "read_words" := by decide +kernel
abbrev s__law_a_deed : Stmt := top 58
abbrev N__law_a_deed : List Str := ["bag", "kind", "said", "ends", "number", "place", "far", "some"]
theorem sc__law_a_deed : FnScope N__law_a_deed ["bag"] (defScope s__law_a_deed) := ⟨rfl, rfl, rfl, by decide +kernel, rfl, by decide +kernel, by decide +kernel⟩
theorem no__law_a_deed : NameOk N__law_a_deed (defScope s__law_a_deed) := ⟨by decide +kernel, by decide +kernel, by decide +kernel⟩
theorem gl__law_a_deed__law_a_text : GL s__law_a_deed "_law_a_text" := by decide +kernel
theorem gl__law_a_deed__law_number_for : GL s__law_a_deed "_law_number_for" := by decide +kernel
theorem gl__law_a_deed__law_take : GL s__law_a_deed "_law_take" := by decide +kernel
abbrev s_read_deed : Stmt := top 49
abbrev N_read_deed : List Str := ["text", "deed"]
theorem sc_read_deed : FnScope N_read_deed ["text"] (defScope s_read_deed) := ⟨rfl, rfl, rfl, by decide +kernel, rfl, by decide +kernel, by decide +kernel⟩
theorem no_read_deed : NameOk N_read_deed (defScope s_read_deed) := ⟨by decide +kernel, by decide +kernel, by decide +kernel⟩
theorem gl_read_deed_is_deed : GL s_read_deed "is_deed" := by decide +kernel
theorem gl_read_deed_isinstance : GL s_read_deed "isinstance" := by decide +kernel
theorem gl_read_deed_read_parts : GL s_read_deed "read_parts" := by decide +kernel
theorem gl_read_deed_str : GL s_read_deed "str" := by decide +kernel
abbrev s_law : Stmt := top 62
abbrev N_law : List Str := ["script", "cell", "bag", "deed", "text", "turn", "answer", "found"]
theorem sc_law : FnScope N_law ["script"] (defScope s_law) := ⟨rfl, rfl, rfl, by decide +kernel, rfl, by decide +kernel, by decide +kernel⟩
theorem no_law : NameOk N_law (defScope s_law) := ⟨by decide +kernel, by decide +kernel, by decide +kernel⟩
theorem gl_law__law_a_deed : GL s_law "_law_a_deed" := by decide +kernel
theorem gl_law__law_an_answer : GL s_law "_law_an_answer" := by decide +kernel
theorem gl_law__law_answered : GL s_law "_law_answered" := by decide +kernel
theorem gl_law__law_cell : GL s_law "_law_cell" := by decide +kernel
theorem gl_law__law_is : GL s_law "_law_is" := by decide +kernel
theorem gl_law__law_shown : GL s_law "_law_shown" := by decide +kernel
theorem gl_law__law_well : GL s_law "_law_well" := by decide +kernel
theorem gl_law_isinstance : GL s_law "isinstance" := by decide +kernel
theorem gl_law_range : GL s_law "range" := by decide +kernel
theorem gl_law_read_deed : GL s_law "read_deed" := by decide +kernel
theorem gl_law_show_answer : GL s_law "show_answer" := by decide +kernel
theorem gl_law_show_deed : GL s_law "show_deed" := by decide +kernel
theorem gl_law_str : GL s_law "str" := by decide +kernel
theorem db_DEEDS : DB "DEEDS" := by decide +kernel
theorem db_FIGURES : DB "FIGURES" := by decide +kernel
theorem db_FIRST_SIGN : DB "FIRST_SIGN" := by decide +kernel
theorem db_GREATEST_DOOR : DB "GREATEST_DOOR" := by decide +kernel
theorem db_GREATEST_HOUSE : DB "GREATEST_HOUSE" := by decide +kernel
theorem db_GREATEST_PLACE : DB "GREATEST_PLACE" := by decide +kernel
theorem db_GREATEST_RULE : DB "GREATEST_RULE" := by decide +kernel
theorem db_GREATEST_TICKS : DB "GREATEST_TICKS" := by decide +kernel
theorem db_KINDS : DB "KINDS" := by decide +kernel
theorem db_LAST_SIGN : DB "LAST_SIGN" := by decide +kernel
theorem db_LINE_WORDS : DB "LINE_WORDS" := by decide +kernel
theorem db_MOST_FIGURES : DB "MOST_FIGURES" := by decide +kernel
theorem db_MOST_SIGNS : DB "MOST_SIGNS" := by decide +kernel
theorem db_NOTE_WORDS : DB "NOTE_WORDS" := by decide +kernel
theorem db_PERCENT_SIGN : DB "PERCENT_SIGN" := by decide +kernel
theorem db_WITH_TEXT : DB "WITH_TEXT" := by decide +kernel
theorem db__law_a_deed : DB "_law_a_deed" := by decide +kernel
theorem db__law_a_text : DB "_law_a_text" := by decide +kernel
theorem db__law_an_answer : DB "_law_an_answer" := by decide +kernel
theorem db__law_answered : DB "_law_answered" := by decide +kernel
theorem db__law_cell : DB "_law_cell" := by decide +kernel
theorem db__law_is : DB "_law_is" := by decide +kernel
theorem db__law_number_for : DB "_law_number_for" := by decide +kernel
theorem db__law_said : DB "_law_said" := by decide +kernel
theorem db__law_shown : DB "_law_shown" := by decide +kernel
theorem db__law_take : DB "_law_take" := by decide +kernel
theorem db__law_well : DB "_law_well" := by decide +kernel
theorem db_all : DB "all" := by decide +kernel
theorem nn_all : ("all" : Str) ≠ "__name__" := by decide +kernel
theorem db_int : DB "int" := by decide +kernel
theorem nn_int : ("int" : Str) ≠ "__name__" := by decide +kernel
theorem db_is_deed : DB "is_deed" := by decide +kernel
theorem db_is_door : DB "is_door" := by decide +kernel
theorem db_is_house : DB "is_house" := by decide +kernel
theorem db_is_kind : DB "is_kind" := by decide +kernel
theorem db_is_letter : DB "is_letter" := by decide +kernel
theorem db_is_number_word : DB "is_number_word" := by decide +kernel
theorem db_is_outer_place : DB "is_outer_place" := by decide +kernel
theorem db_is_place : DB "is_place" := by decide +kernel
theorem db_is_sign : DB "is_sign" := by decide +kernel
theorem db_is_text : DB "is_text" := by decide +kernel
theorem db_is_ticks : DB "is_ticks" := by decide +kernel
theorem db_is_whole : DB "is_whole" := by decide +kernel
theorem db_is_whole_within : DB "is_whole_within" := by decide +kernel
theorem db_is_word : DB "is_word" := by decide +kernel
theorem db_isinstance : DB "isinstance" := by decide +kernel
theorem nn_isinstance : ("isinstance" : Str) ≠ "__name__" := by decide +kernel
theorem db_len : DB "len" := by decide +kernel
theorem nn_len : ("len" : Str) ≠ "__name__" := by decide +kernel
theorem db_name_of : DB "name_of" := by decide +kernel
theorem db_ord : DB "ord" := by decide +kernel
theorem nn_ord : ("ord" : Str) ≠ "__name__" := by decide +kernel
theorem db_read_deed : DB "read_deed" := by decide +kernel
theorem db_read_parts : DB "read_parts" := by decide +kernel
theorem db_read_word : DB "read_word" := by decide +kernel
theorem db_read_words : DB "read_words" := by decide +kernel
theorem db_show_answer : DB "show_answer" := by decide +kernel
theorem db_show_deed : DB "show_deed" := by decide +kernel
theorem db_show_part : DB "show_part" := by decide +kernel
theorem db_show_row : DB "show_row" := by decide +kernel
theorem db_str : DB "str" := by decide +kernel
theorem nn_str : ("str" : Str) ≠ "__name__" := by decide +kernel
theorem db_tuple : DB "tuple" := by decide +kernel
theorem nn_tuple : ("tuple" : Str) ≠ "__name__" := by decide +kernel

def kvsD (f0 f1 f2 f3 f4 f5 : Addr) : List (Key × RV) := [((Sum.inr "out" : Key), RV.ref f0), ((Sum.inr "come" : Key), RV.ref f1), ((Sum.inr "lost" : Key), RV.ref f2), ((Sum.inr "wait" : Key), RV.ref f3), ((Sum.inr "rule" : Key), RV.ref f4), ((Sum.inr "unrule" : Key), RV.ref f5)]
def DeedsT (P : Program) (w : World) (K : PySem.W.Frag) (mg : Str → Option Value) : Prop := ∃ f0 f1 f2 f3 f4 f5 : Addr, mg "is_out" = some (.ref f0) ∧ mg "is_come" = some (.ref f1) ∧ mg "is_lost" = some (.ref f2) ∧ mg "is_wait" = some (.ref f3) ∧ mg "is_rule" = some (.ref f4) ∧ mg "is_unrule" = some (.ref f5) ∧ KTab P w K mg "DEEDS" (kvsD f0 f1 f2 f3 f4 f5)

structure Txt (P : Program) (w : World) (K : PySem.W.Frag) (mg : Str → Option Value) : Prop where
  b_all : mg "all" = none
  b_bool : mg "bool" = none
  b_int : mg "int" = none
  b_isinstance : mg "isinstance" = none
  b_len : mg "len" = none
  b_ord : mg "ord" = none
  b_range : mg "range" = none
  b_str : mg "str" = none
  b_tuple : mg "tuple" = none
  b_zip : mg "zip" = none
  c_GREATEST_HOUSE : IntC mg "GREATEST_HOUSE" 99
  c_GREATEST_DOOR : IntC mg "GREATEST_DOOR" 9999
  c_GREATEST_PLACE : IntC mg "GREATEST_PLACE" 1000000
  c_GREATEST_TICKS : IntC mg "GREATEST_TICKS" 1000000
  c_GREATEST_RULE : IntC mg "GREATEST_RULE" 1000000
  c_MOST_SIGNS : IntC mg "MOST_SIGNS" 40
  c_FIRST_SIGN : IntC mg "FIRST_SIGN" 32
  c_LAST_SIGN : IntC mg "LAST_SIGN" 126
  c_PERCENT_SIGN : IntC mg "PERCENT_SIGN" 37
  c_MOST_FIGURES : IntC mg "MOST_FIGURES" 7
  c_KINDS : TupC K mg "KINDS" ["note", "line"]
  c_NOTE_WORDS : TupC K mg "NOTE_WORDS" ["say"]
  c_LINE_WORDS : TupC K mg "LINE_WORDS" ["open", "say", "close", "break"]
  c_WITH_TEXT : TupC K mg "WITH_TEXT" ["out", "come"]
  c_DEEDS : DeedsT P w K mg
  c_FIGURES : StrC mg "FIGURES" "0123456789"
section
variable {P : Program} {w : World} {K : PySem.W.Frag} {mg : Str → Option Value} {base : Heap}
local macro_rules | `(tactic| walk_at "rs1") => `(tactic| first | ((with_reducible refine' do_norm ?_ ?_); rotate_left; simp only [List.set_cons_succ, List.set_cons_zero]; exact rfl) | ((with_reducible refine' do_normU ?_ ?_); rotate_left; simp only [setAll, List.set_cons_succ, List.set_cons_zero]; exact rfl) | ((with_reducible refine' do_var ?_ ?_); rotate_left; exact rfl) | (with_reducible first | refine do_c ?_ | refine do_tab ?_ | refine do_op ?_ | refine do_seq ?_ | refine do_set ?_ | refine do_cons ?_ | refine do_nil ?_ | refine do_call ?_ | refine do_ifs ?_ | refine do_test ?_ | refine do_ktest ?_ | refine do_kT ?_ | refine do_kF ?_ | refine do_knT ?_ | refine do_knF ?_ | refine do_and ?_ | refine do_or ?_ | refine do_not ?_ | refine do_if ?_ | refine do_un ?_ | refine do_chain ?_ | refine do_kchT ?_ | refine do_kchF ?_ | refine do_tup ?_ | refine do_lsf ?_ | refine do_lst ?_) | ((with_reducible refine' do_size ?_ ?_); exact rfl) | (with_reducible first | refine do_next ?_ | refine do_ret ?_ | refine do_retN ?_ | refine do_drop ?_ | refine do_asg ?_ | refine do_gN ?_) | ((with_reducible refine' do_gU ?_ ?_); exact rfl) | (with_reducible first | refine do_gSub ?_ | refine do_forI ?_ | refine do_itS ?_ | refine do_kits_t ?_ | refine do_kits_l ?_ | refine do_itR ?_ | refine do_forNil ?_ | refine do_forCons ?_ | refine do_comp ?_ | refine do_split ?_ | refine do_ksplit ?_ | refine do_par ?_ | refine do_kpar ?_ | refine do_fmt ?_ | refine do_testS ?_ | refine do_compP ?_ | refine do_itT ?_ | refine do_joinR ?_ | refine do_kjoinR ?_ | refine do_strS ?_ | refine do_inS ?_ | refine do_compNil ?_ | refine do_compYes ?_ | refine do_compT ?_ | refine do_sl ?_ | refine do_noP ?_ | refine do_part ?_ | refine do_kpart ?_ | refine do_slT ?_ | refine do_slL ?_ | refine do_int0 ?_ | refine do_addI ?_) | ((with_reducible refine' do_addT ?_ ?_); exact rfl) | ((with_reducible refine' do_addL ?_ ?_); exact rfl) | ((with_reducible refine' do_eq ?_ ?_ ?_); exact rfl; exact rfl) | ((with_reducible refine' do_ne ?_ ?_ ?_); exact rfl; exact rfl) | (with_reducible first | refine do_is ?_ | refine do_isnot ?_ | refine do_ixT ?_ | refine do_ixL ?_ | refine do_len_t ?_ | refine do_len_l ?_ | refine do_tuple_l ?_ | refine do_tuple_t ?_) | ((with_reducible refine' do_isi ?_ ?_); rotate_left; exact rfl) | (with_reducible first | refine do_break ?_ | refine do_cont ?_ | refine do_andv ?_ | refine do_orv ?_ | refine do_notv ?_ | refine do_knotv ?_ | refine do_kandT ?_ | refine do_kandF ?_ | refine do_korT ?_ | refine do_korF ?_ | refine do_ord ?_ | refine do_itX ?_ | refine do_kitx ?_ | refine do_list_t ?_ | refine do_ltS ?_ | refine do_gtS ?_ | refine do_callV ?_ | refine do_tabin ?_ | refine do_tabnotN ?_ | refine do_ktabnot ?_ | refine do_neg ?_ | refine do_join ?_ | refine do_kjoin ?_ | refine do_append ?_ | refine do_itZ ?_))
local macro_rules | `(tactic| walk_at "rs") => `(tactic| (repeat walk_at "rs1"))
local macro_rules | `(tactic| walk_at "rd1") => `(tactic| first | walk_at "rs1" | ((with_reducible refine' do_kT' ?_ ?_); exact rfl) | ((with_reducible refine' do_kF' ?_ ?_); exact rfl))
local macro_rules | `(tactic| walk_at "rd") => `(tactic| (repeat walk_at "rd1"))
local macro_rules | `(tactic| walk_at "rn1") => `(tactic| first | ((with_reducible refine' do_norm ?_ ?_); rotate_left; simp only [List.set_cons_succ, List.set_cons_zero]; exact rfl) | ((with_reducible refine' do_normU ?_ ?_); rotate_left; simp only [setAll, List.set_cons_succ, List.set_cons_zero]; exact rfl) | ((with_reducible refine' do_var ?_ ?_); rotate_left; exact rfl) | with_reducible refine do_c ?_ | with_reducible refine do_tab ?_ | with_reducible refine do_op ?_ | with_reducible refine do_seq ?_ | with_reducible refine do_set ?_ | with_reducible refine do_cons ?_ | with_reducible refine do_nil ?_ | with_reducible refine do_call ?_ | with_reducible refine do_ifs ?_ | with_reducible refine do_test ?_ | with_reducible refine do_ktest ?_ | with_reducible refine do_kT ?_ | with_reducible refine do_kF ?_ | with_reducible refine do_knT ?_ | with_reducible refine do_knF ?_ | with_reducible refine do_and ?_ | with_reducible refine do_or ?_ | with_reducible refine do_not ?_ | with_reducible refine do_un ?_ | with_reducible refine do_chain ?_ | with_reducible refine do_kchT ?_ | with_reducible refine do_kchF ?_ | with_reducible refine do_tup ?_ | with_reducible refine do_lsf ?_ | with_reducible refine do_lst ?_ | ((with_reducible refine' do_size ?_ ?_); exact rfl) | with_reducible refine do_next ?_ | with_reducible refine do_ret ?_ | with_reducible refine do_retN ?_ | with_reducible refine do_drop ?_ | with_reducible refine do_asg ?_ | with_reducible refine do_gN ?_ | ((with_reducible refine' do_gU ?_ ?_); exact rfl) | with_reducible refine do_gSub ?_ | with_reducible refine do_forI ?_ | with_reducible refine do_itS ?_ | with_reducible refine do_kits_t ?_ | with_reducible refine do_kits_l ?_ | with_reducible refine do_itR ?_ | with_reducible refine do_forNil ?_ | with_reducible refine do_forCons ?_ | with_reducible refine do_comp ?_ | with_reducible refine do_split ?_ | with_reducible refine do_ksplit ?_ | with_reducible refine do_par ?_ | with_reducible refine do_kpar ?_ | with_reducible refine do_fmt ?_ | with_reducible refine do_testS ?_ | with_reducible refine do_compP ?_ | with_reducible refine do_itT ?_ | with_reducible refine do_joinR ?_ | with_reducible refine do_kjoinR ?_ | with_reducible refine do_strS ?_ | with_reducible refine do_inS ?_ | with_reducible refine do_compNil ?_ | with_reducible refine do_compYes ?_ | with_reducible refine do_compT ?_ | with_reducible refine do_sl ?_ | with_reducible refine do_noP ?_ | with_reducible refine do_part ?_ | with_reducible refine do_kpart ?_ | with_reducible refine do_slT ?_ | with_reducible refine do_slL ?_ | with_reducible refine do_int0 ?_ | with_reducible refine do_addI ?_ | ((with_reducible refine' do_addT ?_ ?_); exact rfl) | ((with_reducible refine' do_addL ?_ ?_); exact rfl) | ((with_reducible refine' do_eq ?_ ?_ ?_); exact rfl; exact rfl) | ((with_reducible refine' do_ne ?_ ?_ ?_); exact rfl; exact rfl) | with_reducible refine do_is ?_ | with_reducible refine do_isnot ?_ | with_reducible refine do_ixT ?_ | with_reducible refine do_ixL ?_ | with_reducible refine do_len_t ?_ | with_reducible refine do_len_l ?_ | with_reducible refine do_tuple_l ?_ | with_reducible refine do_tuple_t ?_ | ((with_reducible refine' do_isi ?_ ?_); rotate_left; exact rfl) | with_reducible refine do_break ?_ | with_reducible refine do_cont ?_ | with_reducible refine do_andv ?_ | with_reducible refine do_orv ?_ | with_reducible refine do_notv ?_ | with_reducible refine do_knotv ?_ | with_reducible refine do_kandT ?_ | with_reducible refine do_kandF ?_ | with_reducible refine do_korT ?_ | with_reducible refine do_korF ?_ | with_reducible refine do_ord ?_ | with_reducible refine do_itX ?_ | with_reducible refine do_kitx ?_ | with_reducible refine do_list_t ?_ | with_reducible refine do_ltS ?_ | with_reducible refine do_gtS ?_ | with_reducible refine do_callV ?_ | with_reducible refine do_tabin ?_ | with_reducible refine do_tabnotN ?_ | with_reducible refine do_ktabnot ?_ | with_reducible refine do_neg ?_ | with_reducible refine do_join ?_ | with_reducible refine do_kjoin ?_ | with_reducible refine do_append ?_ | with_reducible refine do_itZ ?_)
local macro_rules | `(tactic| walk_at "rn") => `(tactic| (repeat walk_at "rn1"))
/-- the bag: a list of three ints, drawn on at most n times -/
def BagO (o : RO) (n : Int) : Prop := ∃ x y t : Int, o = .lst [.int x, .int y, .int t] ∧ 0 ≤ x ∧ 0 ≤ y ∧ y < 2305843009213693951 ∧ 0 ≤ t ∧ t ≤ n
def Bag (M : RM) (b : Addr) (n : Int) : Prop := ∃ o, M b = some o ∧ BagO o n
theorem Bag.put {M : RM} {b : Addr} {o : RO} {n : Int} (h : BagO o n) : Bag (put M b o) b n := ⟨o, put_same, h⟩
theorem BagO.mono {o : RO} {m n : Int} (h : BagO o m) (l : m ≤ n) : BagO o n := by
  obtain ⟨x, y, t, e, h1, h2, h3, h4, h5⟩ := h
  exact ⟨x, y, t, e, h1, h2, h3, h4, Int.le_trans h5 l⟩
theorem small64 {i : Int} (h0 : 0 ≤ i) (h1 : i < 18446744073709551616) : i.natAbs < 2 ^ 64 := by
  have : (2 : Nat) ^ 64 = 18446744073709551616 := by decide
  omega
theorem cmul_left {i j : Int} (h0 : -18446744073709551616 < i) (h1 : i < 18446744073709551616) : CMul i j := .inl ⟨h0, h1⟩
theorem szl {n : Nat} (h : n ≤ 1000 := by first | decide | (simp only [List.length_cons, List.length_nil, List.length_append]; decide)) : n ≤ sizeLine := Nat.le_trans h (by decide)
theorem at0 {a : RV} {r : List RV} : atI (a :: r) 0 = some a := atI_nat (j := 0) rfl
theorem at1 {a b : RV} {r : List RV} : atI (a :: b :: r) 1 = some b := atI_nat (j := 1) rfl
theorem at2 {a b c : RV} {r : List RV} : atI (a :: b :: c :: r) 2 = some c := atI_nat (j := 2) rfl
theorem ix0 {n : Nat} : ixN (n + 1) 0 = some 0 := by unfold ixN; rw [if_pos (by omega), if_pos (by omega)]; rfl
theorem ix2 {n : Nat} : ixN (n + 3) 2 = some 2 := by unfold ixN; rw [if_pos (by omega), if_pos (by omega)]; rfl
/-- an item of a written list at a drawn place -/
theorem at_some {xs : List RV} {i : Int} (h0 : 0 ≤ i) (h1 : i < xs.length) : ∃ v, atI xs i = some v ∧ v ∈ xs := by
  obtain ⟨j, rfl⟩ := Int.eq_ofNat_of_zero_le h0
  have hj : j < xs.length := by omega
  exact ⟨xs[j], atI_nat (by simp [hj]), List.getElem_mem hj⟩
theorem lk_here {α : Type} {k : Key} {v : α} {r : List (Key × α)} : lookK ((k, v) :: r) k = some v := by unfold lookK; rw [List.find?_cons, decide_eq_true rfl]; rfl
theorem lk_next {α : Type} {j k : Key} {v : α} {r : List (Key × α)} (h : ¬ j = k) : lookK ((j, v) :: r) k = lookK r k := by unfold lookK; rw [List.find?_cons, decide_eq_false h]
theorem ne_inr {a b : Str} (h : ¬ a = b) : ¬ (Sum.inr a : Key) = Sum.inr b := fun e => h (Sum.inr.inj e)
theorem forL_inv {g : RTG} {tb : RTS} {D : RD} (J : RSt → RM → Prop) (p : RV → Prop) : ∀ (xs : List RV), (∀ x ∈ xs, p x) → (∀ x σ M (N : RSt → RM → Prop), p x → J σ M → (∀ σ' M', J σ' M' → N σ' M') → g x σ M fun σ2 M2 => tb { D with nx := N, ct := N, bk := D.nx } σ2 M2) →
    (∀ σ M, J σ M → D.nx σ M) → ∀ σ M, J σ M → rForL g tb D xs σ M
  | [], _, _, hd, σ, M, j => hd σ M j
  | x :: r, hp, hs, hd, σ, M, j => hs x σ M _ (hp x List.mem_cons_self) j fun σ' M' j' => forL_inv J p r (fun y hy => hp y (List.mem_cons_of_mem _ hy)) hs hd σ' M' j'
/-- what a reading wants of an item at a drawn place -/
theorem at_do {xs : List RV} {i : Int} {P : RV → Prop} (h0 : 0 ≤ i) (h1 : i < xs.length) (h : ∀ v ∈ xs, P v) : (match atI xs i with | some v => P v | none => False) := by
  obtain ⟨v, e, m⟩ := at_some h0 h1
  rw [e]
  exact h v m
def AllI (lo hi : Int) : List RV → Prop
  | [] => True
  | .int k :: r => (lo ≤ k ∧ k ≤ hi) ∧ AllI lo hi r
  | _ :: _ => False
def AllS (p : Str → Prop) : List RV → Prop
  | [] => True
  | .str k :: r => p k ∧ AllS p r
  | _ :: _ => False
theorem allI_mem {lo hi : Int} : ∀ {xs : List RV}, AllI lo hi xs → ∀ v ∈ xs, ∃ k : Int, v = .int k ∧ lo ≤ k ∧ k ≤ hi
  | x :: r, h, v, m => by
    cases x with
    | int k =>
      rcases List.mem_cons.mp m with rfl | m
      · exact ⟨k, rfl, h.1.1, h.1.2⟩
      · exact allI_mem h.2 v m
    | _ => exact (show False from h).elim
theorem allS_mem {p : Str → Prop} : ∀ {xs : List RV}, AllS p xs → ∀ v ∈ xs, ∃ k : Str, v = .str k ∧ p k
  | x :: r, h, v, m => by
    cases x with
    | str k =>
      rcases List.mem_cons.mp m with rfl | m
      · exact ⟨k, rfl, h.1⟩
      · exact allS_mem h.2 v m
    | _ => exact (show False from h).elim
theorem at_ints (lo hi : Int) {xs : List RV} {i : Int} {P : RV → Prop} (h0 : 0 ≤ i) (h : ∀ k : Int, lo ≤ k → k ≤ hi → P (.int k)) (h1 : i < xs.length := by (simp only [List.length_cons, List.length_nil]; omega)) (ha : AllI lo hi xs := by (simp only [AllI, and_true]; omega)) : (match atI xs i with | some v => P v | none => False) :=
  at_do h0 h1 fun v hv => by obtain ⟨k, rfl, a, b⟩ := allI_mem ha v hv; exact h k a b
theorem at_strs (p : Str → Prop) {xs : List RV} {i : Int} {P : RV → Prop} (h0 : 0 ≤ i) (ha : AllS p xs) (h : ∀ k : Str, p k → P (.str k)) (h1 : i < xs.length := by (simp only [List.length_cons, List.length_nil]; omega)) : (match atI xs i with | some v => P v | none => False) :=
  at_do h0 h1 fun v hv => by obtain ⟨k, rfl, a⟩ := allS_mem ha v hv; exact h k a
theorem nums3 : R.nums (Int.toNat 3) = [.int 0, .int 1, .int 2] := rfl
theorem ok_mono : ∀ {n : Nat} {x : RV}, okR n x = true → okR (n + 1) x = true
  | 0, x, h => by cases x <;> first | rfl | (simp [okR] at h)
  | n + 1, x, h => by
    cases x with
    | tup xs =>
      have h' : xs.all (okR n) = true := h
      show xs.all (okR (n + 1)) = true
      rw [List.all_eq_true] at h' ⊢
      exact fun y hy => ok_mono (h' y hy)
    | ls xs =>
      have h' : xs.all (okR n) = true := h
      show xs.all (okR (n + 1)) = true
      rw [List.all_eq_true] at h' ⊢
      exact fun y hy => ok_mono (h' y hy)
    | ref a => simp [okR] at h
    | ty a => simp [okR] at h
    | _ => rfl
def okP (x : RV) : Prop := okR 14 x = true ∧ ∀ s, x = .str s → s.length ≤ 1000
theorem okP.ok15 {x : RV} (h : okP x) : okR 15 x = true := ok_mono h.1
theorem okP.ok16 {x : RV} (h : okP x) : okR 16 x = true := ok_mono (ok_mono h.1)
theorem okP_ref {a : Addr} (h : okP (.ref a)) : False := by have := h.1; simp [okR] at this
theorem okP_ty {a : String} (h : okP (.ty a)) : False := by have := h.1; simp [okR] at this
def isWh : RV → Bool
  | .int _ => true
  | _ => false
def inB : RV → Int → Int → Bool
  | .int i, lo, hi => decide (lo ≤ i) && decide (i ≤ hi)
  | _, _, _ => false
abbrev txs (l : List Str) : List RV := l.map RV.str
def kindF (x : RV) : Bool := inR x (txs ["note", "line"])
def wordF (k x : RV) : Bool := if eqR k (.str "note") = true then inR x (txs ["say"]) else inR x (txs ["open", "say", "close", "break"])
def signF (c : Nat) : Bool := decide ((32 : Int) ≤ (c : Int)) && (decide ((c : Int) ≤ 126) && !eqR (.int (c : Int)) (.int 37))
def textF : RV → Bool
  | .str s => decide ((s.length : Int) ≤ 40) && (s.cps.toList.map signF).all id
  | _ => false
def letterF (k w t : RV) : Bool := kindF k && (wordF k w && textF t)
def outF : List RV → Bool
  | [k, h, d, p, f, w, t] => inB h 0 99 && (inB d 1 9999 && (inB p 0 1000000 && (inB f 1 9999 && letterF k w t)))
  | _ => false
def comeF : List RV → Bool
  | [k, p, f, n, w, t] => inB p 1 1000000 && (inB f 1 9999 && (inB n 1 9999 && letterF k w t))
  | _ => false
def lostF : List RV → Bool
  | [t, k, n, p, f] => inB t 1 1000000 && (kindF k && (inB n 1 9999 && (inB p 1 1000000 && inB f 1 9999)))
  | _ => false
def tickF : List RV → Bool
  | [t] => inB t 0 1000000
  | _ => false
def ruleF : List RV → Bool
  | [k, n, p, h, d] => (isN p || inB p 0 1000000) && (kindF k && (inB n 1 9999 && (inB h 0 99 && inB d 1 9999)))
  | _ => false
theorem andF {a b : Bool} {Q : RVK} {M : RM} (h : Q (.bl (a && b)) M) (e : a = false) : Q (.bl false) M := by subst e; exact h
theorem andT {a b : Bool} {Q : RVK} {M : RM} (h : Q (.bl (a && b)) M) (e : a = true) : Q (.bl b) M := by subst e; exact h
def AllP : List RV → Prop
  | [] => True
  | x :: r => okP x ∧ AllP r
theorem neLen {n : Nat} {k : Nat} (e : (!eqR (.int (n : Int)) (.int (k : Int))) = false) : n = k := by
  simp [eqR] at e; omega
theorem neLen' {n : Nat} {k : Nat} (e : (!eqR (.int (n : Int)) (.int (k : Int))) = true) : n ≠ k := by
  simp [eqR] at e; omega
theorem eqLen {n : Nat} {k : Nat} (e : eqR (.int (n : Int)) (.int (k : Int)) = true) : n = k := by
  simp [eqR] at e; omega
theorem eqLen' {n : Nat} {k : Nat} (e : eqR (.int (n : Int)) (.int (k : Int)) = false) : n ≠ k := by
  simp [eqR] at e; omega
theorem len1 {ps : List RV} (h : ps.length = 1) : ∃ a0, ps = [a0] := by
  match ps, h with
  | [a0], _ => exact ⟨a0, rfl⟩
theorem len5 {ps : List RV} (h : ps.length = 5) : ∃ a0 a1 a2 a3 a4, ps = [a0, a1, a2, a3, a4] := by
  match ps, h with
  | [a0, a1, a2, a3, a4], _ => exact ⟨a0, a1, a2, a3, a4, rfl⟩
theorem len6 {ps : List RV} (h : ps.length = 6) : ∃ a0 a1 a2 a3 a4 a5, ps = [a0, a1, a2, a3, a4, a5] := by
  match ps, h with
  | [a0, a1, a2, a3, a4, a5], _ => exact ⟨a0, a1, a2, a3, a4, a5, rfl⟩
theorem len7 {ps : List RV} (h : ps.length = 7) : ∃ a0 a1 a2 a3 a4 a5 a6, ps = [a0, a1, a2, a3, a4, a5, a6] := by
  match ps, h with
  | [a0, a1, a2, a3, a4, a5, a6], _ => exact ⟨a0, a1, a2, a3, a4, a5, a6, rfl⟩
theorem outF_no {ps : List RV} (h : ps.length ≠ 7) : outF ps = false := by
  unfold outF
  split
  · exact absurd rfl h
  · rfl
theorem comeF_no {ps : List RV} (h : ps.length ≠ 6) : comeF ps = false := by
  unfold comeF
  split
  · exact absurd rfl h
  · rfl
theorem lostF_no {ps : List RV} (h : ps.length ≠ 5) : lostF ps = false := by
  unfold lostF
  split
  · exact absurd rfl h
  · rfl
theorem ruleF_no {ps : List RV} (h : ps.length ≠ 5) : ruleF ps = false := by
  unfold ruleF
  split
  · exact absurd rfl h
  · rfl
theorem tickF_no {ps : List RV} (h : ps.length ≠ 1) : tickF ps = false := by
  unfold tickF
  split
  · exact absurd rfl h
  · rfl
theorem ne_out_come : ¬ (("out" : Str) = "come") := by decide +kernel
theorem ne_out_lost : ¬ (("out" : Str) = "lost") := by decide +kernel
theorem ne_out_wait : ¬ (("out" : Str) = "wait") := by decide +kernel
theorem ne_out_rule : ¬ (("out" : Str) = "rule") := by decide +kernel
theorem ne_out_unrule : ¬ (("out" : Str) = "unrule") := by decide +kernel
theorem ne_come_lost : ¬ (("come" : Str) = "lost") := by decide +kernel
theorem ne_come_wait : ¬ (("come" : Str) = "wait") := by decide +kernel
theorem ne_come_rule : ¬ (("come" : Str) = "rule") := by decide +kernel
theorem ne_come_unrule : ¬ (("come" : Str) = "unrule") := by decide +kernel
theorem ne_lost_wait : ¬ (("lost" : Str) = "wait") := by decide +kernel
theorem ne_lost_rule : ¬ (("lost" : Str) = "rule") := by decide +kernel
theorem ne_lost_unrule : ¬ (("lost" : Str) = "unrule") := by decide +kernel
theorem ne_wait_rule : ¬ (("wait" : Str) = "rule") := by decide +kernel
theorem ne_wait_unrule : ¬ (("wait" : Str) = "unrule") := by decide +kernel
theorem ne_rule_unrule : ¬ (("rule" : Str) = "unrule") := by decide +kernel

def okD (n : Nat) (x : RV) : Prop := okR n x = true ∧ ∀ s, x = .str s → s.length ≤ 1000
theorem okD.up {n : Nat} {x : RV} (h : okD n x) : okD (n + 1) x := ⟨ok_mono h.1, h.2⟩
def AllD (n : Nat) : List RV → Prop
  | [] => True
  | x :: r => okD n x ∧ AllD n r
theorem AllD.mem {n : Nat} : ∀ {xs : List RV}, AllD n xs → ∀ v ∈ xs, okD n v
  | x :: r, h, v, m => by
    rcases List.mem_cons.mp m with rfl | m
    · exact h.1
    · exact AllD.mem h.2 v m
theorem AllD.of {n : Nat} : ∀ {xs : List RV}, (∀ v ∈ xs, okD n v) → AllD n xs
  | [], _ => trivial
  | x :: r, h => ⟨h x List.mem_cons_self, AllD.of fun v m => h v (List.mem_cons_of_mem _ m)⟩
theorem AllD.up {n : Nat} {xs : List RV} (h : AllD n xs) : AllD (n + 1) xs := AllD.of fun v m => (h.mem v m).up
theorem cut_sub {xs : List RV} {lo hi : Option Int} {v : RV} (h : v ∈ cutR xs lo hi) : v ∈ xs := by
  unfold cutR at h
  exact List.mem_of_mem_drop (List.mem_of_mem_take h)
theorem cut_le (xs : List RV) (lo hi : Option Int) : (cutR xs lo hi).length ≤ xs.length := by
  unfold cutR
  rw [List.length_take, List.length_drop]
  omega
theorem sum_ones : ∀ {zs : List Str}, (∀ z ∈ zs, z.length = 1) → (zs.map (·.length)).sum = zs.length
  | [], _ => rfl
  | z :: zs, h => by
    rw [List.map_cons, List.sum_cons, h z List.mem_cons_self, sum_ones fun y m => h y (List.mem_cons_of_mem _ m), List.length_cons]
    omega
theorem Bag.other {M : RM} {b p : Addr} {n : Int} {x : RO} (h : Bag M b n) (hp : p ≠ b) : Bag (R.put M p x) b n := by
  obtain ⟨o, e, k⟩ := h
  exact ⟨o, by rw [put_ne (fun z => hp z.symm)]; exact e, k⟩
theorem put_at {M : RM} {b p : Addr} {x y : RO} (h : M p = some y) (hp : p ≠ b) : put M b x p = some y := by rw [put_ne hp]; exact h

@[irreducible] def sp_is_whole : RSp := fun rs M Q => ∃ x, rs = [x] ∧ okP x ∧ Q (.bl (isWh x)) M
theorem fn_is_whole {f : Addr} {fd : FuncData} (F : Fun K "is_whole" "is_whole" s_is_whole f fd) (T : Txt P w K mg)  : FnOk P w K mg base CX0 1 f fd ["thing"] (upSp K sp_is_whole) := by
  refine' rfnok F sc_is_whole (fun rs M Q h => ?len) (fun cdv A outer s H E hr => ?term) (fun rs M Q h => ?body)
  case term =>
   refine' sone ?h16
   case' h16 => refine' sret ?h15
   case' h15 => refine' randv ?h13 ?h14
   case' h13 => refine' rcallB cisi_int T.b_isinstance bt_isinstance ?h12 (hg := gl_is_whole_isinstance) (hdb := db_isinstance) (hn := nn_isinstance)
   case' h12 => refine' acons ?h10 ?h11
   case' h10 => exact rvN 0 no_is_whole
   case' h11 => refine' acons ?h8 ?h9
   case' h8 => exact rty_int T.b_int gl_is_whole_int
   case' h9 => exact anil
   case' h14 => refine' rone ?h7
   case' h7 => refine' rnotv ?h6
   case' h6 => refine' rcallB cisi_bool T.b_isinstance bt_isinstance ?h5 (hg := gl_is_whole_isinstance) (hdb := db_isinstance) (hn := nn_isinstance)
   case' h5 => refine' acons ?h3 ?h4
   case' h3 => exact rvN 0 no_is_whole
   case' h4 => refine' acons ?h1 ?h2
   case' h1 => exact rty_bool T.b_bool gl_is_whole_bool
   case' h2 => exact anil
  case len =>
    unfold sp_is_whole at h; obtain ⟨x, rfl, _⟩ := h; rfl
  case body =>
    unfold sp_is_whole at h
    obtain ⟨x, rfl, hx, h⟩ := h
    cases x <;> first | exact (okP_ref hx).elim | exact (okP_ty hx).elim | (walk_at "rs"; exact h)
theorem is_whole_do {M : RM} {x : RV} {Q : RVK} (hx : okP x) (h : Q (.bl (isWh x)) M) : sp_is_whole [x] M Q := by unfold sp_is_whole; exact ⟨x, rfl, hx, h⟩
@[irreducible] def sp_is_kind : RSp := fun rs M Q => ∃ x, rs = [x] ∧ okP x ∧ Q (.bl (kindF x)) M
theorem fn_is_kind {f : Addr} {fd : FuncData} (F : Fun K "is_kind" "is_kind" s_is_kind f fd) (T : Txt P w K mg)  : FnOk P w K mg base CX0 1 f fd ["thing"] (upSp K sp_is_kind) := by
  refine' rfnok F sc_is_kind (fun rs M Q h => ?len) (fun cdv A outer s H E hr => ?term) (fun rs M Q h => ?body)
  case term =>
   refine' sone ?h4
   case' h4 => refine' sret ?h3
   case' h3 => refine' rcmp (oin hr.units) ?h1 ?h2
   case' h1 => exact rvN 0 no_is_kind
   case' h2 => exact rgt T.c_KINDS (hg := gl_is_kind_KINDS) (hd := db_KINDS)
  case len =>
    unfold sp_is_kind at h; obtain ⟨x, rfl, _⟩ := h; rfl
  case body =>
    unfold sp_is_kind at h
    obtain ⟨x, rfl, hx, h⟩ := h
    walk_at "rs"
    exact do_inT hx.ok15 rfl h
theorem is_kind_do {M : RM} {x : RV} {Q : RVK} (hx : okP x) (h : Q (.bl (kindF x)) M) : sp_is_kind [x] M Q := by unfold sp_is_kind; exact ⟨x, rfl, hx, h⟩
@[irreducible] def sp_is_word : RSp := fun rs M Q => ∃ k x, rs = [k, x] ∧ okP k ∧ okP x ∧ Q (.bl (wordF k x)) M
theorem fn_is_word {f : Addr} {fd : FuncData} (F : Fun K "is_word" "is_word" s_is_word f fd) (T : Txt P w K mg)  : FnOk P w K mg base CX0 1 f fd ["kind", "thing"] (upSp K sp_is_word) := by
  refine' rfnok F sc_is_word (fun rs M Q h => ?len) (fun cdv A outer s H E hr => ?term) (fun rs M Q h => ?body)
  case term =>
   refine' scons ?h14 ?h15
   case' h14 => refine' sif ?h11 ?h12 ?h13
   case' h11 => refine' rtcmp (oeq hr.units) ?h5 ?h6
   case' h5 => exact rvN 0 no_is_word
   case' h6 => exact rs
   case' h12 => refine' sone ?h10
   case' h10 => refine' sret ?h9
   case' h9 => refine' rcmp (oin hr.units) ?h7 ?h8
   case' h7 => exact rvN 1 no_is_word
   case' h8 => exact rgt T.c_NOTE_WORDS (hg := gl_is_word_NOTE_WORDS) (hd := db_NOTE_WORDS)
   case' h13 => exact snil
   case' h15 => refine' sone ?h4
   case' h4 => refine' sret ?h3
   case' h3 => refine' rcmp (oin hr.units) ?h1 ?h2
   case' h1 => exact rvN 1 no_is_word
   case' h2 => exact rgt T.c_LINE_WORDS (hg := gl_is_word_LINE_WORDS) (hd := db_LINE_WORDS)
  case len =>
    unfold sp_is_word at h; obtain ⟨k, x, rfl, _⟩ := h; rfl
  case body =>
    unfold sp_is_word at h
    obtain ⟨k, x, rfl, hk, hx, h⟩ := h
    walk_at "rs"
    refine do_eq hk.ok16 rfl ?_
    walk_at "rs"
    refine do_kB (fun e => ?_) fun e => ?_
    · walk_at "rs"
      rw [show wordF k x = inR x (txs ["say"]) from if_pos e] at h
      exact do_inT hx.ok15 rfl h
    · walk_at "rs"
      rw [show wordF k x = inR x (txs ["open", "say", "close", "break"]) from if_neg (by rw [e]; exact Bool.false_ne_true)] at h
      exact do_inT hx.ok15 rfl h
theorem is_word_do {M : RM} {k x : RV} {Q : RVK} (hk : okP k) (hx : okP x) (h : Q (.bl (wordF k x)) M) : sp_is_word [k, x] M Q := by unfold sp_is_word; exact ⟨k, x, rfl, hk, hx, h⟩
@[irreducible] def sp_is_sign : RSp := fun rs M Q => ∃ c : Nat, rs = [.str ⟨#[c]⟩] ∧ Q (.bl (signF c)) M
theorem fn_is_sign {f : Addr} {fd : FuncData} (F : Fun K "is_sign" "is_sign" s_is_sign f fd) (T : Txt P w K mg)  : FnOk P w K mg base CX0 1 f fd ["sign"] (upSp K sp_is_sign) := by
  refine' rfnok F sc_is_sign (fun rs M Q h => ?len) (fun cdv A outer s H E hr => ?term) (fun rs M Q h => ?body)
  case term =>
   refine' scons ?h15 ?h16
   case' h15 => refine' ssetN 1 no_is_sign ?h14
   case' h14 => refine' rcallB cord T.b_ord bt_ord ?h13 (hg := gl_is_sign_ord) (hdb := db_ord) (hn := nn_ord)
   case' h13 => refine' acons ?h11 ?h12
   case' h11 => exact rvN 0 no_is_sign
   case' h12 => exact anil
   case' h16 => refine' sone ?h10
   case' h10 => refine' sret ?h9
   case' h9 => refine' randv ?h7 ?h8
   case' h7 => refine' rchain ole ole ?h4 ?h5 ?h6
   case' h4 => exact rgi T.c_FIRST_SIGN (hg := gl_is_sign_FIRST_SIGN) (hd := db_FIRST_SIGN)
   case' h5 => exact rvN 1 no_is_sign
   case' h6 => exact rgi T.c_LAST_SIGN (hg := gl_is_sign_LAST_SIGN) (hd := db_LAST_SIGN)
   case' h8 => refine' rone ?h3
   case' h3 => refine' rcmp (one hr.units) ?h1 ?h2
   case' h1 => exact rvN 1 no_is_sign
   case' h2 => exact rgi T.c_PERCENT_SIGN (hg := gl_is_sign_PERCENT_SIGN) (hd := db_PERCENT_SIGN)
  case len =>
    unfold sp_is_sign at h; obtain ⟨c, rfl, _⟩ := h; rfl
  case body =>
    unfold sp_is_sign at h
    obtain ⟨c, rfl, h⟩ := h
    walk_at "rs"
    refine do_kch (fun e => ?_) fun e => ?_
    · walk_at "rs"
      have h2 := andT h e
      refine do_kand (fun e2 => ?_) fun e2 => andF h2 e2
      walk_at "rs"
      exact andT h2 e2
    · exact do_kandF (andF h e)
theorem is_sign_do {M : RM} {c : Nat} {Q : RVK} (h : Q (.bl (signF c)) M) : sp_is_sign [.str ⟨#[c]⟩] M Q := by unfold sp_is_sign; exact ⟨c, rfl, h⟩

def byName (n : Str) (ps : List RV) : Bool := if n = "out" then outF ps else if n = "come" then comeF ps else if n = "lost" then lostF ps else if n = "wait" then tickF ps else if n = "rule" then ruleF ps else if n = "unrule" then tickF ps else false
def deedF : RV → Bool
  | .tup (.str n :: ps) => byName n ps
  | _ => false
def nameR : RV → RV
  | .tup (.str n :: _) => .str n
  | _ => .non
def okT (x : RV) : Prop := okR 14 x = true ∧ ∀ xs, x = .tup xs → AllP xs
theorem lkD_out {f0 f1 f2 f3 f4 f5 : Addr} : lookK (kvsD f0 f1 f2 f3 f4 f5) (Sum.inr "out") = some (.ref f0) := lk_here
theorem by_out {ps : List RV} : byName "out" ps = outF ps := if_pos rfl
theorem lkD_come {f0 f1 f2 f3 f4 f5 : Addr} : lookK (kvsD f0 f1 f2 f3 f4 f5) (Sum.inr "come") = some (.ref f1) := (lk_next (ne_inr ne_out_come)).trans (lk_here)
theorem by_come {ps : List RV} : byName "come" ps = comeF ps := (if_neg fun e => ne_out_come e.symm).trans (if_pos rfl)
theorem lkD_lost {f0 f1 f2 f3 f4 f5 : Addr} : lookK (kvsD f0 f1 f2 f3 f4 f5) (Sum.inr "lost") = some (.ref f2) := (lk_next (ne_inr ne_out_lost)).trans ((lk_next (ne_inr ne_come_lost)).trans (lk_here))
theorem by_lost {ps : List RV} : byName "lost" ps = lostF ps := (if_neg fun e => ne_out_lost e.symm).trans ((if_neg fun e => ne_come_lost e.symm).trans (if_pos rfl))
theorem lkD_wait {f0 f1 f2 f3 f4 f5 : Addr} : lookK (kvsD f0 f1 f2 f3 f4 f5) (Sum.inr "wait") = some (.ref f3) := (lk_next (ne_inr ne_out_wait)).trans ((lk_next (ne_inr ne_come_wait)).trans ((lk_next (ne_inr ne_lost_wait)).trans (lk_here)))
theorem by_wait {ps : List RV} : byName "wait" ps = tickF ps := (if_neg fun e => ne_out_wait e.symm).trans ((if_neg fun e => ne_come_wait e.symm).trans ((if_neg fun e => ne_lost_wait e.symm).trans (if_pos rfl)))
theorem lkD_rule {f0 f1 f2 f3 f4 f5 : Addr} : lookK (kvsD f0 f1 f2 f3 f4 f5) (Sum.inr "rule") = some (.ref f4) := (lk_next (ne_inr ne_out_rule)).trans ((lk_next (ne_inr ne_come_rule)).trans ((lk_next (ne_inr ne_lost_rule)).trans ((lk_next (ne_inr ne_wait_rule)).trans (lk_here))))
theorem by_rule {ps : List RV} : byName "rule" ps = ruleF ps := (if_neg fun e => ne_out_rule e.symm).trans ((if_neg fun e => ne_come_rule e.symm).trans ((if_neg fun e => ne_lost_rule e.symm).trans ((if_neg fun e => ne_wait_rule e.symm).trans (if_pos rfl))))
theorem lkD_unrule {f0 f1 f2 f3 f4 f5 : Addr} : lookK (kvsD f0 f1 f2 f3 f4 f5) (Sum.inr "unrule") = some (.ref f5) := (lk_next (ne_inr ne_out_unrule)).trans ((lk_next (ne_inr ne_come_unrule)).trans ((lk_next (ne_inr ne_lost_unrule)).trans ((lk_next (ne_inr ne_wait_unrule)).trans ((lk_next (ne_inr ne_rule_unrule)).trans (lk_here)))))
theorem by_unrule {ps : List RV} : byName "unrule" ps = tickF ps := (if_neg fun e => ne_out_unrule e.symm).trans ((if_neg fun e => ne_come_unrule e.symm).trans ((if_neg fun e => ne_lost_unrule e.symm).trans ((if_neg fun e => ne_wait_unrule e.symm).trans ((if_neg fun e => ne_rule_unrule e.symm).trans (if_pos rfl)))))
theorem lkD_no {f0 f1 f2 f3 f4 f5 : Addr} {n : Str} (n_out : ¬ n = "out") (n_come : ¬ n = "come") (n_lost : ¬ n = "lost") (n_wait : ¬ n = "wait") (n_rule : ¬ n = "rule") (n_unrule : ¬ n = "unrule") : lookK (kvsD f0 f1 f2 f3 f4 f5) (Sum.inr n) = none := (lk_next (ne_inr fun e => n_out e.symm)).trans ((lk_next (ne_inr fun e => n_come e.symm)).trans ((lk_next (ne_inr fun e => n_lost e.symm)).trans ((lk_next (ne_inr fun e => n_wait e.symm)).trans ((lk_next (ne_inr fun e => n_rule e.symm)).trans ((lk_next (ne_inr fun e => n_unrule e.symm)).trans (rfl))))))
theorem by_no {n : Str} {ps : List RV} (n_out : ¬ n = "out") (n_come : ¬ n = "come") (n_lost : ¬ n = "lost") (n_wait : ¬ n = "wait") (n_rule : ¬ n = "rule") (n_unrule : ¬ n = "unrule") : byName n ps = false := (if_neg n_out).trans ((if_neg n_come).trans ((if_neg n_lost).trans ((if_neg n_wait).trans ((if_neg n_rule).trans ((if_neg n_unrule).trans (rfl))))))
theorem cut1 {y : RV} {ps : List RV} : cutR (y :: ps) (some 1) none = ps := by
  unfold cutR
  have e1 : HT.sIx (y :: ps).length 0 (some 1) = 1 := by simp [HT.sIx]
  have e2 : HT.sIx (y :: ps).length (y :: ps).length none = (y :: ps).length := rfl
  rw [e1, e2]
  simp

@[irreducible] def sp_name_of : RSp := fun rs M Q => ∃ x, rs = [x] ∧ okT x ∧ Q (nameR x) M
theorem fn_name_of {f : Addr} {fd : FuncData} (F : Fun K "name_of" "name_of" s_name_of f fd) (T : Txt P w K mg)  : FnOk P w K mg base CX0 1 f fd ["thing"] (upSp K sp_name_of) := by
  refine' rfnok F sc_name_of (fun rs M Q h => ?len) (fun cdv A outer s H E hr => ?term) (fun rs M Q h => ?body)
  case term =>
   refine' scons ?h37 ?h38
   case' h37 => refine' sif ?h34 ?h35 ?h36
   case' h34 => refine' rtw ?h31
   case' h31 => refine' ror ?h29 ?h30
   case' h29 => refine' rtnot ?h28
   case' h28 => refine' rtval ?h27
   case' h27 => refine' rcallB cisi_tuple T.b_isinstance bt_isinstance ?h26 (hg := gl_name_of_isinstance) (hdb := db_isinstance) (hn := nn_isinstance)
   case' h26 => refine' acons ?h24 ?h25
   case' h24 => exact rvN 0 no_name_of
   case' h25 => refine' acons ?h22 ?h23
   case' h22 => exact rty_tuple T.b_tuple gl_name_of_tuple
   case' h23 => exact anil
   case' h30 => refine' ror ?h20 ?h21
   case' h20 => refine' rtcmp (oeq hr.units) ?h18 ?h19
   case' h18 => refine' rcallB clen T.b_len bt_len ?h17 (hg := gl_name_of_len) (hdb := db_len) (hn := nn_len)
   case' h17 => refine' acons ?h15 ?h16
   case' h15 => exact rvN 0 no_name_of
   case' h16 => exact anil
   case' h19 => exact ri
   case' h21 => refine' ror1 ?h14
   case' h14 => refine' rtnot ?h13
   case' h13 => refine' rtval ?h12
   case' h12 => refine' rcallB cisi_str T.b_isinstance bt_isinstance ?h11 (hg := gl_name_of_isinstance) (hdb := db_isinstance) (hn := nn_isinstance)
   case' h11 => refine' acons ?h9 ?h10
   case' h9 => refine' rix ?h7 ?h8
   case' h7 => exact rvN 0 no_name_of
   case' h8 => exact ri
   case' h10 => refine' acons ?h5 ?h6
   case' h5 => exact rty_str T.b_str gl_name_of_str
   case' h6 => exact anil
   case' h35 => refine' sone ?h33
   case' h33 => refine' sret ?h32
   case' h32 => exact rn
   case' h36 => exact snil
   case' h38 => refine' sone ?h4
   case' h4 => refine' sret ?h3
   case' h3 => refine' rix ?h1 ?h2
   case' h1 => exact rvN 0 no_name_of
   case' h2 => exact ri
  case len =>
    unfold sp_name_of at h; obtain ⟨x, rfl, _⟩ := h; rfl
  case body =>
    unfold sp_name_of at h
    obtain ⟨x, rfl, hx, h⟩ := h
    cases x with
    | ref a => exact (by have := hx.1; simp [okR] at this)
    | ty a => exact (by have := hx.1; simp [okR] at this)
    | tup xs =>
      have hxs := hx.2 xs rfl
      walk_at "rs"
      refine do_kB (fun e => ?_) fun e => ?_
      · have e0 : xs.length = 0 := eqLen (k := 0) e
        have e1 : xs = [] := List.eq_nil_of_length_eq_zero e0
        subst e1
        walk_at "rs"
        exact h
      · have e0 : xs.length ≠ 0 := eqLen' (k := 0) e
        obtain ⟨y, ps, rfl⟩ := List.exists_cons_of_ne_nil (l := xs) (fun z => e0 (by rw [z]; rfl))
        walk_at "rs"
        refine do_kat at0 ?_
        cases y with
        | ref a => exact (okP_ref hxs.1).elim
        | ty a => exact (okP_ty hxs.1).elim
        | str n =>
          walk_at "rs"
          refine do_kat at0 ?_
          walk_at "rs"
          exact h
        | _ => (walk_at "rs"; exact h)
    | _ => (walk_at "rs"; exact h)
theorem name_of_do {M : RM} {x : RV} {Q : RVK} (hx : okT x) (h : Q (nameR x) M) : sp_name_of [x] M Q := by unfold sp_name_of; exact ⟨x, rfl, hx, h⟩
@[irreducible] def sp__law_cell : RSp := fun rs M Q => ∃ (ns : List Int) (k : Int), rs = [.ls (ns.map RV.int), .int k] ∧ 0 ≤ k ∧ ∀ i : Int, Q (.int i) M
theorem fn__law_cell {f : Addr} {fd : FuncData} (F : Fun K "_law_cell" "_law_cell" s__law_cell f fd) (T : Txt P w K mg)  : FnOk P w K mg base CX0 1 f fd ["script", "k"] (upSp K sp__law_cell) := by
  refine' rfnok F sc__law_cell (fun rs M Q h => ?len) (fun cdv A outer s H E hr => ?term) (fun rs M Q h => ?body)
  case term =>
   refine' scons ?h15 ?h16
   case' h15 => refine' sif ?h12 ?h13 ?h14
   case' h12 => refine' rtcmp olt ?h6 ?h7
   case' h6 => exact rvN 1 no__law_cell
   case' h7 => refine' rcallB clen T.b_len bt_len ?h5 (hg := gl__law_cell_len) (hdb := db_len) (hn := nn_len)
   case' h5 => refine' acons ?h3 ?h4
   case' h3 => exact rvN 0 no__law_cell
   case' h4 => exact anil
   case' h13 => refine' sone ?h11
   case' h11 => refine' sret ?h10
   case' h10 => refine' rix ?h8 ?h9
   case' h8 => exact rvN 0 no__law_cell
   case' h9 => exact rvN 1 no__law_cell
   case' h14 => exact snil
   case' h16 => refine' sone ?h2
   case' h2 => refine' sret ?h1
   case' h1 => exact ri
  case len =>
    unfold sp__law_cell at h; obtain ⟨ns, k, rfl, _⟩ := h; rfl
  case body =>
    unfold sp__law_cell at h
    obtain ⟨ns, k, rfl, h0, h⟩ := h
    simp only [R.rSeq, R.rIfS, R.rSet, R.rRet, R.rRetN, R.rTest, R.rOp, R.rVar, R.rC, R.rCons, R.rNil, R.rCall, R.rTup, R.rLsF, R.rLst, R.rIx, R.rAsg, R.rgSub, R.rgN, R.rgU, R.setAll, R.rInt0, R.rInt2, R.rAdd, R.rNext, R.rDrop, R.rIf, R.rAnd, R.rOr, R.rNot, R.rAndV, R.rOrV, R.rNotV, R.rChain, R.rUn, R.rgNeg, R.rSl, R.rPart, R.rNoP, R.rSlc, R.rForI, R.rItS, R.rItR, R.rRngI, R.rComp, R.rYes, R.rTuple, R.rLen, R.rIsi, R.rEqq, R.rNeq, R.rIs, R.rIsNot, R.rTab, R.rDispGet, R.rSetL, R.rMul, R.isN, R.keyR, R.rstart, R.is_int, R.is_bool, R.is_str, R.is_tuple, R.is_list, R.rGt, R.rMod, R.rDiv, R.rPow, R.rShr, R.rBand, R.rLt, R.rLe, R.rGe, R.rSub, List.map_cons, List.map_nil, List.set_cons_zero, List.set_cons_succ, List.length_cons, List.length_nil, List.replicate_succ, List.replicate_zero, List.cons_append, List.nil_append, List.getElem?_cons_zero, List.getElem?_cons_succ, Nat.reduceSub, Nat.reduceAdd, true_implies, Bool.false_eq_true, Bool.true_eq_false, reduceCtorEq, false_implies, and_true, true_and, Option.join_some, Nat.zero_add, decide_eq_true_eq, decide_eq_false_iff_not, List.append_nil]
    refine ⟨fun hk => ?_, fun _ => h 0⟩
    refine at_do h0 (by simpa using hk) fun v hv => ?_
    obtain ⟨i, _, rfl⟩ := List.mem_map.mp hv
    exact h i
theorem cell_do {M : RM} {ns : List Int} {k : Int} {Q : RVK} (h0 : 0 ≤ k) (h : ∀ i : Int, Q (.int i) M) : sp__law_cell [.ls (ns.map RV.int), .int k] M Q := by
  unfold sp__law_cell; exact ⟨ns, k, rfl, h0, h⟩
@[irreducible] def sp__law_well : RSp := fun rs M Q => ∃ (c : Int), rs = [.int c, .int 0] ∧ ∀ (p : Addr) (o : RO), M p = none → BagO o 0 → Q (.ref p) (put M p o)
theorem fn__law_well {f : Addr} {fd : FuncData} (F : Fun K "_law_well" "_law_well" s__law_well f fd) (T : Txt P w K mg)  : FnOk P w K mg base CX0 1 f fd ["cell", "turn"] (upSp K sp__law_well) := by
  refine' rfnok F sc__law_well (fun rs M Q h => ?len) (fun cdv A outer s H E hr => ?term) (fun rs M Q h => ?body)
  case term =>
   refine' scons ?h34 ?h35
   case' h34 => refine' sif ?h31 ?h32 ?h33
   case' h31 => refine' rtcmp oge ?h14 ?h15
   case' h14 => exact rvN 0 no__law_well
   case' h15 => refine' rop opow ?h12 ?h13
   case' h12 => exact ri
   case' h13 => exact ri
   case' h32 => refine' sone ?h30
   case' h30 => refine' sret ?h29
   case' h29 => refine' rlst ?h28
   case' h28 => refine' acons ?h26 ?h27
   case' h26 => refine' rop osub ?h24 ?h25
   case' h24 => exact rvN 0 no__law_well
   case' h25 => refine' rop opow ?h22 ?h23
   case' h22 => exact ri
   case' h23 => exact ri
   case' h27 => refine' acons ?h20 ?h21
   case' h20 => refine' rop omod ?h18 ?h19
   case' h18 => exact rvN 0 no__law_well
   case' h19 => exact ri
   case' h21 => refine' acons ?h16 ?h17
   case' h16 => exact rvN 1 no__law_well
   case' h17 => exact anil
   case' h33 => exact snil
   case' h35 => refine' sone ?h11
   case' h11 => refine' sret ?h10
   case' h10 => refine' rlst ?h9
   case' h9 => refine' acons ?h7 ?h8
   case' h7 => exact ri
   case' h8 => refine' acons ?h5 ?h6
   case' h5 => refine' rop omod ?h3 ?h4
   case' h3 => exact rvN 0 no__law_well
   case' h4 => exact ri
   case' h6 => refine' acons ?h1 ?h2
   case' h1 => exact rvN 1 no__law_well
   case' h2 => exact anil
  case len =>
    unfold sp__law_well at h; obtain ⟨c, rfl, _⟩ := h; rfl
  case body =>
    unfold sp__law_well at h
    obtain ⟨c, rfl, h⟩ := h
    simp only [R.rSeq, R.rIfS, R.rSet, R.rRet, R.rRetN, R.rTest, R.rOp, R.rVar, R.rC, R.rCons, R.rNil, R.rCall, R.rTup, R.rLsF, R.rLst, R.rIx, R.rAsg, R.rgSub, R.rgN, R.rgU, R.setAll, R.rInt0, R.rInt2, R.rAdd, R.rNext, R.rDrop, R.rIf, R.rAnd, R.rOr, R.rNot, R.rAndV, R.rOrV, R.rNotV, R.rChain, R.rUn, R.rgNeg, R.rSl, R.rPart, R.rNoP, R.rSlc, R.rForI, R.rItS, R.rItR, R.rRngI, R.rComp, R.rYes, R.rTuple, R.rLen, R.rIsi, R.rEqq, R.rNeq, R.rIs, R.rIsNot, R.rTab, R.rDispGet, R.rSetL, R.rMul, R.isN, R.keyR, R.rstart, R.is_int, R.is_bool, R.is_str, R.is_tuple, R.is_list, R.rGt, R.rMod, R.rDiv, R.rPow, R.rShr, R.rBand, R.rLt, R.rLe, R.rGe, R.rSub, List.map_cons, List.map_nil, List.set_cons_zero, List.set_cons_succ, List.length_cons, List.length_nil, List.replicate_succ, List.replicate_zero, List.cons_append, List.nil_append, List.getElem?_cons_zero, List.getElem?_cons_succ, Nat.reduceSub, Nat.reduceAdd, true_implies, Bool.false_eq_true, Bool.true_eq_false, reduceCtorEq, false_implies, and_true, true_and, Option.join_some, Nat.zero_add, decide_eq_true_eq, decide_eq_false_iff_not, List.append_nil]
    have e18 : (10 : Int) ^ Int.toNat 18 = 1000000000000000000 := by decide
    rw [e18]
    refine ⟨⟨by decide, by decide, by decide⟩, fun hc => ⟨⟨by decide, by decide, by decide⟩, by decide, szl, fun p hp => ?_⟩, fun _ => ⟨by decide, szl, fun p hp => ?_⟩⟩
    · exact h p _ hp ⟨_, _, 0, rfl, by omega, Int.emod_nonneg _ (by decide), Int.emod_lt_of_pos _ (by decide), by decide, by decide⟩
    · exact h p _ hp ⟨_, _, 0, rfl, by decide, Int.emod_nonneg _ (by decide), Int.emod_lt_of_pos _ (by decide), by decide, by decide⟩
theorem well_do {M : RM} {c : Int} {Q : RVK} (h : ∀ (p : Addr) (o : RO), M p = none → BagO o 0 → Q (.ref p) (put M p o)) : sp__law_well [.int c, .int 0] M Q := by
  unfold sp__law_well; exact ⟨c, rfl, h⟩
@[irreducible] def sp__law_take : RSp := fun rs M Q => ∃ (b : Addr) (m n : Int), rs = [.ref b, .int m] ∧ 0 < m ∧ m < 1073741824 ∧ Bag M b n ∧ n ≤ 100000 ∧ ∀ (r : Int) (o : RO), 0 ≤ r → r < m → BagO o (n + 1) → Q (.int r) (put M b o)
theorem fn__law_take {f : Addr} {fd : FuncData} (F : Fun K "_law_take" "_law_take" s__law_take f fd) (T : Txt P w K mg)  : FnOk P w K mg base CX0 1 f fd ["bag", "many"] (upSp K sp__law_take) := by
  refine' rfnok F sc__law_take (fun rs M Q h => ?len) (fun cdv A outer s H E hr => ?term) (fun rs M Q h => ?body)
  case term =>
   refine' scons ?h78 ?h79
   case' h78 => refine' sif ?h75 ?h76 ?h77
   case' h75 => refine' rtcmp ogt ?h55 ?h56
   case' h55 => refine' rix ?h53 ?h54
   case' h53 => exact rvN 0 no__law_take
   case' h54 => exact ri
   case' h56 => exact ri
   case' h76 => refine' scons ?h73 ?h74
   case' h73 => refine' ssetN 4 no__law_take ?h72
   case' h72 => refine' rop omod ?h70 ?h71
   case' h70 => refine' rix ?h68 ?h69
   case' h68 => exact rvN 0 no__law_take
   case' h69 => exact ri
   case' h71 => exact rvN 1 no__law_take
   case' h74 => refine' scons ?h66 ?h67
   case' h66 => refine' sasg ?h63 (gsub ?h64 ?h65 osetl)
   case' h63 => refine' rop odiv ?h61 ?h62
   case' h61 => refine' rix ?h59 ?h60
   case' h59 => exact rvN 0 no__law_take
   case' h60 => exact ri
   case' h62 => exact rvN 1 no__law_take
   case' h64 => exact rvN 0 no__law_take
   case' h65 => exact ri
   case' h67 => refine' sone ?h58
   case' h58 => refine' sret ?h57
   case' h57 => exact rvN 4 no__law_take
   case' h77 => exact snil
   case' h79 => refine' scons ?h51 ?h52
   case' h51 => refine' sasg ?h48 (gsub ?h49 ?h50 osetl)
   case' h48 => refine' rop oadd ?h46 ?h47
   case' h46 => refine' rix ?h44 ?h45
   case' h44 => exact rvN 0 no__law_take
   case' h45 => exact ri
   case' h47 => exact ri
   case' h49 => exact rvN 0 no__law_take
   case' h50 => exact ri
   case' h52 => refine' scons ?h42 ?h43
   case' h42 => refine' ssetN 2 no__law_take ?h41
   case' h41 => exact ri
   case' h43 => refine' scons ?h39 ?h40
   case' h39 => refine' ssetN 3 no__law_take ?h38
   case' h38 => refine' rop omod ?h36 ?h37
   case' h36 => refine' rop oadd ?h34 ?h35
   case' h34 => refine' rix ?h28 ?h29
   case' h28 => exact rvN 0 no__law_take
   case' h29 => exact ri
   case' h35 => refine' rop omul ?h32 ?h33
   case' h32 => exact ri
   case' h33 => refine' rix ?h30 ?h31
   case' h30 => exact rvN 0 no__law_take
   case' h31 => exact ri
   case' h37 => exact rvN 2 no__law_take
   case' h40 => refine' scons ?h26 ?h27
   case' h26 => refine' ssetN 3 no__law_take ?h25
   case' h25 => refine' rop omod ?h23 ?h24
   case' h23 => refine' rop oadd ?h21 ?h22
   case' h21 => refine' rop oadd ?h19 ?h20
   case' h19 => refine' rop omul ?h11 ?h12
   case' h11 => exact rvN 3 no__law_take
   case' h12 => exact rvN 3 no__law_take
   case' h20 => refine' rop omul ?h17 ?h18
   case' h17 => exact ri
   case' h18 => refine' rop opow ?h15 ?h16
   case' h15 => refine' rix ?h13 ?h14
   case' h13 => exact rvN 0 no__law_take
   case' h14 => exact ri
   case' h16 => exact ri
   case' h22 => exact ri
   case' h24 => exact rvN 2 no__law_take
   case' h27 => refine' sone ?h10
   case' h10 => refine' sret ?h9
   case' h9 => refine' rop omod ?h7 ?h8
   case' h7 => refine' rop odiv ?h5 ?h6
   case' h5 => refine' rop omod ?h3 ?h4
   case' h3 => refine' rop opow ?h1 ?h2
   case' h1 => exact rvN 3 no__law_take
   case' h2 => exact ri
   case' h4 => exact rvN 2 no__law_take
   case' h6 => exact ri
   case' h8 => exact rvN 1 no__law_take
  case len =>
    unfold sp__law_take at h; obtain ⟨b, m, n, rfl, _⟩ := h; rfl
  case body =>
    unfold sp__law_take at h
    obtain ⟨b, m, n, rfl, m0, m1, ⟨o, hb, x, y, t, rfl, x0, y0, y1, t0, t1⟩, hn, h⟩ := h
    simp only [R.rSeq, R.rIfS, R.rSet, R.rRet, R.rRetN, R.rTest, R.rOp, R.rVar, R.rC, R.rCons, R.rNil, R.rCall, R.rTup, R.rLsF, R.rLst, R.rIx, R.rAsg, R.rgSub, R.rgN, R.rgU, R.setAll, R.rInt0, R.rInt2, R.rAdd, R.rNext, R.rDrop, R.rIf, R.rAnd, R.rOr, R.rNot, R.rAndV, R.rOrV, R.rNotV, R.rChain, R.rUn, R.rgNeg, R.rSl, R.rPart, R.rNoP, R.rSlc, R.rForI, R.rItS, R.rItR, R.rRngI, R.rComp, R.rYes, R.rTuple, R.rLen, R.rIsi, R.rEqq, R.rNeq, R.rIs, R.rIsNot, R.rTab, R.rDispGet, R.rSetL, R.rMul, R.isN, R.keyR, R.rstart, R.is_int, R.is_bool, R.is_str, R.is_tuple, R.is_list, R.rGt, R.rMod, R.rDiv, R.rPow, R.rShr, R.rBand, R.rLt, R.rLe, R.rGe, R.rSub, List.map_cons, List.map_nil, List.set_cons_zero, List.set_cons_succ, List.length_cons, List.length_nil, List.replicate_succ, List.replicate_zero, List.cons_append, List.nil_append, List.getElem?_cons_zero, List.getElem?_cons_succ, Nat.reduceSub, Nat.reduceAdd, true_implies, Bool.false_eq_true, Bool.true_eq_false, reduceCtorEq, false_implies, and_true, true_and, Option.join_some, Nat.zero_add, decide_eq_true_eq, decide_eq_false_iff_not, List.append_nil, hb, at0, at1, at2, ix0, ix2, R.put_same, R.put_put]
    generalize e1 : (y + 1000003 * (t + 1)) % 2305843009213693951 = a
    have a0 : 0 ≤ a ∧ a < 2305843009213693951 := by subst e1; exact ⟨Int.emod_nonneg _ (by decide), Int.emod_lt_of_pos _ (by decide)⟩
    generalize e2 : (a * a + 7919 * (t + 1) ^ Int.toNat 2 + 5) % 2305843009213693951 = c
    have c0 : 0 ≤ c ∧ c < 2305843009213693951 := by subst e2; exact ⟨Int.emod_nonneg _ (by decide), Int.emod_lt_of_pos _ (by decide)⟩
    refine ⟨fun hx => ⟨m0, ⟨m0, m1⟩, h _ _ (Int.emod_nonneg _ (by omega)) (Int.emod_lt_of_pos _ m0) ⟨x / m, y, t, rfl, Int.ediv_nonneg x0 (by omega), y0, y1, t0, by omega⟩⟩, fun hx => ⟨cmul_left (by decide) (by decide), by decide, cmul_left (by omega) (by omega), ⟨by decide, by decide, small64 (by omega) (by omega)⟩, cmul_left (by decide) (by decide), by decide, ⟨by decide, by decide, small64 (by omega) (by omega)⟩, by decide, ⟨by decide, by decide⟩, m0, h _ _ (Int.emod_nonneg _ (by omega)) (Int.emod_lt_of_pos _ m0) ⟨x, y, t + 1, rfl, x0, y0, y1, by omega, by omega⟩⟩⟩
theorem take_do {M : RM} {b : Addr} {m n : Int} {Q : RVK} (hB : Bag M b n) (m0 : 0 < m) (m1 : m < 1073741824) (hn : n ≤ 100000) (h : ∀ (r : Int) (o : RO), 0 ≤ r → r < m → BagO o (n + 1) → Q (.int r) (put M b o)) : sp__law_take [.ref b, .int m] M Q :=
  by unfold sp__law_take; exact ⟨b, m, n, rfl, m0, m1, hB, hn, h⟩
@[irreducible] def sp_is_whole_within : RSp := fun rs M Q => ∃ x lo hi, rs = [x, .int lo, .int hi] ∧ okP x ∧ Q (.bl (inB x lo hi)) M
theorem fn_is_whole_within {f : Addr} {fd : FuncData} (F : Fun K "is_whole_within" "is_whole_within" s_is_whole_within f fd) (T : Txt P w K mg) (F_is_whole : RFn P w K mg base 1 "is_whole" ["thing"] sp_is_whole) : FnOk P w K mg base CX0 2 f fd ["thing", "least", "greatest"] (upSp K sp_is_whole_within) := by
  refine' rfnok F sc_is_whole_within (fun rs M Q h => ?len) (fun cdv A outer s H E hr => ?term) (fun rs M Q h => ?body)
  case term =>
   refine' sone ?h11
   case' h11 => refine' sret ?h10
   case' h10 => refine' randv ?h8 ?h9
   case' h8 => refine' rcallF F_is_whole (hr.mono (by decide)) ?h7 (hg := gl_is_whole_within_is_whole) (hdb := db_is_whole)
   case' h7 => refine' acons ?h5 ?h6
   case' h5 => exact rvN 0 no_is_whole_within
   case' h6 => exact anil
   case' h9 => refine' rone ?h4
   case' h4 => refine' rchain ole ole ?h1 ?h2 ?h3
   case' h1 => exact rvN 1 no_is_whole_within
   case' h2 => exact rvN 0 no_is_whole_within
   case' h3 => exact rvN 2 no_is_whole_within
  case len =>
    unfold sp_is_whole_within at h; obtain ⟨x, lo, hi, rfl, _⟩ := h; rfl
  case body =>
    unfold sp_is_whole_within at h
    obtain ⟨x, lo, hi, rfl, hx, h⟩ := h
    walk_at "rs"
    refine is_whole_do hx ?_
    cases x with
    | int i =>
      refine do_kand (fun _ => ?_) (fun e => (by cases e))
      walk_at "rs"
      refine do_kch (fun e => ?_) fun e => andF h e
      walk_at "rs"
      exact andT h e
    | _ => exact do_kand (fun e => (by cases e)) (fun _ => h)
theorem within_do {M : RM} {x : RV} {lo hi : Int} {Q : RVK} (hx : okP x) (h : Q (.bl (inB x lo hi)) M) : sp_is_whole_within [x, .int lo, .int hi] M Q := by unfold sp_is_whole_within; exact ⟨x, lo, hi, rfl, hx, h⟩
@[irreducible] def sp_is_text : RSp := fun rs M Q => ∃ x, rs = [x] ∧ okP x ∧ Q (.bl (textF x)) M
theorem fn_is_text {f : Addr} {fd : FuncData} (F : Fun K "is_text" "is_text" s_is_text f fd) (T : Txt P w K mg) (F_is_sign : RFn P w K mg base 1 "is_sign" ["sign"] sp_is_sign) : FnOk P w K mg base CX0 2 f fd ["thing"] (upSp K sp_is_text) := by
  refine' rfnok F sc_is_text (fun rs M Q h => ?len) (fun cdv A outer s H E hr => ?term) (fun rs M Q h => ?body)
  case term =>
   refine' scons ?h34 ?h35
   case' h34 => refine' sif ?h31 ?h32 ?h33
   case' h31 => refine' rtw ?h28
   case' h28 => refine' ror ?h26 ?h27
   case' h26 => refine' rtnot ?h25
   case' h25 => refine' rtval ?h24
   case' h24 => refine' rcallB cisi_str T.b_isinstance bt_isinstance ?h23 (hg := gl_is_text_isinstance) (hdb := db_isinstance) (hn := nn_isinstance)
   case' h23 => refine' acons ?h21 ?h22
   case' h21 => exact rvN 0 no_is_text
   case' h22 => refine' acons ?h19 ?h20
   case' h19 => exact rty_str T.b_str gl_is_text_str
   case' h20 => exact anil
   case' h27 => refine' ror1 ?h18
   case' h18 => refine' rtcmp ogt ?h16 ?h17
   case' h16 => refine' rcallB clen T.b_len bt_len ?h15 (hg := gl_is_text_len) (hdb := db_len) (hn := nn_len)
   case' h15 => refine' acons ?h13 ?h14
   case' h13 => exact rvN 0 no_is_text
   case' h14 => exact anil
   case' h17 => exact rgi T.c_MOST_SIGNS (hg := gl_is_text_MOST_SIGNS) (hd := db_MOST_SIGNS)
   case' h32 => refine' sone ?h30
   case' h30 => refine' sret ?h29
   case' h29 => exact rb
   case' h33 => exact snil
   case' h35 => refine' sone ?h12
   case' h12 => refine' sret ?h11
   case' h11 => refine' rcallB (call_all rfl) T.b_all bt_all ?h10 (hg := gl_is_text_all) (hdb := db_all) (hn := nn_all)
   case' h10 => refine' acons ?h8 ?h9
   case' h8 => refine' rcompN [] (osc := defScope s_is_text) (oN := N_is_text) rfl ?h5 (fun cl C s H fp vb => ?h6) (fun cl C s H fp vb => ?h7) rfl rfl (by decide +kernel) (by decide +kernel) (by decide +kernel) rfl (by decide +kernel) (by decide +kernel) (by decide +kernel) (by decide +kernel)
   case' h5 => refine' istr ?h1
   case' h1 => exact rvN 0 no_is_text
   case' h6 => exact tnil
   case' h7 => refine' rcallF F_is_sign (hr.mono (by decide)) ?h4 (hg := (glB (by decide +kernel))) (hdb := db_is_sign)
   case' h4 => refine' acons ?h2 ?h3
   case' h2 => exact rvB 0 vb
   case' h3 => exact anil
   case' h9 => exact anil
  case len =>
    unfold sp_is_text at h; obtain ⟨x, rfl, _⟩ := h; rfl
  case body =>
    unfold sp_is_text at h
    obtain ⟨x, rfl, hx, h⟩ := h
    cases x with
    | ref a => exact (okP_ref hx).elim
    | ty a => exact (okP_ty hx).elim
    | str s =>
      walk_at "rs"
      refine do_len_s (szl (hx.2 s rfl)) ?_
      walk_at "rs"
      refine do_kB (fun e => ?_) fun e => ?_
      · walk_at "rs"
        exact andF h (decide_eq_false (by have := of_decide_eq_true e; omega))
      · walk_at "rs"
        refine ⟨?_, ?_⟩
        · have := hx.2 s rfl
          have e2 : (signsR s).length = s.length := by simp [signsR, Str.length]
          rw [e2]; exact Nat.lt_of_le_of_lt this (by decide)
        · refine comp_map (f := fun v => match v with | .str z => .bl (signF (z.cps.getD 0 0)) | _ => .non) _ _ (fun y hy Q' hq => ?_) ?_
          · obtain ⟨c, _, rfl⟩ := List.mem_map.mp hy
            walk_at "rs"
            exact is_sign_do hq
          · walk_at "rs"
            have e3 : ([] ++ (signsR s).map fun v => (match v with | .str z => .bl (signF (z.cps.getD 0 0)) | _ => .non : RV)) = (s.cps.toList.map signF).map RV.bl := by
              simp [signsR, List.map_map, Function.comp_def]
            rw [e3]
            exact do_all _ (andT h (decide_eq_true (by have := of_decide_eq_false e; omega)))
    | _ => (walk_at "rs"; exact h)
theorem is_text_do {M : RM} {x : RV} {Q : RVK} (hx : okP x) (h : Q (.bl (textF x)) M) : sp_is_text [x] M Q := by unfold sp_is_text; exact ⟨x, rfl, hx, h⟩
@[irreducible] def sp_is_house : RSp := fun rs M Q => ∃ x, rs = [x] ∧ okP x ∧ Q (.bl (inB x 0 99)) M
theorem fn_is_house {f : Addr} {fd : FuncData} (F : Fun K "is_house" "is_house" s_is_house f fd) (T : Txt P w K mg) (F_is_whole_within : RFn P w K mg base 2 "is_whole_within" ["thing", "least", "greatest"] sp_is_whole_within) : FnOk P w K mg base CX0 3 f fd ["thing"] (upSp K sp_is_house) := by
  refine' rfnok F sc_is_house (fun rs M Q h => ?len) (fun cdv A outer s H E hr => ?term) (fun rs M Q h => ?body)
  case term =>
   refine' sone ?h9
   case' h9 => refine' sret ?h8
   case' h8 => refine' rcallF F_is_whole_within (hr.mono (by decide)) ?h7 (hg := gl_is_house_is_whole_within) (hdb := db_is_whole_within)
   case' h7 => refine' acons ?h5 ?h6
   case' h5 => exact rvN 0 no_is_house
   case' h6 => refine' acons ?h3 ?h4
   case' h3 => exact ri
   case' h4 => refine' acons ?h1 ?h2
   case' h1 => exact rgi T.c_GREATEST_HOUSE (hg := gl_is_house_GREATEST_HOUSE) (hd := db_GREATEST_HOUSE)
   case' h2 => exact anil
  case len =>
    unfold sp_is_house at h; obtain ⟨x, rfl, _⟩ := h; rfl
  case body =>
    unfold sp_is_house at h
    obtain ⟨x, rfl, hx, h⟩ := h
    walk_at "rs"
    exact within_do hx h
theorem is_house_do {M : RM} {x : RV} {Q : RVK} (hx : okP x) (h : Q (.bl (inB x 0 99)) M) : sp_is_house [x] M Q := by unfold sp_is_house; exact ⟨x, rfl, hx, h⟩
@[irreducible] def sp_is_door : RSp := fun rs M Q => ∃ x, rs = [x] ∧ okP x ∧ Q (.bl (inB x 1 9999)) M
theorem fn_is_door {f : Addr} {fd : FuncData} (F : Fun K "is_door" "is_door" s_is_door f fd) (T : Txt P w K mg) (F_is_whole_within : RFn P w K mg base 2 "is_whole_within" ["thing", "least", "greatest"] sp_is_whole_within) : FnOk P w K mg base CX0 3 f fd ["thing"] (upSp K sp_is_door) := by
  refine' rfnok F sc_is_door (fun rs M Q h => ?len) (fun cdv A outer s H E hr => ?term) (fun rs M Q h => ?body)
  case term =>
   refine' sone ?h9
   case' h9 => refine' sret ?h8
   case' h8 => refine' rcallF F_is_whole_within (hr.mono (by decide)) ?h7 (hg := gl_is_door_is_whole_within) (hdb := db_is_whole_within)
   case' h7 => refine' acons ?h5 ?h6
   case' h5 => exact rvN 0 no_is_door
   case' h6 => refine' acons ?h3 ?h4
   case' h3 => exact ri
   case' h4 => refine' acons ?h1 ?h2
   case' h1 => exact rgi T.c_GREATEST_DOOR (hg := gl_is_door_GREATEST_DOOR) (hd := db_GREATEST_DOOR)
   case' h2 => exact anil
  case len =>
    unfold sp_is_door at h; obtain ⟨x, rfl, _⟩ := h; rfl
  case body =>
    unfold sp_is_door at h
    obtain ⟨x, rfl, hx, h⟩ := h
    walk_at "rs"
    exact within_do hx h
theorem is_door_do {M : RM} {x : RV} {Q : RVK} (hx : okP x) (h : Q (.bl (inB x 1 9999)) M) : sp_is_door [x] M Q := by unfold sp_is_door; exact ⟨x, rfl, hx, h⟩
@[irreducible] def sp_is_place : RSp := fun rs M Q => ∃ x, rs = [x] ∧ okP x ∧ Q (.bl (inB x 0 1000000)) M
theorem fn_is_place {f : Addr} {fd : FuncData} (F : Fun K "is_place" "is_place" s_is_place f fd) (T : Txt P w K mg) (F_is_whole_within : RFn P w K mg base 2 "is_whole_within" ["thing", "least", "greatest"] sp_is_whole_within) : FnOk P w K mg base CX0 3 f fd ["thing"] (upSp K sp_is_place) := by
  refine' rfnok F sc_is_place (fun rs M Q h => ?len) (fun cdv A outer s H E hr => ?term) (fun rs M Q h => ?body)
  case term =>
   refine' sone ?h9
   case' h9 => refine' sret ?h8
   case' h8 => refine' rcallF F_is_whole_within (hr.mono (by decide)) ?h7 (hg := gl_is_place_is_whole_within) (hdb := db_is_whole_within)
   case' h7 => refine' acons ?h5 ?h6
   case' h5 => exact rvN 0 no_is_place
   case' h6 => refine' acons ?h3 ?h4
   case' h3 => exact ri
   case' h4 => refine' acons ?h1 ?h2
   case' h1 => exact rgi T.c_GREATEST_PLACE (hg := gl_is_place_GREATEST_PLACE) (hd := db_GREATEST_PLACE)
   case' h2 => exact anil
  case len =>
    unfold sp_is_place at h; obtain ⟨x, rfl, _⟩ := h; rfl
  case body =>
    unfold sp_is_place at h
    obtain ⟨x, rfl, hx, h⟩ := h
    walk_at "rs"
    exact within_do hx h
theorem is_place_do {M : RM} {x : RV} {Q : RVK} (hx : okP x) (h : Q (.bl (inB x 0 1000000)) M) : sp_is_place [x] M Q := by unfold sp_is_place; exact ⟨x, rfl, hx, h⟩
@[irreducible] def sp_is_outer_place : RSp := fun rs M Q => ∃ x, rs = [x] ∧ okP x ∧ Q (.bl (inB x 1 1000000)) M
theorem fn_is_outer_place {f : Addr} {fd : FuncData} (F : Fun K "is_outer_place" "is_outer_place" s_is_outer_place f fd) (T : Txt P w K mg) (F_is_whole_within : RFn P w K mg base 2 "is_whole_within" ["thing", "least", "greatest"] sp_is_whole_within) : FnOk P w K mg base CX0 3 f fd ["thing"] (upSp K sp_is_outer_place) := by
  refine' rfnok F sc_is_outer_place (fun rs M Q h => ?len) (fun cdv A outer s H E hr => ?term) (fun rs M Q h => ?body)
  case term =>
   refine' sone ?h9
   case' h9 => refine' sret ?h8
   case' h8 => refine' rcallF F_is_whole_within (hr.mono (by decide)) ?h7 (hg := gl_is_outer_place_is_whole_within) (hdb := db_is_whole_within)
   case' h7 => refine' acons ?h5 ?h6
   case' h5 => exact rvN 0 no_is_outer_place
   case' h6 => refine' acons ?h3 ?h4
   case' h3 => exact ri
   case' h4 => refine' acons ?h1 ?h2
   case' h1 => exact rgi T.c_GREATEST_PLACE (hg := gl_is_outer_place_GREATEST_PLACE) (hd := db_GREATEST_PLACE)
   case' h2 => exact anil
  case len =>
    unfold sp_is_outer_place at h; obtain ⟨x, rfl, _⟩ := h; rfl
  case body =>
    unfold sp_is_outer_place at h
    obtain ⟨x, rfl, hx, h⟩ := h
    walk_at "rs"
    exact within_do hx h
theorem is_outer_place_do {M : RM} {x : RV} {Q : RVK} (hx : okP x) (h : Q (.bl (inB x 1 1000000)) M) : sp_is_outer_place [x] M Q := by unfold sp_is_outer_place; exact ⟨x, rfl, hx, h⟩
@[irreducible] def sp_is_ticks : RSp := fun rs M Q => ∃ x, rs = [x] ∧ okP x ∧ Q (.bl (inB x 0 1000000)) M
theorem fn_is_ticks {f : Addr} {fd : FuncData} (F : Fun K "is_ticks" "is_ticks" s_is_ticks f fd) (T : Txt P w K mg) (F_is_whole_within : RFn P w K mg base 2 "is_whole_within" ["thing", "least", "greatest"] sp_is_whole_within) : FnOk P w K mg base CX0 3 f fd ["thing"] (upSp K sp_is_ticks) := by
  refine' rfnok F sc_is_ticks (fun rs M Q h => ?len) (fun cdv A outer s H E hr => ?term) (fun rs M Q h => ?body)
  case term =>
   refine' sone ?h9
   case' h9 => refine' sret ?h8
   case' h8 => refine' rcallF F_is_whole_within (hr.mono (by decide)) ?h7 (hg := gl_is_ticks_is_whole_within) (hdb := db_is_whole_within)
   case' h7 => refine' acons ?h5 ?h6
   case' h5 => exact rvN 0 no_is_ticks
   case' h6 => refine' acons ?h3 ?h4
   case' h3 => exact ri
   case' h4 => refine' acons ?h1 ?h2
   case' h1 => exact rgi T.c_GREATEST_TICKS (hg := gl_is_ticks_GREATEST_TICKS) (hd := db_GREATEST_TICKS)
   case' h2 => exact anil
  case len =>
    unfold sp_is_ticks at h; obtain ⟨x, rfl, _⟩ := h; rfl
  case body =>
    unfold sp_is_ticks at h
    obtain ⟨x, rfl, hx, h⟩ := h
    walk_at "rs"
    exact within_do hx h
theorem is_ticks_do {M : RM} {x : RV} {Q : RVK} (hx : okP x) (h : Q (.bl (inB x 0 1000000)) M) : sp_is_ticks [x] M Q := by unfold sp_is_ticks; exact ⟨x, rfl, hx, h⟩
@[irreducible] def sp_is_letter : RSp := fun rs M Q => ∃ k w t, rs = [k, w, t] ∧ okP k ∧ okP w ∧ okP t ∧ Q (.bl (letterF k w t)) M
theorem fn_is_letter {f : Addr} {fd : FuncData} (F : Fun K "is_letter" "is_letter" s_is_letter f fd) (T : Txt P w K mg) (F_is_kind : RFn P w K mg base 1 "is_kind" ["thing"] sp_is_kind) (F_is_word : RFn P w K mg base 1 "is_word" ["kind", "thing"] sp_is_word) (F_is_text : RFn P w K mg base 2 "is_text" ["thing"] sp_is_text) : FnOk P w K mg base CX0 3 f fd ["kind", "word", "text"] (upSp K sp_is_letter) := by
  refine' rfnok F sc_is_letter (fun rs M Q h => ?len) (fun cdv A outer s H E hr => ?term) (fun rs M Q h => ?body)
  case term =>
   refine' sone ?h18
   case' h18 => refine' sret ?h17
   case' h17 => refine' randv ?h15 ?h16
   case' h15 => refine' rcallF F_is_kind (hr.mono (by decide)) ?h14 (hg := gl_is_letter_is_kind) (hdb := db_is_kind)
   case' h14 => refine' acons ?h12 ?h13
   case' h12 => exact rvN 0 no_is_letter
   case' h13 => exact anil
   case' h16 => refine' randv ?h10 ?h11
   case' h10 => refine' rcallF F_is_word (hr.mono (by decide)) ?h9 (hg := gl_is_letter_is_word) (hdb := db_is_word)
   case' h9 => refine' acons ?h7 ?h8
   case' h7 => exact rvN 0 no_is_letter
   case' h8 => refine' acons ?h5 ?h6
   case' h5 => exact rvN 1 no_is_letter
   case' h6 => exact anil
   case' h11 => refine' rone ?h4
   case' h4 => refine' rcallF F_is_text (hr.mono (by decide)) ?h3 (hg := gl_is_letter_is_text) (hdb := db_is_text)
   case' h3 => refine' acons ?h1 ?h2
   case' h1 => exact rvN 2 no_is_letter
   case' h2 => exact anil
  case len =>
    unfold sp_is_letter at h; obtain ⟨k, w, t, rfl, _⟩ := h; rfl
  case body =>
    unfold sp_is_letter at h
    obtain ⟨k, w, t, rfl, hk, hw, ht, h⟩ := h
    walk_at "rs"
    refine is_kind_do hk (do_kand (fun e => ?_) fun e => andF h e)
    walk_at "rs"
    refine is_word_do hk hw (do_kand (fun e2 => ?_) fun e2 => andF (andT h e) e2)
    walk_at "rs"
    exact is_text_do ht (andT (andT h e) e2)
theorem is_letter_do {M : RM} {k w t : RV} {Q : RVK} (hk : okP k) (hw : okP w) (ht : okP t) (h : Q (.bl (letterF k w t)) M) : sp_is_letter [k, w, t] M Q := by unfold sp_is_letter; exact ⟨k, w, t, rfl, hk, hw, ht, h⟩
@[irreducible] def sp_is_unrule : RSp := fun rs M Q => ∃ ps, rs = [.tup ps] ∧ AllP ps ∧ Q (.bl (tickF ps)) M
theorem fn_is_unrule {f : Addr} {fd : FuncData} (F : Fun K "is_unrule" "is_unrule" s_is_unrule f fd) (T : Txt P w K mg) (F_is_whole_within : RFn P w K mg base 2 "is_whole_within" ["thing", "least", "greatest"] sp_is_whole_within) : FnOk P w K mg base CX0 3 f fd ["parts"] (upSp K sp_is_unrule) := by
  refine' rfnok F sc_is_unrule (fun rs M Q h => ?len) (fun cdv A outer s H E hr => ?term) (fun rs M Q h => ?body)
  case term =>
   refine' sone ?h19
   case' h19 => refine' sret ?h18
   case' h18 => refine' randv ?h16 ?h17
   case' h16 => refine' rcmp (oeq hr.units) ?h14 ?h15
   case' h14 => refine' rcallB clen T.b_len bt_len ?h13 (hg := gl_is_unrule_len) (hdb := db_len) (hn := nn_len)
   case' h13 => refine' acons ?h11 ?h12
   case' h11 => exact rvN 0 no_is_unrule
   case' h12 => exact anil
   case' h15 => exact ri
   case' h17 => refine' rone ?h10
   case' h10 => refine' rcallF F_is_whole_within (hr.mono (by decide)) ?h9 (hg := gl_is_unrule_is_whole_within) (hdb := db_is_whole_within)
   case' h9 => refine' acons ?h7 ?h8
   case' h7 => refine' rix ?h5 ?h6
   case' h5 => exact rvN 0 no_is_unrule
   case' h6 => exact ri
   case' h8 => refine' acons ?h3 ?h4
   case' h3 => exact ri
   case' h4 => refine' acons ?h1 ?h2
   case' h1 => exact rgi T.c_GREATEST_RULE (hg := gl_is_unrule_GREATEST_RULE) (hd := db_GREATEST_RULE)
   case' h2 => exact anil
  case len =>
    unfold sp_is_unrule at h; obtain ⟨ps, rfl, _⟩ := h; rfl
  case body =>
    unfold sp_is_unrule at h
    obtain ⟨ps, rfl, hx, h⟩ := h
    walk_at "rs"
    refine do_kand (fun e => ?_) fun e => ?_
    · obtain ⟨a, rfl⟩ := len1 (eqLen e)
      obtain ⟨ha, _⟩ := hx
      walk_at "rs"
      refine do_kat at0 ?_
      walk_at "rs"
      exact within_do ha h
    · rw [tickF_no (eqLen' e)] at h
      exact h
theorem is_unrule_do {M : RM} {ps : List RV} {Q : RVK} (hx : AllP ps) (h : Q (.bl (tickF ps)) M) : sp_is_unrule [.tup ps] M Q := by unfold sp_is_unrule; exact ⟨ps, rfl, hx, h⟩
@[irreducible] def sp_is_out : RSp := fun rs M Q => ∃ ps, rs = [.tup ps] ∧ AllP ps ∧ Q (.bl (outF ps)) M
theorem fn_is_out {f : Addr} {fd : FuncData} (F : Fun K "is_out" "is_out" s_is_out f fd) (T : Txt P w K mg) (F_is_house : RFn P w K mg base 3 "is_house" ["thing"] sp_is_house) (F_is_door : RFn P w K mg base 3 "is_door" ["thing"] sp_is_door) (F_is_place : RFn P w K mg base 3 "is_place" ["thing"] sp_is_place) (F_is_letter : RFn P w K mg base 3 "is_letter" ["kind", "word", "text"] sp_is_letter) : FnOk P w K mg base CX0 4 f fd ["parts"] (upSp K sp_is_out) := by
  refine' rfnok F sc_is_out (fun rs M Q h => ?len) (fun cdv A outer s H E hr => ?term) (fun rs M Q h => ?body)
  case term =>
   refine' scons ?h53 ?h54
   case' h53 => refine' sif ?h50 ?h51 ?h52
   case' h50 => refine' rtcmp (one hr.units) ?h46 ?h47
   case' h46 => refine' rcallB clen T.b_len bt_len ?h45 (hg := gl_is_out_len) (hdb := db_len) (hn := nn_len)
   case' h45 => refine' acons ?h43 ?h44
   case' h43 => exact rvN 0 no_is_out
   case' h44 => exact anil
   case' h47 => exact ri
   case' h51 => refine' sone ?h49
   case' h49 => refine' sret ?h48
   case' h48 => exact rb
   case' h52 => exact snil
   case' h54 => refine' scons ?h41 ?h42
   case' h41 => refine' sasg ?h39 ?h40
   case' h39 => exact rvN 0 no_is_out
   case' h40 => (refine' gtup (is := [1, 2, 3, 4, 5, 6, 7]) rfl ?h38; (case h38 => refine' pgs_cons (pgN 1 no_is_out) ?h37; (case h37 => refine' pgs_cons (pgN 2 no_is_out) ?h36; (case h36 => refine' pgs_cons (pgN 3 no_is_out) ?h35; (case h35 => refine' pgs_cons (pgN 4 no_is_out) ?h34; (case h34 => refine' pgs_cons (pgN 5 no_is_out) ?h33; (case h33 => refine' pgs_cons (pgN 6 no_is_out) ?h32; (case h32 => refine' pgs_cons (pgN 7 no_is_out) ?h31; (case h31 => exact pgs_nil)))))))))
   case' h42 => refine' sone ?h30
   case' h30 => refine' sret ?h29
   case' h29 => refine' randv ?h27 ?h28
   case' h27 => refine' rcallF F_is_house (hr.mono (by decide)) ?h26 (hg := gl_is_out_is_house) (hdb := db_is_house)
   case' h26 => refine' acons ?h24 ?h25
   case' h24 => exact rvN 2 no_is_out
   case' h25 => exact anil
   case' h28 => refine' randv ?h22 ?h23
   case' h22 => refine' rcallF F_is_door (hr.mono (by decide)) ?h21 (hg := gl_is_out_is_door) (hdb := db_is_door)
   case' h21 => refine' acons ?h19 ?h20
   case' h19 => exact rvN 3 no_is_out
   case' h20 => exact anil
   case' h23 => refine' randv ?h17 ?h18
   case' h17 => refine' rcallF F_is_place (hr.mono (by decide)) ?h16 (hg := gl_is_out_is_place) (hdb := db_is_place)
   case' h16 => refine' acons ?h14 ?h15
   case' h14 => exact rvN 4 no_is_out
   case' h15 => exact anil
   case' h18 => refine' randv ?h12 ?h13
   case' h12 => refine' rcallF F_is_door (hr.mono (by decide)) ?h11 (hg := gl_is_out_is_door) (hdb := db_is_door)
   case' h11 => refine' acons ?h9 ?h10
   case' h9 => exact rvN 5 no_is_out
   case' h10 => exact anil
   case' h13 => refine' rone ?h8
   case' h8 => refine' rcallF F_is_letter (hr.mono (by decide)) ?h7 (hg := gl_is_out_is_letter) (hdb := db_is_letter)
   case' h7 => refine' acons ?h5 ?h6
   case' h5 => exact rvN 1 no_is_out
   case' h6 => refine' acons ?h3 ?h4
   case' h3 => exact rvN 6 no_is_out
   case' h4 => refine' acons ?h1 ?h2
   case' h1 => exact rvN 7 no_is_out
   case' h2 => exact anil
  case len =>
    unfold sp_is_out at h; obtain ⟨ps, rfl, _⟩ := h; rfl
  case body =>
    unfold sp_is_out at h
    obtain ⟨ps, rfl, hx, h⟩ := h
    walk_at "rs"
    refine do_kB (fun e => ?_) fun e => ?_
    · walk_at "rs"
      rw [outF_no (neLen' e)] at h
      exact h
    · obtain ⟨k, h0, d, p, f, w, t, rfl⟩ := len7 (neLen e)
      obtain ⟨hk, hh0, hd, hp, hf, hw, ht, _⟩ := hx
      walk_at "rs"
      refine is_house_do hh0 (do_kand (fun e0 => ?_) fun e0 => andF (h) e0)
      walk_at "rs"
      refine is_door_do hd (do_kand (fun e1 => ?_) fun e1 => andF (andT (h) e0) e1)
      walk_at "rs"
      refine is_place_do hp (do_kand (fun e2 => ?_) fun e2 => andF (andT (andT (h) e0) e1) e2)
      walk_at "rs"
      refine is_door_do hf (do_kand (fun e3 => ?_) fun e3 => andF (andT (andT (andT (h) e0) e1) e2) e3)
      walk_at "rs"
      exact is_letter_do hk hw ht (andT (andT (andT (andT (h) e0) e1) e2) e3)
theorem is_out_do {M : RM} {ps : List RV} {Q : RVK} (hx : AllP ps) (h : Q (.bl (outF ps)) M) : sp_is_out [.tup ps] M Q := by unfold sp_is_out; exact ⟨ps, rfl, hx, h⟩
@[irreducible] def sp_is_come : RSp := fun rs M Q => ∃ ps, rs = [.tup ps] ∧ AllP ps ∧ Q (.bl (comeF ps)) M
theorem fn_is_come {f : Addr} {fd : FuncData} (F : Fun K "is_come" "is_come" s_is_come f fd) (T : Txt P w K mg) (F_is_door : RFn P w K mg base 3 "is_door" ["thing"] sp_is_door) (F_is_outer_place : RFn P w K mg base 3 "is_outer_place" ["thing"] sp_is_outer_place) (F_is_letter : RFn P w K mg base 3 "is_letter" ["kind", "word", "text"] sp_is_letter) : FnOk P w K mg base CX0 4 f fd ["parts"] (upSp K sp_is_come) := by
  refine' rfnok F sc_is_come (fun rs M Q h => ?len) (fun cdv A outer s H E hr => ?term) (fun rs M Q h => ?body)
  case term =>
   refine' scons ?h47 ?h48
   case' h47 => refine' sif ?h44 ?h45 ?h46
   case' h44 => refine' rtcmp (one hr.units) ?h40 ?h41
   case' h40 => refine' rcallB clen T.b_len bt_len ?h39 (hg := gl_is_come_len) (hdb := db_len) (hn := nn_len)
   case' h39 => refine' acons ?h37 ?h38
   case' h37 => exact rvN 0 no_is_come
   case' h38 => exact anil
   case' h41 => exact ri
   case' h45 => refine' sone ?h43
   case' h43 => refine' sret ?h42
   case' h42 => exact rb
   case' h46 => exact snil
   case' h48 => refine' scons ?h35 ?h36
   case' h35 => refine' sasg ?h33 ?h34
   case' h33 => exact rvN 0 no_is_come
   case' h34 => (refine' gtup (is := [1, 2, 3, 4, 5, 6]) rfl ?h32; (case h32 => refine' pgs_cons (pgN 1 no_is_come) ?h31; (case h31 => refine' pgs_cons (pgN 2 no_is_come) ?h30; (case h30 => refine' pgs_cons (pgN 3 no_is_come) ?h29; (case h29 => refine' pgs_cons (pgN 4 no_is_come) ?h28; (case h28 => refine' pgs_cons (pgN 5 no_is_come) ?h27; (case h27 => refine' pgs_cons (pgN 6 no_is_come) ?h26; (case h26 => exact pgs_nil))))))))
   case' h36 => refine' sone ?h25
   case' h25 => refine' sret ?h24
   case' h24 => refine' randv ?h22 ?h23
   case' h22 => refine' rcallF F_is_outer_place (hr.mono (by decide)) ?h21 (hg := gl_is_come_is_outer_place) (hdb := db_is_outer_place)
   case' h21 => refine' acons ?h19 ?h20
   case' h19 => exact rvN 2 no_is_come
   case' h20 => exact anil
   case' h23 => refine' randv ?h17 ?h18
   case' h17 => refine' rcallF F_is_door (hr.mono (by decide)) ?h16 (hg := gl_is_come_is_door) (hdb := db_is_door)
   case' h16 => refine' acons ?h14 ?h15
   case' h14 => exact rvN 3 no_is_come
   case' h15 => exact anil
   case' h18 => refine' randv ?h12 ?h13
   case' h12 => refine' rcallF F_is_door (hr.mono (by decide)) ?h11 (hg := gl_is_come_is_door) (hdb := db_is_door)
   case' h11 => refine' acons ?h9 ?h10
   case' h9 => exact rvN 4 no_is_come
   case' h10 => exact anil
   case' h13 => refine' rone ?h8
   case' h8 => refine' rcallF F_is_letter (hr.mono (by decide)) ?h7 (hg := gl_is_come_is_letter) (hdb := db_is_letter)
   case' h7 => refine' acons ?h5 ?h6
   case' h5 => exact rvN 1 no_is_come
   case' h6 => refine' acons ?h3 ?h4
   case' h3 => exact rvN 5 no_is_come
   case' h4 => refine' acons ?h1 ?h2
   case' h1 => exact rvN 6 no_is_come
   case' h2 => exact anil
  case len =>
    unfold sp_is_come at h; obtain ⟨ps, rfl, _⟩ := h; rfl
  case body =>
    unfold sp_is_come at h
    obtain ⟨ps, rfl, hx, h⟩ := h
    walk_at "rs"
    refine do_kB (fun e => ?_) fun e => ?_
    · walk_at "rs"
      rw [comeF_no (neLen' e)] at h
      exact h
    · obtain ⟨k, p, f, n, w, t, rfl⟩ := len6 (neLen e)
      obtain ⟨hk, hp, hf, hn, hw, ht, _⟩ := hx
      walk_at "rs"
      refine is_outer_place_do hp (do_kand (fun e0 => ?_) fun e0 => andF (h) e0)
      walk_at "rs"
      refine is_door_do hf (do_kand (fun e1 => ?_) fun e1 => andF (andT (h) e0) e1)
      walk_at "rs"
      refine is_door_do hn (do_kand (fun e2 => ?_) fun e2 => andF (andT (andT (h) e0) e1) e2)
      walk_at "rs"
      exact is_letter_do hk hw ht (andT (andT (andT (h) e0) e1) e2)
theorem is_come_do {M : RM} {ps : List RV} {Q : RVK} (hx : AllP ps) (h : Q (.bl (comeF ps)) M) : sp_is_come [.tup ps] M Q := by unfold sp_is_come; exact ⟨ps, rfl, hx, h⟩
@[irreducible] def sp_is_lost : RSp := fun rs M Q => ∃ ps, rs = [.tup ps] ∧ AllP ps ∧ Q (.bl (lostF ps)) M
theorem fn_is_lost {f : Addr} {fd : FuncData} (F : Fun K "is_lost" "is_lost" s_is_lost f fd) (T : Txt P w K mg) (F_is_door : RFn P w K mg base 3 "is_door" ["thing"] sp_is_door) (F_is_outer_place : RFn P w K mg base 3 "is_outer_place" ["thing"] sp_is_outer_place) (F_is_kind : RFn P w K mg base 1 "is_kind" ["thing"] sp_is_kind) : FnOk P w K mg base CX0 4 f fd ["parts"] (upSp K sp_is_lost) := by
  refine' rfnok F sc_is_lost (fun rs M Q h => ?len) (fun cdv A outer s H E hr => ?term) (fun rs M Q h => ?body)
  case term =>
   refine' scons ?h47 ?h48
   case' h47 => refine' sif ?h44 ?h45 ?h46
   case' h44 => refine' rtcmp (one hr.units) ?h40 ?h41
   case' h40 => refine' rcallB clen T.b_len bt_len ?h39 (hg := gl_is_lost_len) (hdb := db_len) (hn := nn_len)
   case' h39 => refine' acons ?h37 ?h38
   case' h37 => exact rvN 0 no_is_lost
   case' h38 => exact anil
   case' h41 => exact ri
   case' h45 => refine' sone ?h43
   case' h43 => refine' sret ?h42
   case' h42 => exact rb
   case' h46 => exact snil
   case' h48 => refine' scons ?h35 ?h36
   case' h35 => refine' sasg ?h33 ?h34
   case' h33 => exact rvN 0 no_is_lost
   case' h34 => (refine' gtup (is := [1, 2, 3, 4, 5]) rfl ?h32; (case h32 => refine' pgs_cons (pgN 1 no_is_lost) ?h31; (case h31 => refine' pgs_cons (pgN 2 no_is_lost) ?h30; (case h30 => refine' pgs_cons (pgN 3 no_is_lost) ?h29; (case h29 => refine' pgs_cons (pgN 4 no_is_lost) ?h28; (case h28 => refine' pgs_cons (pgN 5 no_is_lost) ?h27; (case h27 => exact pgs_nil)))))))
   case' h36 => refine' sone ?h26
   case' h26 => refine' sret ?h25
   case' h25 => refine' randv ?h23 ?h24
   case' h23 => refine' rcallF F_is_outer_place (hr.mono (by decide)) ?h22 (hg := gl_is_lost_is_outer_place) (hdb := db_is_outer_place)
   case' h22 => refine' acons ?h20 ?h21
   case' h20 => exact rvN 1 no_is_lost
   case' h21 => exact anil
   case' h24 => refine' randv ?h18 ?h19
   case' h18 => refine' rcallF F_is_kind (hr.mono (by decide)) ?h17 (hg := gl_is_lost_is_kind) (hdb := db_is_kind)
   case' h17 => refine' acons ?h15 ?h16
   case' h15 => exact rvN 2 no_is_lost
   case' h16 => exact anil
   case' h19 => refine' randv ?h13 ?h14
   case' h13 => refine' rcallF F_is_door (hr.mono (by decide)) ?h12 (hg := gl_is_lost_is_door) (hdb := db_is_door)
   case' h12 => refine' acons ?h10 ?h11
   case' h10 => exact rvN 3 no_is_lost
   case' h11 => exact anil
   case' h14 => refine' randv ?h8 ?h9
   case' h8 => refine' rcallF F_is_outer_place (hr.mono (by decide)) ?h7 (hg := gl_is_lost_is_outer_place) (hdb := db_is_outer_place)
   case' h7 => refine' acons ?h5 ?h6
   case' h5 => exact rvN 4 no_is_lost
   case' h6 => exact anil
   case' h9 => refine' rone ?h4
   case' h4 => refine' rcallF F_is_door (hr.mono (by decide)) ?h3 (hg := gl_is_lost_is_door) (hdb := db_is_door)
   case' h3 => refine' acons ?h1 ?h2
   case' h1 => exact rvN 5 no_is_lost
   case' h2 => exact anil
  case len =>
    unfold sp_is_lost at h; obtain ⟨ps, rfl, _⟩ := h; rfl
  case body =>
    unfold sp_is_lost at h
    obtain ⟨ps, rfl, hx, h⟩ := h
    walk_at "rs"
    refine do_kB (fun e => ?_) fun e => ?_
    · walk_at "rs"
      rw [lostF_no (neLen' e)] at h
      exact h
    · obtain ⟨t, k, n, p, f, rfl⟩ := len5 (neLen e)
      obtain ⟨ht, hk, hn, hp, hf, _⟩ := hx
      walk_at "rs"
      refine is_outer_place_do ht (do_kand (fun e0 => ?_) fun e0 => andF (h) e0)
      walk_at "rs"
      refine is_kind_do hk (do_kand (fun e1 => ?_) fun e1 => andF (andT (h) e0) e1)
      walk_at "rs"
      refine is_door_do hn (do_kand (fun e2 => ?_) fun e2 => andF (andT (andT (h) e0) e1) e2)
      walk_at "rs"
      refine is_outer_place_do hp (do_kand (fun e3 => ?_) fun e3 => andF (andT (andT (andT (h) e0) e1) e2) e3)
      walk_at "rs"
      exact is_door_do hf (andT (andT (andT (andT (h) e0) e1) e2) e3)
theorem is_lost_do {M : RM} {ps : List RV} {Q : RVK} (hx : AllP ps) (h : Q (.bl (lostF ps)) M) : sp_is_lost [.tup ps] M Q := by unfold sp_is_lost; exact ⟨ps, rfl, hx, h⟩
@[irreducible] def sp_is_wait : RSp := fun rs M Q => ∃ ps, rs = [.tup ps] ∧ AllP ps ∧ Q (.bl (tickF ps)) M
theorem fn_is_wait {f : Addr} {fd : FuncData} (F : Fun K "is_wait" "is_wait" s_is_wait f fd) (T : Txt P w K mg) (F_is_ticks : RFn P w K mg base 3 "is_ticks" ["thing"] sp_is_ticks) : FnOk P w K mg base CX0 4 f fd ["parts"] (upSp K sp_is_wait) := by
  refine' rfnok F sc_is_wait (fun rs M Q h => ?len) (fun cdv A outer s H E hr => ?term) (fun rs M Q h => ?body)
  case term =>
   refine' sone ?h15
   case' h15 => refine' sret ?h14
   case' h14 => refine' randv ?h12 ?h13
   case' h12 => refine' rcmp (oeq hr.units) ?h10 ?h11
   case' h10 => refine' rcallB clen T.b_len bt_len ?h9 (hg := gl_is_wait_len) (hdb := db_len) (hn := nn_len)
   case' h9 => refine' acons ?h7 ?h8
   case' h7 => exact rvN 0 no_is_wait
   case' h8 => exact anil
   case' h11 => exact ri
   case' h13 => refine' rone ?h6
   case' h6 => refine' rcallF F_is_ticks (hr.mono (by decide)) ?h5 (hg := gl_is_wait_is_ticks) (hdb := db_is_ticks)
   case' h5 => refine' acons ?h3 ?h4
   case' h3 => refine' rix ?h1 ?h2
   case' h1 => exact rvN 0 no_is_wait
   case' h2 => exact ri
   case' h4 => exact anil
  case len =>
    unfold sp_is_wait at h; obtain ⟨ps, rfl, _⟩ := h; rfl
  case body =>
    unfold sp_is_wait at h
    obtain ⟨ps, rfl, hx, h⟩ := h
    walk_at "rs"
    refine do_kand (fun e => ?_) fun e => ?_
    · obtain ⟨a, rfl⟩ := len1 (eqLen e)
      obtain ⟨ha, _⟩ := hx
      walk_at "rs"
      refine do_kat at0 ?_
      walk_at "rs"
      exact is_ticks_do ha h
    · rw [tickF_no (eqLen' e)] at h
      exact h
theorem is_wait_do {M : RM} {ps : List RV} {Q : RVK} (hx : AllP ps) (h : Q (.bl (tickF ps)) M) : sp_is_wait [.tup ps] M Q := by unfold sp_is_wait; exact ⟨ps, rfl, hx, h⟩
@[irreducible] def sp_is_rule : RSp := fun rs M Q => ∃ ps, rs = [.tup ps] ∧ AllP ps ∧ Q (.bl (ruleF ps)) M
theorem fn_is_rule {f : Addr} {fd : FuncData} (F : Fun K "is_rule" "is_rule" s_is_rule f fd) (T : Txt P w K mg) (F_is_house : RFn P w K mg base 3 "is_house" ["thing"] sp_is_house) (F_is_door : RFn P w K mg base 3 "is_door" ["thing"] sp_is_door) (F_is_place : RFn P w K mg base 3 "is_place" ["thing"] sp_is_place) (F_is_kind : RFn P w K mg base 1 "is_kind" ["thing"] sp_is_kind) : FnOk P w K mg base CX0 4 f fd ["parts"] (upSp K sp_is_rule) := by
  refine' rfnok F sc_is_rule (fun rs M Q h => ?len) (fun cdv A outer s H E hr => ?term) (fun rs M Q h => ?body)
  case term =>
   refine' scons ?h60 ?h61
   case' h60 => refine' sif ?h57 ?h58 ?h59
   case' h57 => refine' rtcmp (one hr.units) ?h53 ?h54
   case' h53 => refine' rcallB clen T.b_len bt_len ?h52 (hg := gl_is_rule_len) (hdb := db_len) (hn := nn_len)
   case' h52 => refine' acons ?h50 ?h51
   case' h50 => exact rvN 0 no_is_rule
   case' h51 => exact anil
   case' h54 => exact ri
   case' h58 => refine' sone ?h56
   case' h56 => refine' sret ?h55
   case' h55 => exact rb
   case' h59 => exact snil
   case' h61 => refine' scons ?h48 ?h49
   case' h48 => refine' sasg ?h46 ?h47
   case' h46 => exact rvN 0 no_is_rule
   case' h47 => (refine' gtup (is := [1, 2, 3, 4, 5]) rfl ?h45; (case h45 => refine' pgs_cons (pgN 1 no_is_rule) ?h44; (case h44 => refine' pgs_cons (pgN 2 no_is_rule) ?h43; (case h43 => refine' pgs_cons (pgN 3 no_is_rule) ?h42; (case h42 => refine' pgs_cons (pgN 4 no_is_rule) ?h41; (case h41 => refine' pgs_cons (pgN 5 no_is_rule) ?h40; (case h40 => exact pgs_nil)))))))
   case' h49 => refine' scons ?h38 ?h39
   case' h38 => refine' sif ?h35 ?h36 ?h37
   case' h35 => refine' rtw ?h32
   case' h32 => refine' rand ?h30 ?h31
   case' h30 => refine' rtcmp oisnot ?h28 ?h29
   case' h28 => exact rvN 3 no_is_rule
   case' h29 => exact rn
   case' h31 => refine' rand1 ?h27
   case' h27 => refine' rtnot ?h26
   case' h26 => refine' rtval ?h25
   case' h25 => refine' rcallF F_is_place (hr.mono (by decide)) ?h24 (hg := gl_is_rule_is_place) (hdb := db_is_place)
   case' h24 => refine' acons ?h22 ?h23
   case' h22 => exact rvN 3 no_is_rule
   case' h23 => exact anil
   case' h36 => refine' sone ?h34
   case' h34 => refine' sret ?h33
   case' h33 => exact rb
   case' h37 => exact snil
   case' h39 => refine' sone ?h21
   case' h21 => refine' sret ?h20
   case' h20 => refine' randv ?h18 ?h19
   case' h18 => refine' rcallF F_is_kind (hr.mono (by decide)) ?h17 (hg := gl_is_rule_is_kind) (hdb := db_is_kind)
   case' h17 => refine' acons ?h15 ?h16
   case' h15 => exact rvN 1 no_is_rule
   case' h16 => exact anil
   case' h19 => refine' randv ?h13 ?h14
   case' h13 => refine' rcallF F_is_door (hr.mono (by decide)) ?h12 (hg := gl_is_rule_is_door) (hdb := db_is_door)
   case' h12 => refine' acons ?h10 ?h11
   case' h10 => exact rvN 2 no_is_rule
   case' h11 => exact anil
   case' h14 => refine' randv ?h8 ?h9
   case' h8 => refine' rcallF F_is_house (hr.mono (by decide)) ?h7 (hg := gl_is_rule_is_house) (hdb := db_is_house)
   case' h7 => refine' acons ?h5 ?h6
   case' h5 => exact rvN 4 no_is_rule
   case' h6 => exact anil
   case' h9 => refine' rone ?h4
   case' h4 => refine' rcallF F_is_door (hr.mono (by decide)) ?h3 (hg := gl_is_rule_is_door) (hdb := db_is_door)
   case' h3 => refine' acons ?h1 ?h2
   case' h1 => exact rvN 5 no_is_rule
   case' h2 => exact anil
  case len =>
    unfold sp_is_rule at h; obtain ⟨ps, rfl, _⟩ := h; rfl
  case body =>
    unfold sp_is_rule at h
    obtain ⟨ps, rfl, hx, h⟩ := h
    walk_at "rs"
    refine do_kB (fun e => ?_) fun e => ?_
    · walk_at "rs"
      rw [ruleF_no (neLen' e)] at h
      exact h
    · obtain ⟨k, n, p, h0, d, rfl⟩ := len5 (neLen e)
      obtain ⟨hk, hn, hp, hh0, hd, _⟩ := hx
      walk_at "rs"
      refine do_kB (fun e1 => ?_) fun e1 => ?_
      · walk_at "rs"
        refine is_place_do hp ?_
        walk_at "rs"
        refine do_kB (fun e2 => ?_) fun e2 => ?_
        · walk_at "rs"
          exact andF h (by simp at e1 e2; simp [e1, e2])
        · walk_at "rs"
          replace h := andT h (by simp at e1 e2; simp [e1, e2])
          refine is_kind_do hk (do_kand (fun e0 => ?_) fun e0 => andF (h) e0)
          walk_at "rs"
          refine is_door_do hn (do_kand (fun e1 => ?_) fun e1 => andF (andT (h) e0) e1)
          walk_at "rs"
          refine is_house_do hh0 (do_kand (fun e2 => ?_) fun e2 => andF (andT (andT (h) e0) e1) e2)
          walk_at "rs"
          exact is_door_do hd (andT (andT (andT (h) e0) e1) e2)
      · walk_at "rs"
        replace h := andT h (by simp at e1; simp [e1])
        refine is_kind_do hk (do_kand (fun e0 => ?_) fun e0 => andF (h) e0)
        walk_at "rs"
        refine is_door_do hn (do_kand (fun e1 => ?_) fun e1 => andF (andT (h) e0) e1)
        walk_at "rs"
        refine is_house_do hh0 (do_kand (fun e2 => ?_) fun e2 => andF (andT (andT (h) e0) e1) e2)
        walk_at "rs"
        exact is_door_do hd (andT (andT (andT (h) e0) e1) e2)
theorem is_rule_do {M : RM} {ps : List RV} {Q : RVK} (hx : AllP ps) (h : Q (.bl (ruleF ps)) M) : sp_is_rule [.tup ps] M Q := by unfold sp_is_rule; exact ⟨ps, rfl, hx, h⟩
@[irreducible] def sp_is_deed : RSp := fun rs M Q => ∃ x, rs = [x] ∧ okT x ∧ Q (.bl (deedF x)) M
theorem fn_is_deed {f : Addr} {fd : FuncData} (F : Fun K "is_deed" "is_deed" s_is_deed f fd) (T : Txt P w K mg) (F_is_out : RFn P w K mg base 4 "is_out" ["parts"] sp_is_out) (F_is_come : RFn P w K mg base 4 "is_come" ["parts"] sp_is_come) (F_is_lost : RFn P w K mg base 4 "is_lost" ["parts"] sp_is_lost) (F_is_wait : RFn P w K mg base 4 "is_wait" ["parts"] sp_is_wait) (F_is_rule : RFn P w K mg base 4 "is_rule" ["parts"] sp_is_rule) (F_is_unrule : RFn P w K mg base 3 "is_unrule" ["parts"] sp_is_unrule) (F_name_of : RFn P w K mg base 1 "name_of" ["thing"] sp_name_of) : FnOk P w K mg base CX0 5 f fd ["thing"] (upSp K sp_is_deed) := by
  obtain ⟨f0, f1, f2, f3, f4, f5, m0, m1, m2, m3, m4, m5, tD⟩ := T.c_DEEDS; obtain ⟨fd0, k0, b0, F0⟩ := F_is_out.at m0; obtain ⟨fd1, k1, b1, F1⟩ := F_is_come.at m1; obtain ⟨fd2, k2, b2, F2⟩ := F_is_lost.at m2; obtain ⟨fd3, k3, b3, F3⟩ := F_is_wait.at m3; obtain ⟨fd4, k4, b4, F4⟩ := F_is_rule.at m4; obtain ⟨fd5, k5, b5, F5⟩ := F_is_unrule.at m5
  refine' rfnok F sc_is_deed (fun rs M Q h => ?len) (fun cdv A outer s H E hr => ?term) (fun rs M Q h => ?body)
  case term =>
   refine' scons ?h27 ?h28
   case' h27 => refine' ssetN 1 no_is_deed ?h26
   case' h26 => refine' rcallF F_name_of (hr.mono (by decide)) ?h25 (hg := gl_is_deed_name_of) (hdb := db_name_of)
   case' h25 => refine' acons ?h23 ?h24
   case' h23 => exact rvN 0 no_is_deed
   case' h24 => exact anil
   case' h28 => refine' scons ?h21 ?h22
   case' h21 => refine' sif ?h18 ?h19 ?h20
   case' h18 => refine' rttabnotN tD ?h15 (hg := gl_is_deed_DEEDS) (hd := db_DEEDS)
   case' h15 => exact rvN 1 no_is_deed
   case' h19 => refine' sone ?h17
   case' h17 => refine' sret ?h16
   case' h16 => exact rb
   case' h20 => exact snil
   case' h22 => refine' scons ?h13 ?h14
   case' h13 => refine' ssetN 2 no_is_deed ?h12
   case' h12 => refine' rtab tD ?h11 (hg := gl_is_deed_DEEDS) (hd := db_DEEDS)
   case' h11 => exact rvN 1 no_is_deed
   case' h14 => refine' sone ?h10
   case' h10 => refine' sret ?h9
   case' h9 => refine' rcallV [(f0, sp_is_out), (f1, sp_is_come), (f2, sp_is_lost), (f3, sp_is_wait), (f4, sp_is_rule), (f5, sp_is_unrule)] (by intro q hq; simp only [List.mem_cons, List.not_mem_nil, or_false] at hq; rcases hq with rfl | rfl | rfl | rfl | rfl | rfl <;> first | exact ⟨_, _, _, hr.mono (by decide), k0, b0, F0⟩ | exact ⟨_, _, _, hr.mono (by decide), k1, b1, F1⟩ | exact ⟨_, _, _, hr.mono (by decide), k2, b2, F2⟩ | exact ⟨_, _, _, hr.mono (by decide), k3, b3, F3⟩ | exact ⟨_, _, _, hr.mono (by decide), k4, b4, F4⟩ | exact ⟨_, _, _, hr.mono (by decide), k5, b5, F5⟩) ?h7 ?h8
   case' h7 => exact rvN 2 no_is_deed
   case' h8 => refine' acons ?h5 ?h6
   case' h5 => refine' rsl ?h2 ?h3 ?h4
   case' h2 => exact rvN 0 no_is_deed
   case' h3 => refine' psome ?h1
   case' h1 => exact ri
   case' h4 => exact pnone
   case' h6 => exact anil
  case len =>
    unfold sp_is_deed at h; obtain ⟨x, rfl, _⟩ := h; rfl
  case body =>
    unfold sp_is_deed at h
    obtain ⟨x, rfl, hx, h⟩ := h
    walk_at "rs"
    cases x with
    | tup xs =>
      cases xs with
      | nil => (refine name_of_do hx ?_; walk_at "rs"; refine do_ktabnotN0 ?_; walk_at "rs"; exact h)
      | cons y ps =>
        cases y with
        | str n =>
          have hxs := hx.2 _ rfl
          refine name_of_do hx ?_
          walk_at "rs"
          refine do_ktabnotN ?_
          walk_at "rs"
          by_cases n_out : n = "out"
          · subst n_out
            rw [show deedF (.tup (.str "out" :: ps)) = outF ps from by_out] at h
            refine do_kF' (by rw [lkD_out]; rfl) ?_
            walk_at "rs"
            refine do_ktab rfl lkD_out ?_
            walk_at "rs"
            refine do_kcallV (sp := sp_is_out) (by simp) ?_
            walk_at "rs"
            rw [cut1]
            exact is_out_do hxs.2 h
          by_cases n_come : n = "come"
          · subst n_come
            rw [show deedF (.tup (.str "come" :: ps)) = comeF ps from by_come] at h
            refine do_kF' (by rw [lkD_come]; rfl) ?_
            walk_at "rs"
            refine do_ktab rfl lkD_come ?_
            walk_at "rs"
            refine do_kcallV (sp := sp_is_come) (by simp) ?_
            walk_at "rs"
            rw [cut1]
            exact is_come_do hxs.2 h
          by_cases n_lost : n = "lost"
          · subst n_lost
            rw [show deedF (.tup (.str "lost" :: ps)) = lostF ps from by_lost] at h
            refine do_kF' (by rw [lkD_lost]; rfl) ?_
            walk_at "rs"
            refine do_ktab rfl lkD_lost ?_
            walk_at "rs"
            refine do_kcallV (sp := sp_is_lost) (by simp) ?_
            walk_at "rs"
            rw [cut1]
            exact is_lost_do hxs.2 h
          by_cases n_wait : n = "wait"
          · subst n_wait
            rw [show deedF (.tup (.str "wait" :: ps)) = tickF ps from by_wait] at h
            refine do_kF' (by rw [lkD_wait]; rfl) ?_
            walk_at "rs"
            refine do_ktab rfl lkD_wait ?_
            walk_at "rs"
            refine do_kcallV (sp := sp_is_wait) (by simp) ?_
            walk_at "rs"
            rw [cut1]
            exact is_wait_do hxs.2 h
          by_cases n_rule : n = "rule"
          · subst n_rule
            rw [show deedF (.tup (.str "rule" :: ps)) = ruleF ps from by_rule] at h
            refine do_kF' (by rw [lkD_rule]; rfl) ?_
            walk_at "rs"
            refine do_ktab rfl lkD_rule ?_
            walk_at "rs"
            refine do_kcallV (sp := sp_is_rule) (by simp) ?_
            walk_at "rs"
            rw [cut1]
            exact is_rule_do hxs.2 h
          by_cases n_unrule : n = "unrule"
          · subst n_unrule
            rw [show deedF (.tup (.str "unrule" :: ps)) = tickF ps from by_unrule] at h
            refine do_kF' (by rw [lkD_unrule]; rfl) ?_
            walk_at "rs"
            refine do_ktab rfl lkD_unrule ?_
            walk_at "rs"
            refine do_kcallV (sp := sp_is_unrule) (by simp) ?_
            walk_at "rs"
            rw [cut1]
            exact is_unrule_do hxs.2 h

          rw [show deedF (.tup (.str n :: ps)) = false from by_no n_out n_come n_lost n_wait n_rule n_unrule] at h
          refine do_kT' (by rw [lkD_no n_out n_come n_lost n_wait n_rule n_unrule]; rfl) ?_
          walk_at "rs"
          exact h
        | _ => (refine name_of_do hx ?_; walk_at "rs"; refine do_ktabnotN0 ?_; walk_at "rs"; exact h)
    | _ => (refine name_of_do hx ?_; walk_at "rs"; refine do_ktabnotN0 ?_; walk_at "rs"; exact h)
theorem is_deed_do {M : RM} {x : RV} {Q : RVK} (hx : okT x) (h : Q (.bl (deedF x)) M) : sp_is_deed [x] M Q := by unfold sp_is_deed; exact ⟨x, rfl, hx, h⟩


def showP : RV → Str
  | .non => "any"
  | .int i => numS i
  | .str s => s
  | _ => ""
def OkShow (x : RV) : Prop := x = .non ∨ (∃ i : Int, x = .int i ∧ 0 ≤ i ∧ i < 10000000000) ∨ ∃ s : Str, x = .str s ∧ s.length ≤ 100
theorem OkShow.len {x : RV} (h : OkShow x) : (showP x).length ≤ 100 := by
  rcases h with rfl | ⟨i, rfl, h0, h1⟩ | ⟨s, rfl, hs⟩
  · show Str.length "any" ≤ 100; decide +kernel
  · exact Nat.le_trans (num_len h0 h1) (by decide)
  · exact hs
theorem sum_le : ∀ {ss : List Str} {k : Nat}, (∀ s ∈ ss, s.length ≤ k) → (ss.map (·.length)).sum ≤ ss.length * k
  | [], _, _ => by simp
  | s :: ss, k, h => by
    have h1 := h s List.mem_cons_self
    have h2 := sum_le (ss := ss) fun z hz => h z (List.mem_cons_of_mem _ hz)
    rw [List.map_cons, List.sum_cons, List.length_cons, Nat.succ_mul]
    omega
theorem show_sum {xs : List RV} (h : ∀ x ∈ xs, OkShow x) (hl : xs.length ≤ 100) : ((xs.map showP).map (·.length)).sum + (xs.map showP).length * Str.length " " ≤ 16777216 := by
  have h1 : ((xs.map showP).map (·.length)).sum ≤ (xs.map showP).length * 100 := sum_le fun s hs => by
    obtain ⟨x, hx, rfl⟩ := List.mem_map.mp hs
    exact (h x hx).len
  have e : Str.length " " = 1 := by decide +kernel
  rw [e]
  rw [List.length_map] at h1 ⊢
  omega
theorem join_le {ws : List Str} {k : Nat} (h : ∀ s ∈ ws, s.length ≤ k) : (Txt.join " " ws).length ≤ ws.length * k + ws.length := by
  have e : Txt.join " " ws = Str.join " " ws := PySem.StrLaws.glued_eq_join _ _
  rw [e]
  refine Nat.le_trans (PySem.StrLaws.join_length_le _ _) ?_
  have := sum_le h
  have e1 : Str.length " " = 1 := by decide +kernel
  rw [e1]
  omega
def digF (c : Nat) : Bool := decide (c ∈ ("0123456789" : Str).cps.toList)
def numW (s : Str) : Bool := eqR (.str s) (.str "0") || ((decide ((1 : Int) ≤ s.length) && decide ((s.length : Int) ≤ 7)) && (!(s.cps.toList.head? == some 48) && (s.cps.toList.map digF).all id))
def valW (s : Str) : Int := (PySem.intText? s).getD 0
def readW (s : Str) : RV := if eqR (.str s) (.str "any") = true then .non else if numW s = true then .int (valW s) else .str s
def wordsR (s : Str) : List RV := (Txt.split s " ").map readW
def txtN (s : Str) : Bool := inR (.str s) (txs ["out", "come"])
def partsR (s : Str) : RV := if txtN (Txt.partition s " ").1 = true then (if (((Txt.partition s " :").2.1.length : Int) != 0) = true then .tup (wordsR (Txt.partition s " :").1 ++ [.str (Txt.partition s " :").2.2]) else .non) else .tup (wordsR s)
theorem digF_of {c : Nat} (h : 48 ≤ c ∧ c ≤ 57) : digF c = true := by
  have : c = 48 ∨ c = 49 ∨ c = 50 ∨ c = 51 ∨ c = 52 ∨ c = 53 ∨ c = 54 ∨ c = 55 ∨ c = 56 ∨ c = 57 := by omega
  rcases this with rfl | rfl | rfl | rfl | rfl | rfl | rfl | rfl | rfl | rfl <;> decide +kernel
theorem digF_to {c : Nat} (h : digF c = true) : 48 ≤ c ∧ c ≤ 57 := by
  have h : c ∈ ("0123456789" : Str).cps.toList := of_decide_eq_true h
  have e : ("0123456789" : Str).cps.toList = [48, 49, 50, 51, 52, 53, 54, 55, 56, 57] := by decide +kernel
  rw [e] at h
  simp at h
  omega
theorem zero_codes : ("0" : Str).cps.toList = [48] := by decide +kernel
theorem strEq {a b : Str} : eqR (.str a) (.str b) = true ↔ a = b := by simp [eqR]
theorem numW_digits {s : Str} (h : numW s = true) : PySem.NumText.AllDigits s.cps.toList ∧ s.cps.toList ≠ [] ∧ s.length ≤ 7 := by
  unfold numW at h
  rw [Bool.or_eq_true] at h
  rcases h with h | h
  · have e := strEq.mp h
    subst e
    rw [zero_codes]
    refine ⟨fun c hc => ?_, by simp, by decide +kernel⟩
    have : c = 48 := by simpa using hc
    omega
  · simp only [Bool.and_eq_true] at h
    obtain ⟨⟨h1, h2⟩, _, h3⟩ := h
    have h1 := of_decide_eq_true h1
    have h2 := of_decide_eq_true h2
    refine ⟨fun c hc => ?_, fun e => ?_, by omega⟩
    · have := List.all_eq_true.mp h3 (digF c) (List.mem_map_of_mem hc)
      exact digF_to this
    · have := codes_len s
      rw [e] at this
      have : s.length = 0 := this
      omega
theorem numW_val {s : Str} (h : numW s = true) : PySem.intText? s = some (valW s) := by
  obtain ⟨h1, h2, h3⟩ := numW_digits h
  have e := PySem.intText_digits h1 h2 (Nat.le_trans h3 (by decide))
  unfold valW
  rw [e]; rfl
theorem numW_num {n : Int} (h0 : 0 ≤ n) (h1 : n ≤ 1000000) : numW (numS n) = true := by
  obtain ⟨hd, hne, hz⟩ := num_codes h0
  have hl : (numS n).length ≤ 7 := PyProof.Rows.toString_length_le h0 (by decide) (Int.lt_of_le_of_lt h1 (by decide))
  unfold numW
  rw [Bool.or_eq_true]
  by_cases hn : n = 0
  · left
    subst hn
    exact strEq.mpr (by decide +kernel)
  · right
    simp only [Bool.and_eq_true]
    have hp : 1 ≤ (numS n).length := by rw [codes_len]; exact List.length_pos_iff.mpr hne
    refine ⟨⟨decide_eq_true (by omega), decide_eq_true (by omega)⟩, ?_, ?_⟩
    · have k := hz hn
      generalize (numS n).cps.toList = l at k hne
      cases l with
      | nil => exact absurd rfl hne
      | cons c r =>
        have : c ≠ 48 := fun e => k r (by rw [e])
        simp [this]
    · rw [List.all_eq_true]
      intro b hb
      obtain ⟨c, hc, rfl⟩ := List.mem_map.mp hb
      exact digF_of (hd c hc)
theorem any_codes : ("any" : Str).cps.toList = [97, 110, 121] := by decide +kernel
theorem read_num {n : Int} (h0 : 0 ≤ n) (h1 : n ≤ 1000000) : readW (numS n) = .int n := by
  have hn : ¬ eqR (.str (numS n)) (.str "any") = true := fun e => by
    have e := strEq.mp e
    obtain ⟨hd, _, _⟩ := num_codes h0
    rw [e, any_codes] at hd
    have := hd 97 (by simp)
    omega
  unfold readW
  rw [if_neg hn, if_pos (numW_num h0 h1)]
  unfold valW
  rw [PySem.W.KIN.num_reads h0 (by omega)]
  rfl
/-- a part that is written as one word and read to itself -/
structure Good (x : RV) : Prop where
  sh : OkShow x
  rd : readW (showP x) = x
  ne : (showP x).cps.toList ≠ []
  bl : 32 ∉ (showP x).cps.toList
  co : 58 ∉ (showP x).cps.toList
theorem good_int {n : Int} (h0 : 0 ≤ n) (h1 : n ≤ 1000000) : Good (.int n) := by
  obtain ⟨hd, hne, _⟩ := num_codes h0
  refine ⟨.inr (.inl ⟨n, rfl, h0, by omega⟩), read_num h0 h1, hne, fun e => ?_, fun e => ?_⟩
  · have := hd 32 e; omega
  · have := hd 58 e; omega
theorem good_non : Good .non := ⟨.inl rfl, by show readW "any" = .non; unfold readW; rw [if_pos (strEq.mpr rfl)], by decide +kernel, by decide +kernel, by decide +kernel⟩
theorem good_str {s : Str} (h : (decide (s.length ≤ 100) && (!decide (s = "any") && (!numW s && (!s.cps.toList.isEmpty && (!s.cps.toList.contains 32 && !s.cps.toList.contains 58))))) = true) : Good (.str s) := by
  simp only [Bool.and_eq_true, Bool.not_eq_true'] at h
  obtain ⟨h1, h2, h3, h4, h5, h6⟩ := h
  refine ⟨.inr (.inr ⟨s, rfl, of_decide_eq_true h1⟩), ?_, fun e => ?_, fun e => ?_, fun e => ?_⟩
  · show readW s = .str s
    unfold readW
    rw [if_neg (fun e => absurd (strEq.mp e) (of_decide_eq_false h2)), if_neg (by rw [h3]; exact Bool.false_ne_true)]
  · have e : s.cps.toList = [] := e
    rw [e] at h4; cases h4
  · have e : 32 ∈ s.cps.toList := e
    rw [List.contains_iff_mem.mpr e] at h5; cases h5
  · have e : 58 ∈ s.cps.toList := e
    rw [List.contains_iff_mem.mpr e] at h6; cases h6
def goodT (t : Str) : Prop := t.length ≤ 40 ∧ ∀ c ∈ t.cps.toList, signF c = true
theorem goodT.text {t : Str} (h : goodT t) : textF (.str t) = true := by
  show (decide ((t.length : Int) ≤ 40) && (t.cps.toList.map signF).all id) = true
  rw [decide_eq_true (by have := h.1; omega), Bool.true_and, List.all_eq_true]
  intro b hb
  obtain ⟨c, hc, rfl⟩ := List.mem_map.mp hb
  exact h.2 c hc
theorem goodT_of {t : Str} (h : (decide (t.length ≤ 40) && t.cps.toList.all signF) = true) : goodT t := by
  rw [Bool.and_eq_true] at h
  exact ⟨of_decide_eq_true h.1, fun c hc => List.all_eq_true.mp h.2 c hc⟩
def shownX (n : Str) (hs : List RV) : RV → Str
  | .str t => (Txt.join " " ((RV.str n :: hs).map showP) ++ " :") ++ t
  | y => Txt.join " " ((RV.str n :: hs).map showP ++ [showP y])
structure Dd (n : Str) (hs : List RV) (y : RV) : Prop where
  good : ∀ x ∈ RV.str n :: hs, Good x
  len : hs.length ≤ 6
  ok : okT (.tup ((RV.str n :: hs) ++ [y]))
  deed : deedF (.tup ((RV.str n :: hs) ++ [y])) = true
  last : (txtN n = true ∧ hs ≠ [] ∧ ∃ t, y = .str t ∧ goodT t) ∨ (txtN n = false ∧ ∃ i : Int, y = .int i ∧ 0 ≤ i ∧ i ≤ 1000000)
theorem words_of {x : RV} {xs : List RV} (h : ∀ v ∈ x :: xs, Good v) : wordsR (Txt.join " " ((x :: xs).map showP)) = x :: xs := by
  unfold wordsR
  rw [List.map_cons, split_join (h x List.mem_cons_self).ne fun v hv => ?_]
  · rw [← List.map_cons, List.map_map]
    have : ∀ l : List RV, (∀ v ∈ l, Good v) → l.map (readW ∘ showP) = l := fun l hl => by
      induction l with
      | nil => rfl
      | cons a r ih => rw [List.map_cons, ih fun v hv => hl v (List.mem_cons_of_mem _ hv)]; show readW (showP a) :: r = _; rw [(hl a List.mem_cons_self).rd]
    exact this _ h
  · rw [← List.map_cons] at hv
    obtain ⟨u, hu, rfl⟩ := List.mem_map.mp hv
    exact (h u hu).bl
theorem join_cons {w v : Str} {r : List Str} : Txt.join " " (w :: v :: r) = (w ++ " ") ++ Txt.join " " (v :: r) := by
  have e : ∀ l, Txt.join " " l = Str.join " " l := fun l => PySem.StrLaws.glued_eq_join _ _
  rw [e, e]; rfl
theorem app_assoc (a b c : Str) : (a ++ b) ++ c = a ++ (b ++ c) := str_ext (by simp only [app_codes, List.append_assoc])
theorem first_word {w v r : Str} {ws : List Str} (h : 32 ∉ w.cps.toList) : (Txt.partition (Txt.join " " (w :: v :: ws) ++ r) " ").1 = w := by
  rw [join_cons, app_assoc]
  exact part_blank h
theorem app_nil (a : Str) : a ++ "" = a := str_ext (by rw [app_codes]; show a.cps.toList ++ [] = _; simp)
theorem no_colon : ∀ {ws : List Str}, (∀ w ∈ ws, 58 ∉ w.cps.toList) → 58 ∉ (Txt.join " " ws).cps.toList := fun {ws} h => by
  have e : Txt.join " " ws = Str.join ⟨#[32]⟩ ws := by rw [blank_eq]; exact PySem.StrLaws.glued_eq_join _ _
  rw [e, join_codes]
  induction ws with
  | nil => simp [glue]
  | cons w r ih =>
    cases r with
    | nil => exact h w List.mem_cons_self
    | cons v r =>
      have ih' := ih (fun u hu => h u (List.mem_cons_of_mem _ hu)) (by rw [blank_eq]; exact PySem.StrLaws.glued_eq_join _ _)
      show 58 ∉ w.cps.toList ++ 32 :: glue 32 (List.map _ (v :: r))
      simp only [List.mem_append, List.mem_cons, not_or]
      exact ⟨h w List.mem_cons_self, by decide, ih'⟩
theorem Dd.back {n : Str} {hs : List RV} {y : RV} (d : Dd n hs y) : partsR (shownX n hs y) = .tup ((RV.str n :: hs) ++ [y]) := by
  have g0 := d.good (.str n) List.mem_cons_self
  rcases d.last with ⟨hn, hh, t, rfl, ht⟩ | ⟨hn, i, rfl, i0, i1⟩
  · obtain ⟨a, r, rfl⟩ := List.exists_cons_of_ne_nil hh
    have co : 58 ∉ (Txt.join " " ((RV.str n :: a :: r).map showP)).cps.toList := no_colon fun w hw => by
      obtain ⟨u, hu, rfl⟩ := List.mem_map.mp hw
      exact (d.good u hu).co
    have e1 : (Txt.partition (shownX n (a :: r) (.str t)) " ").1 = n := by
      show (Txt.partition ((Txt.join " " (showP (.str n) :: showP a :: r.map showP) ++ " :") ++ t) " ").1 = n
      rw [app_assoc]
      exact first_word g0.bl
    have e2 : Txt.partition (shownX n (a :: r) (.str t)) " :" = (Txt.join " " ((RV.str n :: a :: r).map showP), (" :" : Str), t) := part_colon co
    unfold partsR
    rw [e1, if_pos hn, e2, if_pos (show ((Str.length (" :" : Str) : Int) != 0) = true by decide +kernel)]
    show RV.tup (wordsR (Txt.join " " ((RV.str n :: a :: r).map showP)) ++ [.str t]) = _
    rw [words_of d.good]
  · have gi := good_int i0 i1
    have ga : ∀ v ∈ RV.str n :: (hs ++ [.int i]), Good v := fun v hv => by
      rcases List.mem_append.mp (show v ∈ (RV.str n :: hs) ++ [.int i] from hv) with hv | hv
      · exact d.good v hv
      · rw [List.mem_singleton.mp hv]; exact gi
    have es : shownX n hs (.int i) = Txt.join " " ((RV.str n :: (hs ++ [.int i])).map showP) := by
      show Txt.join " " ((RV.str n :: hs).map showP ++ [showP (.int i)]) = _
      simp
    have e1 : (Txt.partition (shownX n hs (.int i)) " ").1 = n := by
      rw [es]
      cases hs with
      | nil => rw [← app_nil (Txt.join _ _)]; exact first_word g0.bl
      | cons a r => rw [← app_nil (Txt.join _ _)]; exact first_word g0.bl
    unfold partsR
    rw [e1, if_neg (by rw [hn]; exact Bool.false_ne_true), es, words_of ga]
    rfl
theorem Dd.short {n : Str} {hs : List RV} {y : RV} (d : Dd n hs y) : (shownX n hs y).length ≤ 900 := by
  have hw : ∀ w ∈ (RV.str n :: hs).map showP, w.length ≤ 100 := fun w hw => by
    obtain ⟨u, hu, rfl⟩ := List.mem_map.mp hw
    exact (d.good u hu).sh.len
  have l := d.len
  rcases d.last with ⟨hn, hh, t, rfl, ht⟩ | ⟨hn, i, rfl, i0, i1⟩
  · have := join_le hw
    have h2 := ht.1
    show ((Txt.join " " ((RV.str n :: hs).map showP) ++ " :") ++ t).length ≤ 900
    rw [Str.length_append, Str.length_append, show Str.length " :" = 2 by decide +kernel]
    rw [List.length_map, List.length_cons] at this
    omega
  · have := join_le (ws := (RV.str n :: hs).map showP ++ [showP (.int i)]) (k := 100) fun w h' => by
      rcases List.mem_append.mp h' with h' | h'
      · exact hw w h'
      · rw [List.mem_singleton.mp h']; exact (good_int i0 i1).sh.len
    show (Txt.join " " _).length ≤ 900
    rw [List.length_append, List.length_map, List.length_cons, List.length_singleton] at this
    omega
theorem cut_init {l : List RV} {y : RV} : cutR (l ++ [y]) none (some (-1)) = l := by
  unfold cutR
  have e1 : HT.sIx (l ++ [y]).length 0 none = 0 := rfl
  have e2 : HT.sIx (l ++ [y]).length (l ++ [y]).length (some (-1)) = l.length := by
    unfold HT.sIx
    dsimp only
    rw [if_pos (by decide), List.length_append, List.length_singleton]; omega
  rw [e1, e2]
  simp
theorem at_last {l : List RV} {y : RV} : atI (l ++ [y]) (-1) = some y := by
  unfold atI ixN
  rw [if_neg (by decide), if_pos (by rw [List.length_append, List.length_singleton]; omega)]
  have e : ((-1 : Int) + ((l ++ [y]).length : Int)).toNat = l.length := by rw [List.length_append, List.length_singleton]; omega
  show (l ++ [y])[((-1 : Int) + ((l ++ [y]).length : Int)).toNat]? = some y
  rw [e]; simp
theorem okP_int {i : Int} : okP (.int i) := ⟨rfl, fun s e => (by cases e)⟩
theorem one_eq {c b : Nat} (e : eqR (.str ⟨#[c]⟩) (.str ⟨#[b]⟩) = true) : c = b := by
  have := strEq.mp e
  simpa using this
theorem do_ixS0 {M : RM} {Q : RVK} {z : Str} {c : Nat} {r : List Nat} (e : z.length ≤ sizeLine) (h0 : z.cps.toList = c :: r) (h : Q (.str ⟨#[c]⟩) M) : R.rIx (.str z) (.int 0) M Q := by
  refine ⟨e, ?_⟩
  rw [h0, show atI (c :: r) 0 = some c from atI_nat (j := 0) rfl]
  exact h
theorem szl2 {n : Nat} (h : n ≤ 1000) : n + 2 ≤ sizeLine := Nat.le_trans (Nat.add_le_add_right h 2) (by decide)
theorem split_small {s : Str} {y : Str} (h : s.length ≤ 1000) : ((Txt.split s y).map RV.str).length < sizeLine := by
  rw [List.length_map]
  have oc := PySem.StrLaws.occ_length_le s y 0 s.length (s.length + 1)
  unfold Txt.split
  split
  · exact Nat.lt_of_lt_of_le (show 1 < 2 by decide) (by decide)
  · split
    · exact Nat.lt_of_lt_of_le (show 1 < 2 by decide) (by decide)
    · rw [length_partsBetween]
      exact Nat.lt_of_le_of_lt (show _ ≤ 1002 by omega) (by decide)
theorem split_short {s y z : Str} (h : z ∈ Txt.split s y) : z.length ≤ s.length := PyProof.Rows.part_short h
theorem words_few {s t : Str} (h : s.length ≤ 1000) : (wordsR (Txt.partition s " :").1).length + [RV.str t].length ≤ sizeLine := by
  unfold wordsR
  rw [List.length_map]
  have a : (Txt.partition s " :").1.length ≤ 1000 := by
    unfold Txt.partition
    split
    · refine Nat.le_trans ?_ h
      rw [codes_len, PySem.StrLaws.strSub_toList, codes_len s, List.length_take, List.length_drop]; omega
    · exact h
  have := split_small (y := " ") a
  rw [List.length_map] at this
  rw [List.length_singleton]
  omega
theorem part_fst {s y : Str} (h : s.length ≤ 1000) : (Txt.partition s y).1.length ≤ 1000 := by
  unfold Txt.partition
  split
  · refine Nat.le_trans ?_ h
    rw [codes_len, PySem.StrLaws.strSub_toList, codes_len s, List.length_take, List.length_drop]; omega
  · exact h
theorem part_mid {s : Str} (h : s.length ≤ 1000) : (Txt.partition s " :").2.1.length ≤ sizeLine := by
  unfold Txt.partition
  split
  · exact Nat.le_trans (show Str.length " :" ≤ 2 by decide +kernel) (by decide)
  · exact Nat.zero_le _
theorem zip_same {xs : List RV} {p : RV × RV} (h : p ∈ xs.zip xs) : p.1 ∈ xs ∧ p.1 = p.2 := by
  induction xs with
  | nil => cases h
  | cons a r ih =>
    rw [List.zip_cons_cons] at h
    rcases List.mem_cons.mp h with rfl | h
    · exact ⟨List.mem_cons_self, rfl⟩
    · exact ⟨List.mem_cons_of_mem _ (ih h).1, (ih h).2⟩
theorem all_true {α : Type} {l : List α} : ([] ++ l.map fun _ => RV.bl true) = (List.replicate l.length true).map RV.bl := by
  induction l with
  | nil => rfl
  | cons a r ih =>
    rw [List.nil_append] at ih ⊢
    rw [List.map_cons, ih, List.length_cons, List.replicate_succ]; rfl
theorem all_rep {n : Nat} : (List.replicate n true).all id = true := by
  induction n with
  | zero => rfl
  | succ n ih => rw [List.replicate_succ, List.all_cons, ih]; rfl

/-- an answer without an answer in it -/
def Flat (xs : List RV) : Prop := ∃ (s : Str) (r : List RV), xs = .str s :: r ∧ s ≠ "turned" ∧ s.length ≤ 100 ∧ r.length ≤ 10 ∧ ∀ x ∈ r, (∃ i : Int, x = .int i ∧ 0 ≤ i ∧ i < 10000000000) ∨ ∃ z : Str, x = .str z ∧ z.length ≤ 100
theorem Flat.kinds {xs : List RV} (h : Flat xs) : ∀ x ∈ xs, (∃ i : Int, x = .int i ∧ 0 ≤ i ∧ i < 10000000000) ∨ ∃ z : Str, x = .str z ∧ z.length ≤ 100 := by
  obtain ⟨s, r, rfl, _, hs, _, hr⟩ := h
  intro x hx
  rcases List.mem_cons.mp hx with rfl | hx
  · exact .inr ⟨s, rfl, hs⟩
  · exact hr x hx
theorem Flat.len {xs : List RV} (h : Flat xs) : xs.length ≤ 11 := by
  obtain ⟨s, r, rfl, _, _, hl, _⟩ := h
  rw [List.length_cons]; omega
theorem Flat.shows {xs : List RV} (h : Flat xs) : ∀ x ∈ xs, OkShow x := fun x hx => by
  rcases h.kinds x hx with ⟨i, rfl, a, b⟩ | ⟨z, rfl, a⟩
  · exact .inr (.inl ⟨i, rfl, a, b⟩)
  · exact .inr (.inr ⟨z, rfl, a⟩)
def Ans (x : RV) : Prop := x = .non ∨ (∃ i : Int, x = .int i ∧ 0 ≤ i ∧ i < 1000) ∨ (∃ xs, x = .tup xs ∧ Flat xs) ∨ ∃ (i : Int) (ys : List RV), x = .tup [.str "turned", .int i, .tup ys] ∧ 0 ≤ i ∧ i < 10000000000 ∧ Flat ys
def rowS (xs : List RV) : Str := Txt.join " " (xs.map showP)
def ansS : RV → Str
  | .non => "ok"
  | .int i => "rule " ++ numS i
  | .tup [.str a, .int i, .tup ys] => Txt.join " " [a, numS i, rowS ys]
  | .tup xs => rowS xs
  | _ => ""
theorem Flat.short {xs : List RV} (h : Flat xs) : (rowS xs).length ≤ 2000 := by
  have := join_le (ws := xs.map showP) (k := 100) fun w hw => by
    obtain ⟨u, hu, rfl⟩ := List.mem_map.mp hw
    exact (h.shows u hu).len
  have l := h.len
  rw [List.length_map] at this
  unfold rowS
  omega
theorem ansS_flat {xs : List RV} (h : Flat xs) : ansS (.tup xs) = rowS xs := by
  obtain ⟨s, r, rfl, _, _, _, hr⟩ := h
  cases r with
  | nil => rfl
  | cons a r =>
    cases r with
    | nil => cases a <;> rfl
    | cons b r =>
      cases r with
      | nil =>
        rcases hr b (by simp) with ⟨i, rfl, _⟩ | ⟨z, rfl, _⟩ <;> cases a <;> rfl
      | cons c r => cases a <;> cases b <;> rfl
theorem Flat.deep {xs : List RV} (h : Flat xs) : ∀ {n : Nat}, okR (n + 1) (.tup xs) = true := fun {n} => by
  show xs.all (okR n) = true
  rw [List.all_eq_true]
  intro x hx
  rcases h.kinds x hx with ⟨i, rfl, _⟩ | ⟨z, rfl, _⟩ <;> cases n <;> rfl
theorem flat_ok {xs : List RV} (h : Flat xs) : okP (.tup xs) := ⟨h.deep, fun s e => (by cases e)⟩
theorem turned_ok {i : Int} {ys : List RV} (h : Flat ys) : okP (.tup [.str "turned", .int i, .tup ys]) := by
  refine ⟨?_, fun s e => (by cases e)⟩
  show [RV.str "turned", .int i, .tup ys].all (okR 13) = true
  simp only [List.all_cons, List.all_nil, h.deep]
  rfl

@[irreducible] def sp_show_part : RSp := fun rs M Q => ∃ x, rs = [x] ∧ OkShow x ∧ Q (.str (showP x)) M
theorem show_part_do {M : RM} {x : RV} {Q : RVK} (hx : OkShow x) (h : Q (.str (showP x)) M) : sp_show_part [x] M Q := by unfold sp_show_part; exact ⟨x, rfl, hx, h⟩
@[irreducible] def sp_is_number_word : RSp := fun rs M Q => ∃ s : Str, rs = [.str s] ∧ s.length ≤ 1000 ∧ Q (.bl (numW s)) M
theorem number_word_do {M : RM} {s : Str} {Q : RVK} (hl : s.length ≤ 1000) (h : Q (.bl (numW s)) M) : sp_is_number_word [.str s] M Q := by unfold sp_is_number_word; exact ⟨s, rfl, hl, h⟩

def Atom (x : RV) : Prop := x = .non ∨ (∃ i : Int, x = .int i) ∨ ∃ s : Str, x = .str s

@[irreducible] def sp__law_is__1 : RSp := fun rs M Q => ∃ x, rs = [x, x] ∧ Atom x ∧ Q (.bl true) M
theorem is1_do {M : RM} {x : RV} {Q : RVK} (hx : Atom x) (h : Q (.bl true) M) : sp__law_is__1 [x, x] M Q := by unfold sp__law_is__1; exact ⟨x, rfl, hx, h⟩
@[irreducible] def sp__law_shown : RSp := fun rs M Q => ∃ (n : Str) (hs : List RV) (y : RV), rs = [.tup ((RV.str n :: hs) ++ [y])] ∧ Dd n hs y ∧ ∀ M', (∀ (b : Addr) (m : Int), Bag M b m → Bag M' b m) → Q (.str (shownX n hs y)) M'
theorem shown_do {M : RM} {n : Str} {hs : List RV} {y : RV} {Q : RVK} (d : Dd n hs y) (h : ∀ M', (∀ (b : Addr) (m : Int), Bag M b m → Bag M' b m) → Q (.str (shownX n hs y)) M') : sp__law_shown [.tup ((RV.str n :: hs) ++ [y])] M Q := by unfold sp__law_shown; exact ⟨n, hs, y, rfl, d, h⟩
@[irreducible] def sp__law_answered__1 : RSp := fun rs M Q => ∃ xs, rs = [.tup xs] ∧ Flat xs ∧ Q (.str (rowS xs)) M
theorem answered1_do {M : RM} {xs : List RV} {Q : RVK} (d : Flat xs) (h : Q (.str (rowS xs)) M) : sp__law_answered__1 [.tup xs] M Q := by unfold sp__law_answered__1; exact ⟨xs, rfl, d, h⟩
@[irreducible] def sp_show_row : RSp := fun rs M Q => ∃ xs, rs = [.tup xs] ∧ (∀ x ∈ xs, OkShow x) ∧ xs.length ≤ 100 ∧ Q (.str (Txt.join " " (xs.map showP))) M
theorem show_row_do {M : RM} {xs : List RV} {Q : RVK} (hx : ∀ x ∈ xs, OkShow x) (hl : xs.length ≤ 100) (h : Q (.str (Txt.join " " (xs.map showP))) M) : sp_show_row [.tup xs] M Q := by unfold sp_show_row; exact ⟨xs, rfl, hx, hl, h⟩
@[irreducible] def sp_show_answer__1 : RSp := fun rs M Q => ∃ xs, rs = [.tup xs] ∧ Flat xs ∧ Q (.str (rowS xs)) M
theorem show1_do {M : RM} {xs : List RV} {Q : RVK} (d : Flat xs) (h : Q (.str (rowS xs)) M) : sp_show_answer__1 [.tup xs] M Q := by unfold sp_show_answer__1; exact ⟨xs, rfl, d, h⟩
@[irreducible] def sp_read_word : RSp := fun rs M Q => ∃ s : Str, rs = [.str s] ∧ s.length ≤ 1000 ∧ Q (readW s) M
theorem read_word_do {M : RM} {s : Str} {Q : RVK} (hl : s.length ≤ 1000) (h : Q (readW s) M) : sp_read_word [.str s] M Q := by unfold sp_read_word; exact ⟨s, rfl, hl, h⟩
@[irreducible] def sp__law_said : RSp := fun rs M Q => ∃ (b : Addr) (n : Int), rs = [.ref b] ∧ Bag M b n ∧ 0 ≤ n ∧ n ≤ 1000 ∧ ∀ (z : Str) (o : RO), goodT z → BagO o (n + 4) → Q (.str z) (put M b o)
theorem said_do {M : RM} {b : Addr} {n : Int} {Q : RVK} (hB : Bag M b n) (n0 : 0 ≤ n) (n1 : n ≤ 1000) (h : ∀ (z : Str) (o : RO), goodT z → BagO o (n + 4) → Q (.str z) (put M b o)) : sp__law_said [.ref b] M Q := by unfold sp__law_said; exact ⟨b, n, rfl, hB, n0, n1, h⟩
@[irreducible] def sp__law_is : RSp := fun rs M Q => ∃ xs, rs = [.tup xs, .tup xs] ∧ (∀ x ∈ xs, Atom x) ∧ xs.length ≤ 100 ∧ Q (.bl true) M
theorem is_do {M : RM} {xs : List RV} {Q : RVK} (hx : ∀ x ∈ xs, Atom x) (hl : xs.length ≤ 100) (h : Q (.bl true) M) : sp__law_is [.tup xs, .tup xs] M Q := by unfold sp__law_is; exact ⟨xs, rfl, hx, hl, h⟩
@[irreducible] def sp__law_number_for : RSp := fun rs M Q => ∃ (b : Addr) (n lo hi : Int), rs = [.ref b, .int lo, .int hi] ∧ Bag M b n ∧ 0 ≤ n ∧ n ≤ 1000 ∧ 0 ≤ lo ∧ lo + 11 ≤ hi ∧ hi ≤ 1000000 ∧ ∀ (k : Int) (o : RO), lo ≤ k → k ≤ hi → BagO o (n + 3) → Q (.int k) (put M b o)
theorem number_do {M : RM} {b : Addr} {n lo hi : Int} {Q : RVK} (hB : Bag M b n) (n0 : 0 ≤ n) (n1 : n ≤ 1000) (l0 : 0 ≤ lo) (l1 : lo + 11 ≤ hi) (l2 : hi ≤ 1000000) (h : ∀ (k : Int) (o : RO), lo ≤ k → k ≤ hi → BagO o (n + 3) → Q (.int k) (put M b o)) : sp__law_number_for [.ref b, .int lo, .int hi] M Q := by unfold sp__law_number_for; exact ⟨b, n, lo, hi, rfl, hB, n0, n1, l0, l1, l2, h⟩
@[irreducible] def sp__law_answered : RSp := fun rs M Q => ∃ x, rs = [x] ∧ Ans x ∧ Q (.str (ansS x)) M
theorem answered_do {M : RM} {x : RV} {Q : RVK} (d : Ans x) (h : Q (.str (ansS x)) M) : sp__law_answered [x] M Q := by unfold sp__law_answered; exact ⟨x, rfl, d, h⟩
@[irreducible] def sp_show_deed : RSp := fun rs M Q => ∃ n hs y, rs = [.tup ((RV.str n :: hs) ++ [y])] ∧ Dd n hs y ∧ Q (.str (shownX n hs y)) M
theorem show_deed_do {M : RM} {n : Str} {hs : List RV} {y : RV} {Q : RVK} (d : Dd n hs y) (h : Q (.str (shownX n hs y)) M) : sp_show_deed [.tup ((RV.str n :: hs) ++ [y])] M Q := by unfold sp_show_deed; exact ⟨n, hs, y, rfl, d, h⟩
@[irreducible] def sp_show_answer : RSp := fun rs M Q => ∃ x, rs = [x] ∧ Ans x ∧ Q (.str (ansS x)) M
theorem show_answer_do {M : RM} {x : RV} {Q : RVK} (d : Ans x) (h : Q (.str (ansS x)) M) : sp_show_answer [x] M Q := by unfold sp_show_answer; exact ⟨x, rfl, d, h⟩
@[irreducible] def sp_read_words : RSp := fun rs M Q => ∃ s : Str, rs = [.str s] ∧ s.length ≤ 1000 ∧ Q (.tup (wordsR s)) M
theorem read_words_do {M : RM} {s : Str} {Q : RVK} (hl : s.length ≤ 1000) (h : Q (.tup (wordsR s)) M) : sp_read_words [.str s] M Q := by unfold sp_read_words; exact ⟨s, rfl, hl, h⟩
@[irreducible] def sp__law_a_text : RSp := fun rs M Q => ∃ (b : Addr) (n : Int), rs = [.ref b] ∧ Bag M b n ∧ 0 ≤ n ∧ n ≤ 900 ∧ ∀ (z : Str) (o : RO), goodT z → BagO o (n + 6) → Q (.str z) (put M b o)
theorem a_text_do {M : RM} {b : Addr} {n : Int} {Q : RVK} (hB : Bag M b n) (n0 : 0 ≤ n) (n1 : n ≤ 900) (h : ∀ (z : Str) (o : RO), goodT z → BagO o (n + 6) → Q (.str z) (put M b o)) : sp__law_a_text [.ref b] M Q := by unfold sp__law_a_text; exact ⟨b, n, rfl, hB, n0, n1, h⟩
@[irreducible] def sp__law_an_answer : RSp := fun rs M Q => ∃ (b : Addr) (n : Int), rs = [.ref b] ∧ Bag M b n ∧ 0 ≤ n ∧ n ≤ 900 ∧ ∀ (x : RV) (o : RO), Ans x → BagO o (n + 20) → Q x (put M b o)
theorem an_answer_do {M : RM} {b : Addr} {n : Int} {Q : RVK} (hB : Bag M b n) (n0 : 0 ≤ n) (n1 : n ≤ 900) (h : ∀ (x : RV) (o : RO), Ans x → BagO o (n + 20) → Q x (put M b o)) : sp__law_an_answer [.ref b] M Q := by unfold sp__law_an_answer; exact ⟨b, n, rfl, hB, n0, n1, h⟩
@[irreducible] def sp_read_parts : RSp := fun rs M Q => ∃ s : Str, rs = [.str s] ∧ s.length ≤ 1000 ∧ Q (partsR s) M
theorem read_parts_do {M : RM} {s : Str} {Q : RVK} (hl : s.length ≤ 1000) (h : Q (partsR s) M) : sp_read_parts [.str s] M Q := by unfold sp_read_parts; exact ⟨s, rfl, hl, h⟩
@[irreducible] def sp__law_a_deed : RSp := fun rs M Q => ∃ (b : Addr) (n : Int), rs = [.ref b] ∧ Bag M b n ∧ 0 ≤ n ∧ n ≤ 100 ∧ ∀ (nm : Str) (hs : List RV) (y : RV) (M' : RM), Dd nm hs y → Bag M' b (n + 100) → Q (.tup ((RV.str nm :: hs) ++ [y])) M'
theorem a_deed_do {M : RM} {b : Addr} {n : Int} {Q : RVK} (hB : Bag M b n) (n0 : 0 ≤ n) (n1 : n ≤ 100) (h : ∀ (nm : Str) (hs : List RV) (y : RV) (M' : RM), Dd nm hs y → Bag M' b (n + 100) → Q (.tup ((RV.str nm :: hs) ++ [y])) M') : sp__law_a_deed [.ref b] M Q := by unfold sp__law_a_deed; exact ⟨b, n, rfl, hB, n0, n1, h⟩
@[irreducible] def sp_read_deed : RSp := fun rs M Q => ∃ (s : Str) (x : RV), rs = [.str s] ∧ s.length ≤ 1000 ∧ partsR s = x ∧ okT x ∧ deedF x = true ∧ Q x M
theorem read_deed_do {M : RM} {s : Str} {x : RV} {Q : RVK} (hl : s.length ≤ 1000) (e : partsR s = x) (hx : okT x) (hd : deedF x = true) (h : Q x M) : sp_read_deed [.str s] M Q := by unfold sp_read_deed; exact ⟨s, x, rfl, hl, e, hx, hd, h⟩
@[irreducible] def sp_law : RSp := fun rs M Q => ∃ ns : List Int, rs = [.ls (ns.map RV.int)] ∧ ns.length ≤ 63 ∧ ∀ M', Q (.bl true) M'
theorem law_start (ns : List Int) (h : ns.length ≤ 63) : sp_law [.ls (ns.map RV.int)] (fun _ => none) (fun v _ => v = .bl true) := by
  unfold sp_law; exact ⟨ns, rfl, h, fun _ => rfl⟩
def pk_show_part (T : Txt P w K mg)  : {t : RTS // ∀ (f : Addr) (cdv : Value) (A : Around) (outer : List Env) (s : Shared) (H : Hp) (E : XK), Room 0 (A.deeper (envOfC "show_part" (defScope s_show_part) s.heap.objs.size f cdv)) → RPSs (cxOf CX0 P w K mg base N_show_part "show_part" (defScope s_show_part) f cdv A outer s H E).nox (defBody s_show_part) t} := by
  refine' ⟨?t, fun f cdv A outer s H E hr => ?term⟩
  case term =>
   refine' sone ?h10
   case' h10 => refine' sret ?h9
   case' h9 => refine' rif ?h6 ?h7 ?h8
   case' h6 => refine' rtcmp ois ?h1 ?h2
   case' h1 => exact rvN 0 no_show_part
   case' h2 => exact rn
   case' h7 => exact rs
   case' h8 => refine' rcallT cstr T.b_str bt_str ?h5 (hg := gl_show_part_str) (hdb := db_str) (hn := nn_str)
   case' h5 => refine' acons ?h3 ?h4
   case' h3 => exact rvN 0 no_show_part
   case' h4 => exact anil

theorem rd_show_part (T : Txt P w K mg)  {rs : List RV} {M : RM} {Q : RVK} (h : sp_show_part rs M Q) : (pk_show_part (base := base) T ).1 { nx := fun _ M' => Q .non M', rt := Q } (rstart N_show_part rs) M := by
    unfold sp_show_part at h
    unfold pk_show_part
    dsimp only
    obtain ⟨x, rfl, hx, h⟩ := h
    rcases hx with rfl | ⟨i, rfl, h0, h1⟩ | ⟨s, rfl, hs⟩
    · walk_at "rd"
      exact h
    · walk_at "rd"
      refine do_strI h0 h1 ?_
      exact h
    · walk_at "rd"
      exact h
theorem fn_show_part {f : Addr} {fd : FuncData} (F : Fun K "show_part" "show_part" s_show_part f fd) (T : Txt P w K mg)  : FnOk P w K mg base CX0 1 f fd ["part"] (upSp K sp_show_part) := by
  refine' rfnok F sc_show_part (fun rs M Q h => ?len) (fun cdv A outer s H E hr => (pk_show_part (base := base) T ).2 f cdv A outer s H E hr) (fun rs M Q h => rd_show_part T  h)
  unfold sp_show_part at h; obtain ⟨x, rfl, _⟩ := h; rfl
def pk_is_number_word (T : Txt P w K mg)  : {t : RTS // ∀ (f : Addr) (cdv : Value) (A : Around) (outer : List Env) (s : Shared) (H : Hp) (E : XK), Room 0 (A.deeper (envOfC "is_number_word" (defScope s_is_number_word) s.heap.objs.size f cdv)) → RPSs (cxOf CX0 P w K mg base N_is_number_word "is_number_word" (defScope s_is_number_word) f cdv A outer s H E).nox (defBody s_is_number_word) t} := by
  refine' ⟨?t, fun f cdv A outer s H E hr => ?term⟩
  case term =>
   refine' scons ?h41 ?h42
   case' h41 => refine' sif ?h38 ?h39 ?h40
   case' h38 => refine' rtcmp (oeq hr.units) ?h34 ?h35
   case' h34 => exact rvN 0 no_is_number_word
   case' h35 => exact rs
   case' h39 => refine' sone ?h37
   case' h37 => refine' sret ?h36
   case' h36 => exact rb
   case' h40 => exact snil
   case' h42 => refine' scons ?h32 ?h33
   case' h32 => refine' sif ?h29 ?h30 ?h31
   case' h29 => refine' rtw ?h26
   case' h26 => refine' ror ?h24 ?h25
   case' h24 => refine' rtnot ?h23
   case' h23 => refine' rtchain ole ole ?h20 ?h21 ?h22
   case' h20 => exact ri
   case' h21 => refine' rcallB clen T.b_len bt_len ?h19 (hg := gl_is_number_word_len) (hdb := db_len) (hn := nn_len)
   case' h19 => refine' acons ?h17 ?h18
   case' h17 => exact rvN 0 no_is_number_word
   case' h18 => exact anil
   case' h22 => exact rgi T.c_MOST_FIGURES (hg := gl_is_number_word_MOST_FIGURES) (hd := db_MOST_FIGURES)
   case' h25 => refine' ror1 ?h16
   case' h16 => refine' rtcmp (oeq hr.units) ?h14 ?h15
   case' h14 => refine' rix ?h12 ?h13
   case' h12 => exact rvN 0 no_is_number_word
   case' h13 => exact ri
   case' h15 => exact rs
   case' h30 => refine' sone ?h28
   case' h28 => refine' sret ?h27
   case' h27 => exact rb
   case' h31 => exact snil
   case' h33 => refine' sone ?h11
   case' h11 => refine' sret ?h10
   case' h10 => refine' rcallB (call_all rfl) T.b_all bt_all ?h9 (hg := gl_is_number_word_all) (hdb := db_all) (hn := nn_all)
   case' h9 => refine' acons ?h7 ?h8
   case' h7 => refine' rcompN [] (osc := defScope s_is_number_word) (oN := N_is_number_word) rfl ?h4 (fun cl C s H fp vb => ?h5) (fun cl C s H fp vb => ?h6) rfl rfl (by decide +kernel) (by decide +kernel) (by decide +kernel) rfl (by decide +kernel) (by decide +kernel) (by decide +kernel) (by decide +kernel)
   case' h4 => refine' istr ?h1
   case' h1 => exact rvN 0 no_is_number_word
   case' h5 => exact tnil
   case' h6 => refine' rcmp oinS ?h2 ?h3
   case' h2 => exact rvB 0 vb
   case' h3 => exact rgs T.c_FIGURES (hg := (glB (by decide +kernel))) (hd := db_FIGURES)
   case' h8 => exact anil

theorem rd_is_number_word (T : Txt P w K mg)  {rs : List RV} {M : RM} {Q : RVK} (h : sp_is_number_word rs M Q) : (pk_is_number_word (base := base) T ).1 { nx := fun _ M' => Q .non M', rt := Q } (rstart N_is_number_word rs) M := by
    unfold sp_is_number_word at h
    unfold pk_is_number_word
    dsimp only
    obtain ⟨s, rfl, hl, h⟩ := h
    walk_at "rs"
    refine do_kB (fun e => ?_) fun e => ?_
    · walk_at "rs"
      rw [show numW s = true from by unfold numW; rw [show eqR (.str s) (.str (Str.ofString "0")) = true from e]; rfl] at h
      exact h
    have e : eqR (.str s) (.str "0") = false := e
    have en : numW s = ((decide ((1 : Int) ≤ s.length) && decide ((s.length : Int) ≤ 7)) && (!(s.cps.toList.head? == some 48) && (s.cps.toList.map digF).all id)) := by unfold numW; rw [e, Bool.false_or]
    rw [en] at h
    walk_at "rs"
    refine do_len_s (szl hl) ?_
    walk_at "rs"
    refine do_kch (fun e1 => ?_) fun e1 => ?_
    · walk_at "rs"
      refine do_kB (fun e2 => ?_) fun e2 => ?_
      · walk_at "rs"
        have e2' : decide ((s.length : Int) ≤ 7) = false := by simpa using e2
        rw [e2', Bool.and_false, Bool.false_and] at h
        exact h
      have e2' : decide ((s.length : Int) ≤ 7) = true := by simpa using e2
      have e1' : decide ((1 : Int) ≤ s.length) = true := e1
      rw [e1', e2', Bool.and_true, Bool.true_and] at h
      obtain ⟨c, r, hc⟩ : ∃ c r, s.cps.toList = c :: r := by
        cases q : s.cps.toList with
        | nil =>
          have z := codes_len s
          rw [q] at z
          have := of_decide_eq_true e1'
          have : s.length = 0 := z
          omega
        | cons c r => exact ⟨c, r, rfl⟩
      walk_at "rs"
      refine do_ixS0 (szl hl) hc ?_
      walk_at "rs"
      refine do_kB (fun e3 => ?_) fun e3 => ?_
      · walk_at "rs"
        have ec : c = 48 := one_eq (b := 48) e3
        rw [hc, ec] at h
        exact h
      have ec : c ≠ 48 := fun q => by rw [q] at e3; exact absurd (show eqR (.str ⟨#[48]⟩) (.str "0") = true by decide +kernel) (by rw [show eqR (.str ⟨#[48]⟩) (.str "0") = false from e3]; exact Bool.false_ne_true)
      have eh : (!(s.cps.toList.head? == some 48)) = true := by rw [hc]; simp [ec]
      rw [eh, Bool.true_and] at h
      walk_at "rs"
      refine ⟨?_, ?_⟩
      · have e2 : (signsR s).length = s.length := by simp [signsR, Str.length]
        rw [e2]; exact Nat.lt_of_le_of_lt hl (by decide)
      · refine comp_map (f := fun v => match v with | .str z => .bl (digF (z.cps.getD 0 0)) | _ => .non) _ _ (fun y hy Q' hq => ?_) ?_
        · obtain ⟨c, _, rfl⟩ := List.mem_map.mp hy
          walk_at "rs"
          rw [PySem.StrLaws.found_one]
          exact hq
        · walk_at "rs"
          have e3 : ([] ++ (signsR s).map fun v => (match v with | .str z => .bl (digF (z.cps.getD 0 0)) | _ => .non : RV)) = (s.cps.toList.map digF).map RV.bl := by
            simp [signsR, List.map_map, Function.comp_def]
          rw [e3]
          exact do_all _ h
    · walk_at "rs"
      have e1' : decide ((1 : Int) ≤ s.length) = false := e1
      rw [e1', Bool.false_and, Bool.false_and] at h
      exact h
theorem fn_is_number_word {f : Addr} {fd : FuncData} (F : Fun K "is_number_word" "is_number_word" s_is_number_word f fd) (T : Txt P w K mg)  : FnOk P w K mg base CX0 1 f fd ["word"] (upSp K sp_is_number_word) := by
  refine' rfnok F sc_is_number_word (fun rs M Q h => ?len) (fun cdv A outer s H E hr => (pk_is_number_word (base := base) T ).2 f cdv A outer s H E hr) (fun rs M Q h => rd_is_number_word T  h)
  unfold sp_is_number_word at h; obtain ⟨s, rfl, _⟩ := h; rfl
def pk__law_is__1 (T : Txt P w K mg) (F__law_is__0 : RFn P w K mg base 0 "_law_is" ["found", "due"] spNever) : {t : RTS // ∀ (f : Addr) (cdv : Value) (A : Around) (outer : List Env) (s : Shared) (H : Hp) (E : XK), Room 0 (A.deeper (envOfC "_law_is" (defScope s__law_is) s.heap.objs.size f cdv)) → RPSs (cxOf CX0 P w K mg base N__law_is "_law_is" (defScope s__law_is) f cdv A outer s H E).nox (defBody s__law_is) t} := by
  refine' ⟨?t, fun f cdv A outer s H E hr => ?term⟩
  case term =>
   refine' scons ?h64 ?h65
   case' h64 => refine' sif ?h61 ?h62 ?h63
   case' h61 => refine' rtval ?h19
   case' h19 => refine' rcallB cisi_tuple T.b_isinstance bt_isinstance ?h18 (hg := gl__law_is_isinstance) (hdb := db_isinstance) (hn := nn_isinstance)
   case' h18 => refine' acons ?h16 ?h17
   case' h16 => exact rvN 1 no__law_is
   case' h17 => refine' acons ?h14 ?h15
   case' h14 => exact rty_tuple T.b_tuple gl__law_is_tuple
   case' h15 => exact anil
   case' h62 => refine' scons ?h59 ?h60
   case' h59 => refine' sif ?h56 ?h57 ?h58
   case' h56 => refine' rtw ?h53
   case' h53 => refine' ror ?h51 ?h52
   case' h51 => refine' rtnot ?h50
   case' h50 => refine' rtval ?h49
   case' h49 => refine' rcallB cisi_tuple T.b_isinstance bt_isinstance ?h48 (hg := gl__law_is_isinstance) (hdb := db_isinstance) (hn := nn_isinstance)
   case' h48 => refine' acons ?h46 ?h47
   case' h46 => exact rvN 0 no__law_is
   case' h47 => refine' acons ?h44 ?h45
   case' h44 => exact rty_tuple T.b_tuple gl__law_is_tuple
   case' h45 => exact anil
   case' h52 => refine' ror1 ?h43
   case' h43 => refine' rtcmp (one hr.units) ?h41 ?h42
   case' h41 => refine' rcallB clen T.b_len bt_len ?h37 (hg := gl__law_is_len) (hdb := db_len) (hn := nn_len)
   case' h37 => refine' acons ?h35 ?h36
   case' h35 => exact rvN 0 no__law_is
   case' h36 => exact anil
   case' h42 => refine' rcallB clen T.b_len bt_len ?h40 (hg := gl__law_is_len) (hdb := db_len) (hn := nn_len)
   case' h40 => refine' acons ?h38 ?h39
   case' h38 => exact rvN 1 no__law_is
   case' h39 => exact anil
   case' h57 => refine' sone ?h55
   case' h55 => refine' sret ?h54
   case' h54 => exact rb
   case' h58 => exact snil
   case' h60 => refine' sone ?h34
   case' h34 => refine' sret ?h33
   case' h33 => refine' rcallB (call_all rfl) T.b_all bt_all ?h32 (hg := gl__law_is_all) (hdb := db_all) (hn := nn_all)
   case' h32 => refine' acons ?h30 ?h31
   case' h30 => refine' rcompP [] (osc := defScope s__law_is) (oN := N__law_is) rfl ?h27 (fun cl C s H fp vb => ?h28) (fun cl C s H fp vb => ?h29) rfl rfl (by decide +kernel) (by decide +kernel) (by decide +kernel) rfl (by decide +kernel) (by decide +kernel) (by decide +kernel) (by decide +kernel)
   case' h27 => refine' TT.izip T.b_zip ?h20 ?h21 (hgl := gl__law_is_zip)
   case' h20 => exact rvN 0 no__law_is
   case' h21 => exact rvN 1 no__law_is
   case' h28 => exact tnil
   case' h29 => refine' rcallF F__law_is__0 (hr.mono (by decide)) ?h26 (hg := (glB (by decide +kernel))) (hdb := db__law_is)
   case' h26 => refine' acons ?h24 ?h25
   case' h24 => exact rvB 0 vb
   case' h25 => refine' acons ?h22 ?h23
   case' h22 => exact rvB 1 vb
   case' h23 => exact anil
   case' h31 => exact anil
   case' h63 => exact snil
   case' h65 => refine' sone ?h13
   case' h13 => refine' sret ?h12
   case' h12 => refine' randv ?h10 ?h11
   case' h10 => refine' rnotv ?h9
   case' h9 => refine' rcallB cisi_bool T.b_isinstance bt_isinstance ?h8 (hg := gl__law_is_isinstance) (hdb := db_isinstance) (hn := nn_isinstance)
   case' h8 => refine' acons ?h6 ?h7
   case' h6 => exact rvN 0 no__law_is
   case' h7 => refine' acons ?h4 ?h5
   case' h4 => exact rty_bool T.b_bool gl__law_is_bool
   case' h5 => exact anil
   case' h11 => refine' rone ?h3
   case' h3 => refine' rcmp (oeq hr.units) ?h1 ?h2
   case' h1 => exact rvN 0 no__law_is
   case' h2 => exact rvN 1 no__law_is

theorem rd__law_is__1 (T : Txt P w K mg) (F__law_is__0 : RFn P w K mg base 0 "_law_is" ["found", "due"] spNever) {rs : List RV} {M : RM} {Q : RVK} (h : sp__law_is__1 rs M Q) : (pk__law_is__1 (base := base) T F__law_is__0).1 { nx := fun _ M' => Q .non M', rt := Q } (rstart N__law_is rs) M := by
    unfold sp__law_is__1 at h
    unfold pk__law_is__1
    dsimp only
    obtain ⟨x, rfl, hx, h⟩ := h
    rcases hx with rfl | ⟨i, rfl⟩ | ⟨s, rfl⟩
    · walk_at "rd"
      refine (show kAndV _ _ Q (.bl true) M from do_kandT ?_)
      walk_at "rs"
      exact h
    · walk_at "rd"
      refine (show kAndV _ _ Q (.bl true) M from do_kandT ?_)
      walk_at "rs"
      rw [show eqR (RV.int i) (.int i) = true by simp [eqR]]
      exact h
    · walk_at "rd"
      refine (show kAndV _ _ Q (.bl true) M from do_kandT ?_)
      walk_at "rs"
      rw [show eqR (RV.str s) (.str s) = true by simp [eqR]]
      exact h
theorem fn__law_is__1 {f : Addr} {fd : FuncData} (F : Fun K "_law_is" "_law_is" s__law_is f fd) (T : Txt P w K mg) (F__law_is__0 : RFn P w K mg base 0 "_law_is" ["found", "due"] spNever) : FnOk P w K mg base CX0 1 f fd ["found", "due"] (upSp K sp__law_is__1) := by
  refine' rfnok F sc__law_is (fun rs M Q h => ?len) (fun cdv A outer s H E hr => (pk__law_is__1 (base := base) T F__law_is__0).2 f cdv A outer s H E hr) (fun rs M Q h => rd__law_is__1 T F__law_is__0 h)
  unfold sp__law_is__1 at h; obtain ⟨x, rfl, _⟩ := h; rfl
def pk__law_shown (T : Txt P w K mg)  : {t : RTS // ∀ (f : Addr) (cdv : Value) (A : Around) (outer : List Env) (s : Shared) (H : Hp) (E : XK), Room 0 (A.deeper (envOfC "_law_shown" (defScope s__law_shown) s.heap.objs.size f cdv)) → RPSs (cxOf CX0 P w K mg base N__law_shown "_law_shown" (defScope s__law_shown) f cdv A outer s H E).nox (defBody s__law_shown) t} := by
  refine' ⟨?t, fun f cdv A outer s H E hr => ?term⟩
  case term =>
   refine' scons ?h75 ?h76
   case' h75 => refine' ssetN 1 no__law_shown ?h74
   case' h74 => refine' rlst ?h73
   case' h73 => exact anil
   case' h76 => refine' scons ?h71 ?h72
   case' h71 => refine' sfor PassesOwn.never rfl ?h68 ?h69 ?h70
   case' h68 => refine' iseq ?h53
   case' h53 => refine' rsl ?h50 ?h51 ?h52
   case' h50 => exact rvN 0 no__law_shown
   case' h51 => exact pnone
   case' h52 => refine' psome ?h49
   case' h49 => refine' run oneg ?h48
   case' h48 => exact ri
   case' h69 => exact gnameN 2 no__law_shown
   case' h70 => refine' sone ?h67
   case' h67 => refine' sexpr ?h66
   case' h66 => refine' rappend ?h64 ?h65
   case' h64 => exact rvN 1 no__law_shown
   case' h65 => refine' acons ?h62 ?h63
   case' h62 => refine' rif ?h59 ?h60 ?h61
   case' h59 => refine' rtcmp ois ?h54 ?h55
   case' h54 => exact rvN 2 no__law_shown
   case' h55 => exact rn
   case' h60 => exact rs
   case' h61 => refine' rcallT cstr T.b_str bt_str ?h58 (hg := gl__law_shown_str) (hdb := db_str) (hn := nn_str)
   case' h58 => refine' acons ?h56 ?h57
   case' h56 => exact rvN 2 no__law_shown
   case' h57 => exact anil
   case' h63 => exact anil
   case' h72 => refine' scons ?h46 ?h47
   case' h46 => refine' sif ?h43 ?h44 ?h45
   case' h43 => refine' rtw ?h29
   case' h29 => refine' ror ?h27 ?h28
   case' h27 => refine' rtcmp (oeq hr.units) ?h25 ?h26
   case' h25 => refine' rix ?h23 ?h24
   case' h23 => exact rvN 0 no__law_shown
   case' h24 => exact ri
   case' h26 => exact rs
   case' h28 => refine' ror1 ?h22
   case' h22 => refine' rtcmp (oeq hr.units) ?h20 ?h21
   case' h20 => refine' rix ?h18 ?h19
   case' h18 => exact rvN 0 no__law_shown
   case' h19 => exact ri
   case' h21 => exact rs
   case' h44 => refine' sone ?h42
   case' h42 => refine' sret ?h41
   case' h41 => refine' rop oadd ?h39 ?h40
   case' h39 => refine' rop oadd ?h34 ?h35
   case' h34 => refine' rjoinR ?h32 ?h33
   case' h32 => exact rs
   case' h33 => refine' acons ?h30 ?h31
   case' h30 => exact rvN 1 no__law_shown
   case' h31 => exact anil
   case' h35 => exact rs
   case' h40 => refine' rix ?h37 ?h38
   case' h37 => exact rvN 0 no__law_shown
   case' h38 => refine' run oneg ?h36
   case' h36 => exact ri
   case' h45 => exact snil
   case' h47 => refine' sone ?h17
   case' h17 => refine' sret ?h16
   case' h16 => refine' rjoin ?h14 ?h15
   case' h14 => exact rs
   case' h15 => refine' acons ?h12 ?h13
   case' h12 => refine' rop oaddR ?h10 ?h11
   case' h10 => exact rvN 1 no__law_shown
   case' h11 => refine' rlsf ?h9
   case' h9 => refine' acons ?h7 ?h8
   case' h7 => refine' rcallT cstr T.b_str bt_str ?h6 (hg := gl__law_shown_str) (hdb := db_str) (hn := nn_str)
   case' h6 => refine' acons ?h4 ?h5
   case' h4 => refine' rix ?h2 ?h3
   case' h2 => exact rvN 0 no__law_shown
   case' h3 => refine' run oneg ?h1
   case' h1 => exact ri
   case' h5 => exact anil
   case' h8 => exact anil
   case' h13 => exact anil


theorem forL_pre {g : RTG} {tb : RTS} {D : RD} (J : List RV → RSt → RM → Prop) (p : RV → Prop) (n : Nat) : ∀ (xs pre : List RV), (∀ x ∈ xs, p x) → pre.length + xs.length ≤ n →
    (∀ pre x σ M (N : RSt → RM → Prop), p x → pre.length < n → J pre σ M → (∀ σ' M', J (pre ++ [x]) σ' M' → N σ' M') → g x σ M fun σ2 M2 => tb { D with nx := N, ct := N, bk := D.nx } σ2 M2) →
    (∀ σ M, J (pre ++ xs) σ M → D.nx σ M) → ∀ σ M, J pre σ M → rForL g tb D xs σ M
  | [], pre, _, _, _, hd, σ, M, j => hd σ M (by simpa using j)
  | x :: r, pre, hp, hn, hs, hd, σ, M, j => hs pre x σ M _ (hp x List.mem_cons_self) (by rw [List.length_cons] at hn; omega) j fun σ' M' j' =>
      forL_pre J p n r (pre ++ [x]) (fun y hy => hp y (List.mem_cons_of_mem _ hy)) (by rw [List.length_append, List.length_singleton]; rw [List.length_cons] at hn; omega) hs (by simpa using hd) σ' M' j'
theorem txt_cases {n : Str} (h : txtN n = true) : n = "out" ∨ n = "come" := by
  by_cases h1 : n = "out"
  · exact .inl h1
  · by_cases h2 : n = "come"
    · exact .inr h2
    · have : txtN n = false := by
        show (eqR (.str "out") (.str n) || (eqR (.str "come") (.str n) || false)) = false
        rw [show eqR (.str "out") (.str n) = false from Bool.eq_false_iff.mpr fun e => h1 (strEq.mp e).symm, show eqR (.str "come") (.str n) = false from Bool.eq_false_iff.mpr fun e => h2 (strEq.mp e).symm]
        rfl
      rw [this] at h; cases h
theorem txt_not {n : Str} (h : txtN n = false) : eqR (.str n) (.str "out") = false ∧ eqR (.str n) (.str "come") = false := by
  refine ⟨Bool.eq_false_iff.mpr fun e => ?_, Bool.eq_false_iff.mpr fun e => ?_⟩
  · rw [strEq.mp e] at h
    exact absurd h (by decide +kernel)
  · rw [strEq.mp e] at h
    exact absurd h (by decide +kernel)

theorem rd__law_shown (T : Txt P w K mg)  {rs : List RV} {M : RM} {Q : RVK} (h : sp__law_shown rs M Q) : (pk__law_shown (base := base) T ).1 { nx := fun _ M' => Q .non M', rt := Q } (rstart N__law_shown rs) M := by
    unfold sp__law_shown at h
    unfold pk__law_shown
    dsimp only
    obtain ⟨n, hs, y, rfl, d, h⟩ := h
    have hlen := d.len
    refine do_start (τ' := [some (.tup ((RV.str n :: hs) ++ [y])), none, none]) rfl ?_
    walk_at "rs"
    refine fun p hp => ?_
    walk_at "rs"
    rw [cut_init]
    refine forL_pre (fun pre σ M1 => ∃ a2, σ = [some (.tup ((RV.str n :: hs) ++ [y])), some (.ref p), a2] ∧ M1 = put M p (.lst ((pre.map showP).map RV.str))) OkShow 100 _ [] (fun x hx => (d.good x hx).sh) (by simp only [List.length_nil, List.length_cons]; omega) ?_ ?_ _ _ ⟨_, rfl, rfl⟩
    · rintro pre x σ M1 N hx hpre ⟨a2, rfl, rfl⟩ hN
      have hsz : ((pre.map showP).map RV.str).length < sizeLine := by rw [List.length_map, List.length_map]; exact Nat.lt_of_lt_of_le hpre (by decide)
      rcases hx with rfl | ⟨i, rfl, i0, i1⟩ | ⟨s, rfl, hs'⟩
      · walk_at "rd"
        refine do_kapp put_same ?_
        walk_at "rd"
        refine ⟨_, _, rfl, put_same, hsz, ?_⟩
        walk_at "rs"
        exact hN _ _ ⟨_, rfl, by rw [put_put]; simp [showP]⟩
      · walk_at "rd"
        refine do_kapp put_same ?_
        walk_at "rd"
        refine do_strI i0 i1 ?_
        walk_at "rs"
        refine ⟨_, _, rfl, put_same, hsz, ?_⟩
        walk_at "rs"
        exact hN _ _ ⟨_, rfl, by rw [put_put]; simp [showP]⟩
      · walk_at "rd"
        refine do_kapp put_same ?_
        walk_at "rd"
        refine ⟨_, _, rfl, put_same, hsz, ?_⟩
        walk_at "rs"
        exact hN _ _ ⟨_, rfl, by rw [put_put]; simp [showP]⟩
    · rintro σ M1 ⟨a2, rfl, rfl⟩
      rw [List.nil_append]
      have hbag : ∀ (b : Addr) (m : Int), Bag M b m → Bag (put M p (.lst (((RV.str n :: hs).map showP).map RV.str))) b m := fun b m hb => Bag.other hb fun e => by
        obtain ⟨o, ho, _⟩ := hb
        rw [← e, hp] at ho; cases ho
      have hj := join_le (ws := (RV.str n :: hs).map showP) (k := 100) fun w hw => by
        obtain ⟨u, hu, rfl⟩ := List.mem_map.mp hw
        exact (d.good u hu).sh.len
      rw [List.length_map, List.length_cons] at hj
      have hsum := show_sum (xs := RV.str n :: hs) (fun x hx => (d.good x hx).sh) (by rw [List.length_cons]; omega)
      have e2 : Str.length " :" = 2 := by decide +kernel
      walk_at "rs"
      refine do_kat (show atI (RV.str n :: (hs ++ [y])) 0 = some _ from at0) ?_
      rcases d.last with ⟨hn, hh, t, rfl, ht⟩ | ⟨hn, i, rfl, i0, i1⟩
      · have h2 := ht.1
        walk_at "rs"
        refine do_kB (fun e => ?_) fun e => ?_
        · walk_at "rd"
          refine ⟨p, _, rfl, put_same, hsum, ?_⟩
          walk_at "rs"
          refine do_addS (szl (by omega)) ?_
          walk_at "rs"
          refine do_kat at_last ?_
          walk_at "rs"
          refine do_addS (szl (by rw [Str.length_append]; omega)) ?_
          exact h _ hbag
        · walk_at "rs"
          refine do_kat (show atI (RV.str n :: (hs ++ [RV.str t])) 0 = some _ from at0) ?_
          walk_at "rs"
          refine do_kB (fun e' => ?_) fun e' => ?_
          · walk_at "rd"
            refine ⟨p, _, rfl, put_same, hsum, ?_⟩
            walk_at "rs"
            refine do_addS (szl (by omega)) ?_
            walk_at "rs"
            refine do_kat at_last ?_
            walk_at "rs"
            refine do_addS (szl (by rw [Str.length_append]; omega)) ?_
            exact h _ hbag
          · rcases txt_cases hn with q | q
            · exact absurd (strEq.mpr q) (by rw [show eqR (.str n) (.str "out") = false from e]; exact Bool.false_ne_true)
            · exact absurd (strEq.mpr q) (by rw [show eqR (.str n) (.str "come") = false from e']; exact Bool.false_ne_true)
      · obtain ⟨q1, q2⟩ := txt_not hn
        walk_at "rs"
        refine do_kF' q1 ?_
        walk_at "rs"
        refine do_kat (show atI (RV.str n :: (hs ++ [RV.int i])) 0 = some _ from at0) ?_
        walk_at "rs"
        refine do_kF' q2 ?_
        walk_at "rs"
        refine do_kat at_last ?_
        walk_at "rs"
        refine do_strI i0 (by omega) ?_
        walk_at "rs"
        refine do_addR put_same (szl (by simp only [List.length_map, List.length_cons, List.length_nil]; omega)) ?_
        walk_at "rs"
        have hsum2 := show_sum (xs := (RV.str n :: hs) ++ [.int i]) (fun x hx => by
          rcases List.mem_append.mp hx with hx | hx
          · exact (d.good x hx).sh
          · rw [List.mem_singleton.mp hx]; exact (good_int i0 i1).sh) (by rw [List.length_append, List.length_cons, List.length_singleton]; omega)
        rw [List.map_append] at hsum2
        exact ⟨(RV.str n :: hs).map showP ++ [numS i], by rw [List.map_append]; rfl, hsum2, h _ hbag⟩
theorem fn__law_shown {f : Addr} {fd : FuncData} (F : Fun K "_law_shown" "_law_shown" s__law_shown f fd) (T : Txt P w K mg)  : FnOk P w K mg base CX0 1 f fd ["deed"] (upSp K sp__law_shown) := by
  refine' rfnok F sc__law_shown (fun rs M Q h => ?len) (fun cdv A outer s H E hr => (pk__law_shown (base := base) T ).2 f cdv A outer s H E hr) (fun rs M Q h => rd__law_shown T  h)
  unfold sp__law_shown at h; obtain ⟨n, hs, y, rfl, _⟩ := h; rfl
def pk__law_answered__1 (T : Txt P w K mg) (F__law_answered__0 : RFn P w K mg base 0 "_law_answered" ["answer"] spNever) : {t : RTS // ∀ (f : Addr) (cdv : Value) (A : Around) (outer : List Env) (s : Shared) (H : Hp) (E : XK), Room 0 (A.deeper (envOfC "_law_answered" (defScope s__law_answered) s.heap.objs.size f cdv)) → RPSs (cxOf CX0 P w K mg base N__law_answered "_law_answered" (defScope s__law_answered) f cdv A outer s H E).nox (defBody s__law_answered) t} := by
  refine' ⟨?t, fun f cdv A outer s H E hr => ?term⟩
  case term =>
   refine' scons ?h67 ?h68
   case' h67 => refine' sif ?h64 ?h65 ?h66
   case' h64 => refine' rtcmp ois ?h60 ?h61
   case' h60 => exact rvN 0 no__law_answered
   case' h61 => exact rn
   case' h65 => refine' sone ?h63
   case' h63 => refine' sret ?h62
   case' h62 => exact rs
   case' h66 => exact snil
   case' h68 => refine' scons ?h58 ?h59
   case' h58 => refine' sif ?h55 ?h56 ?h57
   case' h55 => refine' rtnot ?h47
   case' h47 => refine' rtval ?h46
   case' h46 => refine' rcallB cisi_tuple T.b_isinstance bt_isinstance ?h45 (hg := gl__law_answered_isinstance) (hdb := db_isinstance) (hn := nn_isinstance)
   case' h45 => refine' acons ?h43 ?h44
   case' h43 => exact rvN 0 no__law_answered
   case' h44 => refine' acons ?h41 ?h42
   case' h41 => exact rty_tuple T.b_tuple gl__law_answered_tuple
   case' h42 => exact anil
   case' h56 => refine' sone ?h54
   case' h54 => refine' sret ?h53
   case' h53 => refine' rop oadd ?h51 ?h52
   case' h51 => exact rs
   case' h52 => refine' rcallT cstr T.b_str bt_str ?h50 (hg := gl__law_answered_str) (hdb := db_str) (hn := nn_str)
   case' h50 => refine' acons ?h48 ?h49
   case' h48 => exact rvN 0 no__law_answered
   case' h49 => exact anil
   case' h57 => exact snil
   case' h59 => refine' scons ?h39 ?h40
   case' h39 => refine' sif ?h36 ?h37 ?h38
   case' h36 => refine' rtcmp (oeq hr.units) ?h16 ?h17
   case' h16 => refine' rix ?h14 ?h15
   case' h14 => exact rvN 0 no__law_answered
   case' h15 => exact ri
   case' h17 => exact rs
   case' h37 => refine' sone ?h35
   case' h35 => refine' sret ?h34
   case' h34 => refine' rop oadd ?h32 ?h33
   case' h32 => refine' rop oadd ?h25 ?h26
   case' h25 => refine' rop oadd ?h23 ?h24
   case' h23 => exact rs
   case' h24 => refine' rcallT cstr T.b_str bt_str ?h22 (hg := gl__law_answered_str) (hdb := db_str) (hn := nn_str)
   case' h22 => refine' acons ?h20 ?h21
   case' h20 => refine' rix ?h18 ?h19
   case' h18 => exact rvN 0 no__law_answered
   case' h19 => exact ri
   case' h21 => exact anil
   case' h26 => exact rs
   case' h33 => refine' rcallF F__law_answered__0 (hr.mono (by decide)) ?h31 (hg := gl__law_answered__law_answered) (hdb := db__law_answered)
   case' h31 => refine' acons ?h29 ?h30
   case' h29 => refine' rix ?h27 ?h28
   case' h27 => exact rvN 0 no__law_answered
   case' h28 => exact ri
   case' h30 => exact anil
   case' h38 => exact snil
   case' h40 => refine' sone ?h13
   case' h13 => refine' sret ?h12
   case' h12 => refine' rjoin ?h10 ?h11
   case' h10 => exact rs
   case' h11 => refine' acons ?h8 ?h9
   case' h8 => refine' rcompN [] (osc := defScope s__law_answered) (oN := N__law_answered) rfl ?h5 (fun cl C s H fp vb => ?h6) (fun cl C s H fp vb => ?h7) rfl rfl (by decide +kernel) (by decide +kernel) (by decide +kernel) rfl (by decide +kernel) (by decide +kernel) (by decide +kernel) (by decide +kernel)
   case' h5 => refine' iseq ?h1
   case' h1 => exact rvN 0 no__law_answered
   case' h6 => exact tnil
   case' h7 => refine' rcallT cstr T.b_str bt_str ?h4 (hg := (glB (by decide +kernel))) (hdb := db_str) (hn := nn_str)
   case' h4 => refine' acons ?h2 ?h3
   case' h2 => exact rvB 0 vb
   case' h3 => exact anil
   case' h9 => exact anil

theorem rd__law_answered__1 (T : Txt P w K mg) (F__law_answered__0 : RFn P w K mg base 0 "_law_answered" ["answer"] spNever) {rs : List RV} {M : RM} {Q : RVK} (h : sp__law_answered__1 rs M Q) : (pk__law_answered__1 (base := base) T F__law_answered__0).1 { nx := fun _ M' => Q .non M', rt := Q } (rstart N__law_answered rs) M := by
    unfold sp__law_answered__1 at h
    unfold pk__law_answered__1
    dsimp only
    obtain ⟨xs, rfl, d, h⟩ := h
    have hl := d.len
    obtain ⟨s, r, exs, hs, _⟩ := id d
    subst exs
    walk_at "rd"
    refine do_kat at0 ?_
    walk_at "rs"
    refine do_kF' (Bool.eq_false_iff.mpr fun e => hs (strEq.mp e)) ?_
    walk_at "rd"
    refine ⟨Nat.lt_of_le_of_lt (show _ ≤ 100 by omega) (by decide), comp_map (f := fun v => .str (showP v)) _ _ (fun y hy Q' hq => ?_) ?_⟩
    · rcases d.kinds y hy with ⟨i, rfl, i0, i1⟩ | ⟨z, rfl, hz⟩
      · walk_at "rd"
        refine do_strI i0 i1 ?_
        exact hq
      · walk_at "rd"
        exact hq
    · rw [List.nil_append]
      walk_at "rs"
      exact ⟨_, by rw [List.map_map]; rfl, show_sum d.shows (by omega), h⟩
theorem fn__law_answered__1 {f : Addr} {fd : FuncData} (F : Fun K "_law_answered" "_law_answered" s__law_answered f fd) (T : Txt P w K mg) (F__law_answered__0 : RFn P w K mg base 0 "_law_answered" ["answer"] spNever) : FnOk P w K mg base CX0 1 f fd ["answer"] (upSp K sp__law_answered__1) := by
  refine' rfnok F sc__law_answered (fun rs M Q h => ?len) (fun cdv A outer s H E hr => (pk__law_answered__1 (base := base) T F__law_answered__0).2 f cdv A outer s H E hr) (fun rs M Q h => rd__law_answered__1 T F__law_answered__0 h)
  unfold sp__law_answered__1 at h; obtain ⟨xs, rfl, _⟩ := h; rfl
def pk_show_row (T : Txt P w K mg) (F_show_part : RFn P w K mg base 1 "show_part" ["part"] sp_show_part) : {t : RTS // ∀ (f : Addr) (cdv : Value) (A : Around) (outer : List Env) (s : Shared) (H : Hp) (E : XK), Room 1 (A.deeper (envOfC "show_row" (defScope s_show_row) s.heap.objs.size f cdv)) → RPSs (cxOf CX0 P w K mg base N_show_row "show_row" (defScope s_show_row) f cdv A outer s H E).nox (defBody s_show_row) t} := by
  refine' ⟨?t, fun f cdv A outer s H E hr => ?term⟩
  case term =>
   refine' sone ?h13
   case' h13 => refine' sret ?h12
   case' h12 => refine' rjoin ?h10 ?h11
   case' h10 => exact rs
   case' h11 => refine' acons ?h8 ?h9
   case' h8 => refine' rcompN [] (osc := defScope s_show_row) (oN := N_show_row) rfl ?h5 (fun cl C s H fp vb => ?h6) (fun cl C s H fp vb => ?h7) rfl rfl (by decide +kernel) (by decide +kernel) (by decide +kernel) rfl (by decide +kernel) (by decide +kernel) (by decide +kernel) (by decide +kernel)
   case' h5 => refine' iseq ?h1
   case' h1 => exact rvN 0 no_show_row
   case' h6 => exact tnil
   case' h7 => refine' rcallF F_show_part (hr.mono (by decide)) ?h4 (hg := (glB (by decide +kernel))) (hdb := db_show_part)
   case' h4 => refine' acons ?h2 ?h3
   case' h2 => exact rvB 0 vb
   case' h3 => exact anil
   case' h9 => exact anil

theorem rd_show_row (T : Txt P w K mg) (F_show_part : RFn P w K mg base 1 "show_part" ["part"] sp_show_part) {rs : List RV} {M : RM} {Q : RVK} (h : sp_show_row rs M Q) : (pk_show_row (base := base) T F_show_part).1 { nx := fun _ M' => Q .non M', rt := Q } (rstart N_show_row rs) M := by
    unfold sp_show_row at h
    unfold pk_show_row
    dsimp only
    obtain ⟨xs, rfl, hx, hl, h⟩ := h
    walk_at "rs"
    refine ⟨Nat.lt_of_le_of_lt hl (by decide), comp_map (f := fun v => .str (showP v)) _ _ (fun y hy Q' hq => ?_) ?_⟩
    · walk_at "rs"
      exact show_part_do (hx y hy) hq
    · rw [List.nil_append]
      walk_at "rs"
      exact ⟨xs.map showP, by rw [List.map_map]; rfl, show_sum hx hl, h⟩
theorem fn_show_row {f : Addr} {fd : FuncData} (F : Fun K "show_row" "show_row" s_show_row f fd) (T : Txt P w K mg) (F_show_part : RFn P w K mg base 1 "show_part" ["part"] sp_show_part) : FnOk P w K mg base CX0 2 f fd ["parts"] (upSp K sp_show_row) := by
  refine' rfnok F sc_show_row (fun rs M Q h => ?len) (fun cdv A outer s H E hr => (pk_show_row (base := base) T F_show_part).2 f cdv A outer s H E hr) (fun rs M Q h => rd_show_row T F_show_part h)
  unfold sp_show_row at h; obtain ⟨x, rfl, _⟩ := h; rfl
def pk_show_answer__1 (T : Txt P w K mg) (F_is_whole : RFn P w K mg base 1 "is_whole" ["thing"] sp_is_whole) (F_show_answer__0 : RFn P w K mg base 0 "show_answer" ["answer"] spNever) : {t : RTS // ∀ (f : Addr) (cdv : Value) (A : Around) (outer : List Env) (s : Shared) (H : Hp) (E : XK), Room 1 (A.deeper (envOfC "show_answer" (defScope s_show_answer) s.heap.objs.size f cdv)) → RPSs (cxOf CX0 P w K mg base N_show_answer "show_answer" (defScope s_show_answer) f cdv A outer s H E).nox (defBody s_show_answer) t} := by
  refine' ⟨?t, fun f cdv A outer s H E hr => ?term⟩
  case term =>
   refine' scons ?h45 ?h46
   case' h45 => refine' sif ?h42 ?h43 ?h44
   case' h42 => refine' rtcmp ois ?h38 ?h39
   case' h38 => exact rvN 0 no_show_answer
   case' h39 => exact rn
   case' h43 => refine' sone ?h41
   case' h41 => refine' sret ?h40
   case' h40 => exact rs
   case' h44 => exact snil
   case' h46 => refine' scons ?h36 ?h37
   case' h36 => refine' sif ?h33 ?h34 ?h35
   case' h33 => refine' rtval ?h29
   case' h29 => refine' rcallF F_is_whole (hr.mono (by decide)) ?h28 (hg := gl_show_answer_is_whole) (hdb := db_is_whole)
   case' h28 => refine' acons ?h26 ?h27
   case' h26 => exact rvN 0 no_show_answer
   case' h27 => exact anil
   case' h34 => refine' sone ?h32
   case' h32 => refine' sret ?h31
   case' h31 => refine' rfmt ?h30
   case' h30 => exact rvN 0 no_show_answer
   case' h35 => exact snil
   case' h37 => refine' sone ?h25
   case' h25 => refine' sret ?h24
   case' h24 => refine' rjoin ?h22 ?h23
   case' h22 => exact rs
   case' h23 => refine' acons ?h20 ?h21
   case' h20 => refine' rcompN [] (osc := defScope s_show_answer) (oN := N_show_answer) rfl ?h17 (fun cl C s H fp vb => ?h18) (fun cl C s H fp vb => ?h19) rfl rfl (by decide +kernel) (by decide +kernel) (by decide +kernel) rfl (by decide +kernel) (by decide +kernel) (by decide +kernel) (by decide +kernel)
   case' h17 => refine' iseq ?h1
   case' h1 => exact rvN 0 no_show_answer
   case' h18 => exact tnil
   case' h19 => refine' rif ?h14 ?h15 ?h16
   case' h14 => refine' rtval ?h7
   case' h7 => refine' rcallB cisi_tuple T.b_isinstance bt_isinstance ?h6 (hg := (glB (by decide +kernel))) (hdb := db_isinstance) (hn := nn_isinstance)
   case' h6 => refine' acons ?h4 ?h5
   case' h4 => exact rvB 0 vb
   case' h5 => refine' acons ?h2 ?h3
   case' h2 => exact rty_tuple T.b_tuple (glB (by decide +kernel))
   case' h3 => exact anil
   case' h15 => refine' rcallF F_show_answer__0 (hr.mono (by decide)) ?h10 (hg := (glB (by decide +kernel))) (hdb := db_show_answer)
   case' h10 => refine' acons ?h8 ?h9
   case' h8 => exact rvB 0 vb
   case' h9 => exact anil
   case' h16 => refine' rcallT cstr T.b_str bt_str ?h13 (hg := (glB (by decide +kernel))) (hdb := db_str) (hn := nn_str)
   case' h13 => refine' acons ?h11 ?h12
   case' h11 => exact rvB 0 vb
   case' h12 => exact anil
   case' h21 => exact anil

theorem rd_show_answer__1 (T : Txt P w K mg) (F_is_whole : RFn P w K mg base 1 "is_whole" ["thing"] sp_is_whole) (F_show_answer__0 : RFn P w K mg base 0 "show_answer" ["answer"] spNever) {rs : List RV} {M : RM} {Q : RVK} (h : sp_show_answer__1 rs M Q) : (pk_show_answer__1 (base := base) T F_is_whole F_show_answer__0).1 { nx := fun _ M' => Q .non M', rt := Q } (rstart N_show_answer rs) M := by
    unfold sp_show_answer__1 at h
    unfold pk_show_answer__1
    dsimp only
    obtain ⟨xs, rfl, d, h⟩ := h
    have hl := d.len
    walk_at "rd"
    refine is_whole_do (flat_ok d) ?_
    walk_at "rd"
    refine ⟨Nat.lt_of_le_of_lt (show _ ≤ 100 by omega) (by decide), comp_map (f := fun v => .str (showP v)) _ _ (fun y hy Q' hq => ?_) ?_⟩
    · have hk := d.kinds y hy
      rcases hk with ⟨i, rfl, i0, i1⟩ | ⟨z, rfl, hz⟩
      · walk_at "rd"
        refine do_strI i0 i1 ?_
        exact hq
      · walk_at "rd"
        exact hq
    · rw [List.nil_append]
      walk_at "rs"
      exact ⟨xs.map showP, by rw [List.map_map]; rfl, show_sum d.shows (by omega), h⟩
theorem fn_show_answer__1 {f : Addr} {fd : FuncData} (F : Fun K "show_answer" "show_answer" s_show_answer f fd) (T : Txt P w K mg) (F_is_whole : RFn P w K mg base 1 "is_whole" ["thing"] sp_is_whole) (F_show_answer__0 : RFn P w K mg base 0 "show_answer" ["answer"] spNever) : FnOk P w K mg base CX0 2 f fd ["answer"] (upSp K sp_show_answer__1) := by
  refine' rfnok F sc_show_answer (fun rs M Q h => ?len) (fun cdv A outer s H E hr => (pk_show_answer__1 (base := base) T F_is_whole F_show_answer__0).2 f cdv A outer s H E hr) (fun rs M Q h => rd_show_answer__1 T F_is_whole F_show_answer__0 h)
  unfold sp_show_answer__1 at h; obtain ⟨xs, rfl, _⟩ := h; rfl
def pk_read_word (T : Txt P w K mg) (F_is_number_word : RFn P w K mg base 1 "is_number_word" ["word"] sp_is_number_word) : {t : RTS // ∀ (f : Addr) (cdv : Value) (A : Around) (outer : List Env) (s : Shared) (H : Hp) (E : XK), Room 1 (A.deeper (envOfC "read_word" (defScope s_read_word) s.heap.objs.size f cdv)) → RPSs (cxOf CX0 P w K mg base N_read_word "read_word" (defScope s_read_word) f cdv A outer s H E).nox (defBody s_read_word) t} := by
  refine' ⟨?t, fun f cdv A outer s H E hr => ?term⟩
  case term =>
   refine' scons ?h20 ?h21
   case' h20 => refine' sif ?h17 ?h18 ?h19
   case' h17 => refine' rtcmp (oeq hr.units) ?h13 ?h14
   case' h13 => exact rvN 0 no_read_word
   case' h14 => exact rs
   case' h18 => refine' sone ?h16
   case' h16 => refine' sret ?h15
   case' h15 => exact rn
   case' h19 => exact snil
   case' h21 => refine' sone ?h12
   case' h12 => refine' sret ?h11
   case' h11 => refine' rif ?h8 ?h9 ?h10
   case' h8 => refine' rtval ?h4
   case' h4 => refine' rcallF F_is_number_word (hr.mono (by decide)) ?h3 (hg := gl_read_word_is_number_word) (hdb := db_is_number_word)
   case' h3 => refine' acons ?h1 ?h2
   case' h1 => exact rvN 0 no_read_word
   case' h2 => exact anil
   case' h9 => refine' rcallT cint T.b_int bt_int ?h7 (hg := gl_read_word_int) (hdb := db_int) (hn := nn_int)
   case' h7 => refine' acons ?h5 ?h6
   case' h5 => exact rvN 0 no_read_word
   case' h6 => exact anil
   case' h10 => exact rvN 0 no_read_word

theorem rd_read_word (T : Txt P w K mg) (F_is_number_word : RFn P w K mg base 1 "is_number_word" ["word"] sp_is_number_word) {rs : List RV} {M : RM} {Q : RVK} (h : sp_read_word rs M Q) : (pk_read_word (base := base) T F_is_number_word).1 { nx := fun _ M' => Q .non M', rt := Q } (rstart N_read_word rs) M := by
    unfold sp_read_word at h
    unfold pk_read_word
    dsimp only
    obtain ⟨s, rfl, hl, h⟩ := h
    unfold readW at h
    walk_at "rs"
    refine do_kB (fun e => ?_) fun e => ?_
    · rw [if_pos (show eqR (.str s) (.str "any") = true from e)] at h
      walk_at "rs"
      exact h
    rw [if_neg (by rw [show eqR (.str s) (.str "any") = false from e]; exact Bool.false_ne_true)] at h
    walk_at "rs"
    refine number_word_do hl ?_
    walk_at "rs"
    refine do_kB (fun e2 => ?_) fun e2 => ?_
    · rw [if_pos e2] at h
      walk_at "rs"
      refine do_intS (numW_val e2) (Nat.le_trans (numW_digits e2).2.2 (by decide)) ?_
      exact h
    · rw [if_neg (by rw [e2]; exact Bool.false_ne_true)] at h
      walk_at "rs"
      exact h
theorem fn_read_word {f : Addr} {fd : FuncData} (F : Fun K "read_word" "read_word" s_read_word f fd) (T : Txt P w K mg) (F_is_number_word : RFn P w K mg base 1 "is_number_word" ["word"] sp_is_number_word) : FnOk P w K mg base CX0 2 f fd ["word"] (upSp K sp_read_word) := by
  refine' rfnok F sc_read_word (fun rs M Q h => ?len) (fun cdv A outer s H E hr => (pk_read_word (base := base) T F_is_number_word).2 f cdv A outer s H E hr) (fun rs M Q h => rd_read_word T F_is_number_word h)
  unfold sp_read_word at h; obtain ⟨s, rfl, _⟩ := h; rfl
def pk__law_said (T : Txt P w K mg) (F__law_take : RFn P w K mg base 1 "_law_take" ["bag", "many"] sp__law_take) : {t : RTS // ∀ (f : Addr) (cdv : Value) (A : Around) (outer : List Env) (s : Shared) (H : Hp) (E : XK), Room 1 (A.deeper (envOfC "_law_said" (defScope s__law_said) s.heap.objs.size f cdv)) → RPSs (cxOf CX0 P w K mg base N__law_said "_law_said" (defScope s__law_said) f cdv A outer s H E).nox (defBody s__law_said) t} := by
  refine' ⟨?t, fun f cdv A outer s H E hr => ?term⟩
  case term =>
   refine' scons ?h60 ?h61
   case' h60 => refine' ssetN 1 no__law_said ?h59
   case' h59 => exact rs
   case' h61 => refine' scons ?h57 ?h58
   case' h57 => refine' ssetN 2 no__law_said ?h56
   case' h56 => refine' rix ?h54 ?h55
   case' h54 => refine' rlsf ?h48
   case' h48 => refine' acons ?h46 ?h47
   case' h46 => exact ri
   case' h47 => refine' acons ?h44 ?h45
   case' h44 => exact ri
   case' h45 => refine' acons ?h42 ?h43
   case' h42 => refine' rcallF F__law_take (hr.mono (by decide)) ?h41 (hg := gl__law_said__law_take) (hdb := db__law_take)
   case' h41 => refine' acons ?h39 ?h40
   case' h39 => exact rvN 0 no__law_said
   case' h40 => refine' acons ?h37 ?h38
   case' h37 => exact ri
   case' h38 => exact anil
   case' h43 => refine' acons ?h35 ?h36
   case' h35 => exact ri
   case' h36 => exact anil
   case' h55 => refine' rcallF F__law_take (hr.mono (by decide)) ?h53 (hg := gl__law_said__law_take) (hdb := db__law_take)
   case' h53 => refine' acons ?h51 ?h52
   case' h51 => exact rvN 0 no__law_said
   case' h52 => refine' acons ?h49 ?h50
   case' h49 => exact ri
   case' h50 => exact anil
   case' h58 => refine' scons ?h33 ?h34
   case' h33 => refine' ssetN 3 no__law_said ?h32
   case' h32 => refine' rcallF F__law_take (hr.mono (by decide)) ?h31 (hg := gl__law_said__law_take) (hdb := db__law_take)
   case' h31 => refine' acons ?h29 ?h30
   case' h29 => exact rvN 0 no__law_said
   case' h30 => refine' acons ?h27 ?h28
   case' h27 => exact ri
   case' h28 => exact anil
   case' h34 => refine' scons ?h25 ?h26
   case' h25 => refine' ssetN 4 no__law_said ?h24
   case' h24 => refine' rcallF F__law_take (hr.mono (by decide)) ?h23 (hg := gl__law_said__law_take) (hdb := db__law_take)
   case' h23 => refine' acons ?h21 ?h22
   case' h21 => exact rvN 0 no__law_said
   case' h22 => refine' acons ?h19 ?h20
   case' h19 => exact ri
   case' h20 => exact anil
   case' h26 => refine' sone ?h18
   case' h18 => refine' sret ?h17
   case' h17 => refine' rjoin ?h15 ?h16
   case' h15 => exact rs
   case' h16 => refine' acons ?h13 ?h14
   case' h13 => refine' rcompN [(1, "signs"), (3, "one"), (4, "step")] (osc := defScope s__law_said) (oN := N__law_said) rfl ?h10 (fun cl C s H fp vb => ?h11) (fun cl C s H fp vb => ?h12) rfl rfl (by decide +kernel) (by decide +kernel) (by decide +kernel) rfl (by decide +kernel) (by decide +kernel) (by decide +kernel) (by decide +kernel)
   case' h10 => refine' irange T.b_range ?h1 (hgl := gl__law_said_range)
   case' h1 => exact rvN 2 no__law_said
   case' h11 => exact tnil
   case' h12 => refine' rix ?h8 ?h9
   case' h8 => exact rvB 1 vb
   case' h9 => refine' rop omod ?h6 ?h7
   case' h6 => refine' rop oadd ?h4 ?h5
   case' h4 => exact rvB 2 vb
   case' h5 => refine' rop omul ?h2 ?h3
   case' h2 => exact rvB 0 vb
   case' h3 => exact rvB 3 vb
   case' h7 => exact ri
   case' h14 => exact anil


theorem do_ixSm {M : RM} {Q : RVK} {z : Str} {i : Int} (e : z.length ≤ sizeLine) (h0 : 0 ≤ i) (h1 : i < z.length) (h : ∀ c ∈ z.cps.toList, Q (.str ⟨#[c]⟩) M) : R.rIx (.str z) (.int i) M Q := by
  refine ⟨e, ?_⟩
  obtain ⟨j, rfl⟩ := Int.eq_ofNat_of_zero_le h0
  have hj : j < z.cps.toList.length := by
    have := codes_len z
    omega
  rw [show atI z.cps.toList (j : Int) = some z.cps.toList[j] from atI_nat (by simp [hj])]
  exact h _ (List.getElem_mem hj)
theorem all_mem {p : Nat → Bool} {l : List Nat} (h : l.all p = true) {c : Nat} (hc : c ∈ l) : p c = true := List.all_eq_true.mp h c hc
theorem strs2 : ∀ {ys : List RV}, (∀ y ∈ ys, ∃ c : Nat, y = .str ⟨#[c]⟩ ∧ signF c = true) → ∃ zs : List Str, ys = zs.map RV.str ∧ ∀ z ∈ zs, z.length = 1 ∧ ∀ c ∈ z.cps.toList, signF c = true
  | [], _ => ⟨[], rfl, by simp⟩
  | y :: ys, h => by
    obtain ⟨c, rfl, hc⟩ := h y List.mem_cons_self
    obtain ⟨zs, rfl, hz⟩ := strs2 (ys := ys) fun z m => h z (List.mem_cons_of_mem _ m)
    refine ⟨⟨#[c]⟩ :: zs, rfl, fun z m => ?_⟩
    rcases List.mem_cons.mp m with rfl | m
    · exact ⟨rfl, fun d hd => by have : d = c := by simpa using hd
                                 rw [this]; exact hc⟩
    · exact hz z m
theorem join_mem {c : Nat} : ∀ {zs : List Str}, c ∈ (Str.join "" zs).cps.toList → ∃ z ∈ zs, c ∈ z.cps.toList
  | [], h => by
    have h : c ∈ (Str.empty).cps.toList := h
    simp [Str.empty] at h
  | [z], h => ⟨z, by simp, h⟩
  | z :: v :: r, h => by
    have h : c ∈ (z ++ "" ++ Str.join "" (v :: r)).cps.toList := h
    rw [app_nil, app_codes] at h
    rcases List.mem_append.mp h with h | h
    · exact ⟨z, by simp, h⟩
    · obtain ⟨u, hu, hc⟩ := join_mem h
      exact ⟨u, List.mem_cons_of_mem _ hu, hc⟩

theorem rd__law_said (T : Txt P w K mg) (F__law_take : RFn P w K mg base 1 "_law_take" ["bag", "many"] sp__law_take) {rs : List RV} {M : RM} {Q : RVK} (h : sp__law_said rs M Q) : (pk__law_said (base := base) T F__law_take).1 { nx := fun _ M' => Q .non M', rt := Q } (rstart N__law_said rs) M := by
    unfold sp__law_said at h
    unfold pk__law_said
    dsimp only
    obtain ⟨b, n, rfl, hB, n0, n1, h⟩ := h
    walk_at "rs"
    refine take_do hB (by decide) (by decide) (by omega) fun r1 o1 ra1 rb1 ho1 => ?_
    walk_at "rs"
    refine take_do (Bag.put ho1) (by decide) (by decide) (by omega) fun r2 o2 ra2 rb2 ho2 => ?_
    walk_at "rs"
    refine at_ints 0 40 ra2 fun many mm0 mm1 => ?_
    walk_at "rs"
    refine take_do (Bag.put ho2) (by decide) (by decide) (by omega) fun r3 o3 ra3 rb3 ho3 => ?_
    walk_at "rs"
    refine take_do (Bag.put ho3) (by decide) (by decide) (by omega) fun r4 o4 ra4 rb4 ho4 => ?_
    walk_at "rs"
    refine do_rng (by omega) (by omega) ?_
    have hnum : (R.nums many.toNat).length = many.toNat := R.nums_len _
    refine ⟨Nat.lt_of_le_of_lt (show _ ≤ 40 by omega) (by decide), comp_all (fun v => ∃ c : Nat, v = .str ⟨#[c]⟩ ∧ signF c = true) _ _ (fun y hy Q' hq => ?_) fun ys hl hy => ?_⟩
    · obtain ⟨k, hk, rfl⟩ := List.mem_map.mp hy
      have hk' : k < many.toNat := List.mem_range.mp hk
      walk_at "rs"
      refine do_mulI (cmul_left (by omega) (by omega)) ?_
      walk_at "rs"
      refine do_int2 (by decide) ?_
      refine do_ixSm (by decide +kernel) (Int.emod_nonneg _ (by decide)) ?_ fun c hc => hq _ ⟨c, rfl, all_mem (by decide +kernel) hc⟩
      exact Int.lt_of_lt_of_le (Int.emod_lt_of_pos _ (by decide)) (by decide +kernel)
    · obtain ⟨zs, rfl, hz⟩ := strs2 hy
      walk_at "rs"
      have hlen : zs.length ≤ 40 := by rw [List.length_map] at hl; omega
      have hz1 : ∀ z ∈ zs, z.length = 1 := fun z m => (hz z m).1
      refine ⟨zs, rfl, ?_, ?_⟩
      · rw [sum_ones hz1]
        show zs.length + zs.length * 0 ≤ _
        omega
      · have := h (Txt.join (Str.ofString "") zs) o4 ⟨by rw [PySem.W.KT.join_ones zs hz1]; omega, fun c hc => ?_⟩ (ho4.mono (by omega))
        · simpa only [R.put_put] using this
        · have e : Txt.join (Str.ofString "") zs = Str.join "" zs := PySem.StrLaws.glued_eq_join _ _
          rw [e] at hc
          obtain ⟨z, hzm, hcz⟩ := join_mem hc
          exact (hz z hzm).2 c hcz
theorem fn__law_said {f : Addr} {fd : FuncData} (F : Fun K "_law_said" "_law_said" s__law_said f fd) (T : Txt P w K mg) (F__law_take : RFn P w K mg base 1 "_law_take" ["bag", "many"] sp__law_take) : FnOk P w K mg base CX0 2 f fd ["bag"] (upSp K sp__law_said) := by
  refine' rfnok F sc__law_said (fun rs M Q h => ?len) (fun cdv A outer s H E hr => (pk__law_said (base := base) T F__law_take).2 f cdv A outer s H E hr) (fun rs M Q h => rd__law_said T F__law_take h)
  unfold sp__law_said at h; obtain ⟨b, n, rfl, _⟩ := h; rfl
def pk__law_is (T : Txt P w K mg) (F__law_is__1 : RFn P w K mg base 1 "_law_is" ["found", "due"] sp__law_is__1) : {t : RTS // ∀ (f : Addr) (cdv : Value) (A : Around) (outer : List Env) (s : Shared) (H : Hp) (E : XK), Room 1 (A.deeper (envOfC "_law_is" (defScope s__law_is) s.heap.objs.size f cdv)) → RPSs (cxOf CX0 P w K mg base N__law_is "_law_is" (defScope s__law_is) f cdv A outer s H E).nox (defBody s__law_is) t} := by
  refine' ⟨?t, fun f cdv A outer s H E hr => ?term⟩
  case term =>
   refine' scons ?h64 ?h65
   case' h64 => refine' sif ?h61 ?h62 ?h63
   case' h61 => refine' rtval ?h19
   case' h19 => refine' rcallB cisi_tuple T.b_isinstance bt_isinstance ?h18 (hg := gl__law_is_isinstance) (hdb := db_isinstance) (hn := nn_isinstance)
   case' h18 => refine' acons ?h16 ?h17
   case' h16 => exact rvN 1 no__law_is
   case' h17 => refine' acons ?h14 ?h15
   case' h14 => exact rty_tuple T.b_tuple gl__law_is_tuple
   case' h15 => exact anil
   case' h62 => refine' scons ?h59 ?h60
   case' h59 => refine' sif ?h56 ?h57 ?h58
   case' h56 => refine' rtw ?h53
   case' h53 => refine' ror ?h51 ?h52
   case' h51 => refine' rtnot ?h50
   case' h50 => refine' rtval ?h49
   case' h49 => refine' rcallB cisi_tuple T.b_isinstance bt_isinstance ?h48 (hg := gl__law_is_isinstance) (hdb := db_isinstance) (hn := nn_isinstance)
   case' h48 => refine' acons ?h46 ?h47
   case' h46 => exact rvN 0 no__law_is
   case' h47 => refine' acons ?h44 ?h45
   case' h44 => exact rty_tuple T.b_tuple gl__law_is_tuple
   case' h45 => exact anil
   case' h52 => refine' ror1 ?h43
   case' h43 => refine' rtcmp (one hr.units) ?h41 ?h42
   case' h41 => refine' rcallB clen T.b_len bt_len ?h37 (hg := gl__law_is_len) (hdb := db_len) (hn := nn_len)
   case' h37 => refine' acons ?h35 ?h36
   case' h35 => exact rvN 0 no__law_is
   case' h36 => exact anil
   case' h42 => refine' rcallB clen T.b_len bt_len ?h40 (hg := gl__law_is_len) (hdb := db_len) (hn := nn_len)
   case' h40 => refine' acons ?h38 ?h39
   case' h38 => exact rvN 1 no__law_is
   case' h39 => exact anil
   case' h57 => refine' sone ?h55
   case' h55 => refine' sret ?h54
   case' h54 => exact rb
   case' h58 => exact snil
   case' h60 => refine' sone ?h34
   case' h34 => refine' sret ?h33
   case' h33 => refine' rcallB (call_all rfl) T.b_all bt_all ?h32 (hg := gl__law_is_all) (hdb := db_all) (hn := nn_all)
   case' h32 => refine' acons ?h30 ?h31
   case' h30 => refine' rcompP [] (osc := defScope s__law_is) (oN := N__law_is) rfl ?h27 (fun cl C s H fp vb => ?h28) (fun cl C s H fp vb => ?h29) rfl rfl (by decide +kernel) (by decide +kernel) (by decide +kernel) rfl (by decide +kernel) (by decide +kernel) (by decide +kernel) (by decide +kernel)
   case' h27 => refine' TT.izip T.b_zip ?h20 ?h21 (hgl := gl__law_is_zip)
   case' h20 => exact rvN 0 no__law_is
   case' h21 => exact rvN 1 no__law_is
   case' h28 => exact tnil
   case' h29 => refine' rcallF F__law_is__1 (hr.mono (by decide)) ?h26 (hg := (glB (by decide +kernel))) (hdb := db__law_is)
   case' h26 => refine' acons ?h24 ?h25
   case' h24 => exact rvB 0 vb
   case' h25 => refine' acons ?h22 ?h23
   case' h22 => exact rvB 1 vb
   case' h23 => exact anil
   case' h31 => exact anil
   case' h63 => exact snil
   case' h65 => refine' sone ?h13
   case' h13 => refine' sret ?h12
   case' h12 => refine' randv ?h10 ?h11
   case' h10 => refine' rnotv ?h9
   case' h9 => refine' rcallB cisi_bool T.b_isinstance bt_isinstance ?h8 (hg := gl__law_is_isinstance) (hdb := db_isinstance) (hn := nn_isinstance)
   case' h8 => refine' acons ?h6 ?h7
   case' h6 => exact rvN 0 no__law_is
   case' h7 => refine' acons ?h4 ?h5
   case' h4 => exact rty_bool T.b_bool gl__law_is_bool
   case' h5 => exact anil
   case' h11 => refine' rone ?h3
   case' h3 => refine' rcmp (oeq hr.units) ?h1 ?h2
   case' h1 => exact rvN 0 no__law_is
   case' h2 => exact rvN 1 no__law_is

theorem rd__law_is (T : Txt P w K mg) (F__law_is__1 : RFn P w K mg base 1 "_law_is" ["found", "due"] sp__law_is__1) {rs : List RV} {M : RM} {Q : RVK} (h : sp__law_is rs M Q) : (pk__law_is (base := base) T F__law_is__1).1 { nx := fun _ M' => Q .non M', rt := Q } (rstart N__law_is rs) M := by
    unfold sp__law_is at h
    unfold pk__law_is
    dsimp only
    obtain ⟨xs, rfl, hx, hl, h⟩ := h
    walk_at "rd"
    refine do_kF' (by simp [eqR]) ?_
    walk_at "rd"
    refine ⟨rfl, ?_⟩
    refine ⟨by rw [List.length_map, List.length_zip]; exact Nat.lt_of_le_of_lt (show _ ≤ 100 by omega) (by decide), ?_⟩
    refine compP_map (f := fun _ _ => .bl true) _ _ (fun p hp Q' hq => ?_) ?_
    · obtain ⟨h1, h2⟩ := zip_same hp
      rw [← h2]
      walk_at "rs"
      exact is1_do (hx _ h1) hq
    · walk_at "rs"
      rw [all_true]
      refine do_all _ ?_
      rw [all_rep]
      exact h
theorem fn__law_is {f : Addr} {fd : FuncData} (F : Fun K "_law_is" "_law_is" s__law_is f fd) (T : Txt P w K mg) (F__law_is__1 : RFn P w K mg base 1 "_law_is" ["found", "due"] sp__law_is__1) : FnOk P w K mg base CX0 2 f fd ["found", "due"] (upSp K sp__law_is) := by
  refine' rfnok F sc__law_is (fun rs M Q h => ?len) (fun cdv A outer s H E hr => (pk__law_is (base := base) T F__law_is__1).2 f cdv A outer s H E hr) (fun rs M Q h => rd__law_is T F__law_is__1 h)
  unfold sp__law_is at h; obtain ⟨x, rfl, _⟩ := h; rfl
def pk__law_number_for (T : Txt P w K mg) (F__law_take : RFn P w K mg base 1 "_law_take" ["bag", "many"] sp__law_take) : {t : RTS // ∀ (f : Addr) (cdv : Value) (A : Around) (outer : List Env) (s : Shared) (H : Hp) (E : XK), Room 1 (A.deeper (envOfC "_law_number_for" (defScope s__law_number_for) s.heap.objs.size f cdv)) → RPSs (cxOf CX0 P w K mg base N__law_number_for "_law_number_for" (defScope s__law_number_for) f cdv A outer s H E).nox (defBody s__law_number_for) t} := by
  refine' ⟨?t, fun f cdv A outer s H E hr => ?term⟩
  case term =>
   refine' sone ?h36
   case' h36 => refine' sret ?h35
   case' h35 => refine' rix ?h33 ?h34
   case' h33 => refine' rlsf ?h27
   case' h27 => refine' acons ?h25 ?h26
   case' h25 => exact rvN 1 no__law_number_for
   case' h26 => refine' acons ?h23 ?h24
   case' h23 => exact rvN 2 no__law_number_for
   case' h24 => refine' acons ?h21 ?h22
   case' h21 => refine' rop oadd ?h19 ?h20
   case' h19 => exact rvN 1 no__law_number_for
   case' h20 => refine' rcallF F__law_take (hr.mono (by decide)) ?h18 (hg := gl__law_number_for__law_take) (hdb := db__law_take)
   case' h18 => refine' acons ?h16 ?h17
   case' h16 => exact rvN 0 no__law_number_for
   case' h17 => refine' acons ?h14 ?h15
   case' h14 => refine' rop oadd ?h12 ?h13
   case' h12 => refine' rop osub ?h10 ?h11
   case' h10 => exact rvN 2 no__law_number_for
   case' h11 => exact rvN 1 no__law_number_for
   case' h13 => exact ri
   case' h15 => exact anil
   case' h22 => refine' acons ?h8 ?h9
   case' h8 => refine' rop oadd ?h6 ?h7
   case' h6 => exact rvN 1 no__law_number_for
   case' h7 => refine' rcallF F__law_take (hr.mono (by decide)) ?h5 (hg := gl__law_number_for__law_take) (hdb := db__law_take)
   case' h5 => refine' acons ?h3 ?h4
   case' h3 => exact rvN 0 no__law_number_for
   case' h4 => refine' acons ?h1 ?h2
   case' h1 => exact ri
   case' h2 => exact anil
   case' h9 => exact anil
   case' h34 => refine' rcallF F__law_take (hr.mono (by decide)) ?h32 (hg := gl__law_number_for__law_take) (hdb := db__law_take)
   case' h32 => refine' acons ?h30 ?h31
   case' h30 => exact rvN 0 no__law_number_for
   case' h31 => refine' acons ?h28 ?h29
   case' h28 => exact ri
   case' h29 => exact anil

theorem rd__law_number_for (T : Txt P w K mg) (F__law_take : RFn P w K mg base 1 "_law_take" ["bag", "many"] sp__law_take) {rs : List RV} {M : RM} {Q : RVK} (h : sp__law_number_for rs M Q) : (pk__law_number_for (base := base) T F__law_take).1 { nx := fun _ M' => Q .non M', rt := Q } (rstart N__law_number_for rs) M := by
    unfold sp__law_number_for at h
    unfold pk__law_number_for
    dsimp only
    obtain ⟨b, n, lo, hi, rfl, hB, n0, n1, l0, l1, l2, h⟩ := h
    walk_at "rs"
    refine take_do hB (by omega) (by omega) (by omega) fun r1 o1 ra1 rb1 ho1 => ?_
    walk_at "rs"
    refine take_do (Bag.put ho1) (by decide) (by decide) (by omega) fun r2 o2 ra2 rb2 ho2 => ?_
    walk_at "rs"
    refine take_do (Bag.put ho2) (by decide) (by decide) (by omega) fun r3 o3 ra3 rb3 ho3 => ?_
    walk_at "rs"
    refine at_ints lo hi ra3 fun k k0 k1 => ?_
    have := h k o3 k0 k1 (ho3.mono (by omega))
    simpa only [R.put_put] using this
theorem fn__law_number_for {f : Addr} {fd : FuncData} (F : Fun K "_law_number_for" "_law_number_for" s__law_number_for f fd) (T : Txt P w K mg) (F__law_take : RFn P w K mg base 1 "_law_take" ["bag", "many"] sp__law_take) : FnOk P w K mg base CX0 2 f fd ["bag", "low", "high"] (upSp K sp__law_number_for) := by
  refine' rfnok F sc__law_number_for (fun rs M Q h => ?len) (fun cdv A outer s H E hr => (pk__law_number_for (base := base) T F__law_take).2 f cdv A outer s H E hr) (fun rs M Q h => rd__law_number_for T F__law_take h)
  unfold sp__law_number_for at h; obtain ⟨b, n, lo, hi, rfl, _⟩ := h; rfl
def pk__law_answered (T : Txt P w K mg) (F__law_answered__1 : RFn P w K mg base 1 "_law_answered" ["answer"] sp__law_answered__1) : {t : RTS // ∀ (f : Addr) (cdv : Value) (A : Around) (outer : List Env) (s : Shared) (H : Hp) (E : XK), Room 1 (A.deeper (envOfC "_law_answered" (defScope s__law_answered) s.heap.objs.size f cdv)) → RPSs (cxOf CX0 P w K mg base N__law_answered "_law_answered" (defScope s__law_answered) f cdv A outer s H E).nox (defBody s__law_answered) t} := by
  refine' ⟨?t, fun f cdv A outer s H E hr => ?term⟩
  case term =>
   refine' scons ?h67 ?h68
   case' h67 => refine' sif ?h64 ?h65 ?h66
   case' h64 => refine' rtcmp ois ?h60 ?h61
   case' h60 => exact rvN 0 no__law_answered
   case' h61 => exact rn
   case' h65 => refine' sone ?h63
   case' h63 => refine' sret ?h62
   case' h62 => exact rs
   case' h66 => exact snil
   case' h68 => refine' scons ?h58 ?h59
   case' h58 => refine' sif ?h55 ?h56 ?h57
   case' h55 => refine' rtnot ?h47
   case' h47 => refine' rtval ?h46
   case' h46 => refine' rcallB cisi_tuple T.b_isinstance bt_isinstance ?h45 (hg := gl__law_answered_isinstance) (hdb := db_isinstance) (hn := nn_isinstance)
   case' h45 => refine' acons ?h43 ?h44
   case' h43 => exact rvN 0 no__law_answered
   case' h44 => refine' acons ?h41 ?h42
   case' h41 => exact rty_tuple T.b_tuple gl__law_answered_tuple
   case' h42 => exact anil
   case' h56 => refine' sone ?h54
   case' h54 => refine' sret ?h53
   case' h53 => refine' rop oadd ?h51 ?h52
   case' h51 => exact rs
   case' h52 => refine' rcallT cstr T.b_str bt_str ?h50 (hg := gl__law_answered_str) (hdb := db_str) (hn := nn_str)
   case' h50 => refine' acons ?h48 ?h49
   case' h48 => exact rvN 0 no__law_answered
   case' h49 => exact anil
   case' h57 => exact snil
   case' h59 => refine' scons ?h39 ?h40
   case' h39 => refine' sif ?h36 ?h37 ?h38
   case' h36 => refine' rtcmp (oeq hr.units) ?h16 ?h17
   case' h16 => refine' rix ?h14 ?h15
   case' h14 => exact rvN 0 no__law_answered
   case' h15 => exact ri
   case' h17 => exact rs
   case' h37 => refine' sone ?h35
   case' h35 => refine' sret ?h34
   case' h34 => refine' rop oadd ?h32 ?h33
   case' h32 => refine' rop oadd ?h25 ?h26
   case' h25 => refine' rop oadd ?h23 ?h24
   case' h23 => exact rs
   case' h24 => refine' rcallT cstr T.b_str bt_str ?h22 (hg := gl__law_answered_str) (hdb := db_str) (hn := nn_str)
   case' h22 => refine' acons ?h20 ?h21
   case' h20 => refine' rix ?h18 ?h19
   case' h18 => exact rvN 0 no__law_answered
   case' h19 => exact ri
   case' h21 => exact anil
   case' h26 => exact rs
   case' h33 => refine' rcallF F__law_answered__1 (hr.mono (by decide)) ?h31 (hg := gl__law_answered__law_answered) (hdb := db__law_answered)
   case' h31 => refine' acons ?h29 ?h30
   case' h29 => refine' rix ?h27 ?h28
   case' h27 => exact rvN 0 no__law_answered
   case' h28 => exact ri
   case' h30 => exact anil
   case' h38 => exact snil
   case' h40 => refine' sone ?h13
   case' h13 => refine' sret ?h12
   case' h12 => refine' rjoin ?h10 ?h11
   case' h10 => exact rs
   case' h11 => refine' acons ?h8 ?h9
   case' h8 => refine' rcompN [] (osc := defScope s__law_answered) (oN := N__law_answered) rfl ?h5 (fun cl C s H fp vb => ?h6) (fun cl C s H fp vb => ?h7) rfl rfl (by decide +kernel) (by decide +kernel) (by decide +kernel) rfl (by decide +kernel) (by decide +kernel) (by decide +kernel) (by decide +kernel)
   case' h5 => refine' iseq ?h1
   case' h1 => exact rvN 0 no__law_answered
   case' h6 => exact tnil
   case' h7 => refine' rcallT cstr T.b_str bt_str ?h4 (hg := (glB (by decide +kernel))) (hdb := db_str) (hn := nn_str)
   case' h4 => refine' acons ?h2 ?h3
   case' h2 => exact rvB 0 vb
   case' h3 => exact anil
   case' h9 => exact anil


theorem turned_eq {a b : Str} : (("turned " ++ a) ++ " ") ++ b = Txt.join " " ["turned", a, b] := by
  have e : ("turned " : Str) = "turned" ++ " " := by decide +kernel
  rw [join_cons, join_cons, e]
  have e3 : Txt.join " " [b] = b := PySem.StrLaws.glued_eq_join _ _
  rw [e3]
  exact str_ext (by simp only [app_codes, List.append_assoc])

theorem rd__law_answered (T : Txt P w K mg) (F__law_answered__1 : RFn P w K mg base 1 "_law_answered" ["answer"] sp__law_answered__1) {rs : List RV} {M : RM} {Q : RVK} (h : sp__law_answered rs M Q) : (pk__law_answered (base := base) T F__law_answered__1).1 { nx := fun _ M' => Q .non M', rt := Q } (rstart N__law_answered rs) M := by
    unfold sp__law_answered at h
    unfold pk__law_answered
    dsimp only
    obtain ⟨x, rfl, d, h⟩ := h
    rcases d with rfl | ⟨i, rfl, i0, i1⟩ | ⟨xs, rfl, d⟩ | ⟨i, ys, rfl, i0, i1, d⟩
    · walk_at "rd"
      exact h
    · have hn := num_len i0 (show i < 10000000000 by omega)
      have e1 : Str.length (Str.ofString "rule ") = 5 := by decide +kernel
      walk_at "rd"
      refine do_strI i0 (by omega) ?_
      walk_at "rs"
      refine do_addS (szl (by omega)) ?_
      exact h
    · rw [ansS_flat d] at h
      have hl := d.len
      obtain ⟨s, r, exs, hs, _⟩ := id d
      subst exs
      walk_at "rd"
      refine do_kat at0 ?_
      walk_at "rs"
      refine do_kF' (Bool.eq_false_iff.mpr fun e => hs (strEq.mp e)) ?_
      walk_at "rd"
      refine ⟨Nat.lt_of_le_of_lt (show _ ≤ 100 by omega) (by decide), comp_map (f := fun v => .str (showP v)) _ _ (fun y hy Q' hq => ?_) ?_⟩
      · rcases d.kinds y hy with ⟨i, rfl, i0, i1⟩ | ⟨z, rfl, hz⟩
        · walk_at "rd"
          refine do_strI i0 i1 ?_
          exact hq
        · walk_at "rd"
          exact hq
      · rw [List.nil_append]
        walk_at "rs"
        exact ⟨_, by rw [List.map_map]; rfl, show_sum d.shows (by omega), h⟩
    · have hl := d.short
      have hn := num_len i0 i1
      have e1 : Str.length (Str.ofString "turned ") = 7 := by decide +kernel
      have e2 : Str.length (Str.ofString " ") = 1 := by decide +kernel
      walk_at "rd"
      refine do_kat at0 ?_
      walk_at "rd"
      refine do_kat at1 ?_
      walk_at "rs"
      refine do_strI i0 i1 ?_
      walk_at "rs"
      refine do_addS (szl (by omega)) ?_
      walk_at "rs"
      refine do_addS (szl (by rw [Str.length_append]; omega)) ?_
      walk_at "rs"
      refine do_kat at2 ?_
      walk_at "rs"
      refine answered1_do d ?_
      walk_at "rs"
      refine do_addS (Nat.le_trans (show _ ≤ 3000 by rw [Str.length_append, Str.length_append]; omega) (by decide)) ?_
      rw [turned_eq]
      exact h
theorem fn__law_answered {f : Addr} {fd : FuncData} (F : Fun K "_law_answered" "_law_answered" s__law_answered f fd) (T : Txt P w K mg) (F__law_answered__1 : RFn P w K mg base 1 "_law_answered" ["answer"] sp__law_answered__1) : FnOk P w K mg base CX0 2 f fd ["answer"] (upSp K sp__law_answered) := by
  refine' rfnok F sc__law_answered (fun rs M Q h => ?len) (fun cdv A outer s H E hr => (pk__law_answered (base := base) T F__law_answered__1).2 f cdv A outer s H E hr) (fun rs M Q h => rd__law_answered T F__law_answered__1 h)
  unfold sp__law_answered at h; obtain ⟨x, rfl, _⟩ := h; rfl
def pk_show_deed (T : Txt P w K mg) (F_show_row : RFn P w K mg base 2 "show_row" ["parts"] sp_show_row) : {t : RTS // ∀ (f : Addr) (cdv : Value) (A : Around) (outer : List Env) (s : Shared) (H : Hp) (E : XK), Room 2 (A.deeper (envOfC "show_deed" (defScope s_show_deed) s.heap.objs.size f cdv)) → RPSs (cxOf CX0 P w K mg base N_show_deed "show_deed" (defScope s_show_deed) f cdv A outer s H E).nox (defBody s_show_deed) t} := by
  refine' ⟨?t, fun f cdv A outer s H E hr => ?term⟩
  case term =>
   refine' scons ?h30 ?h31
   case' h30 => refine' sif ?h27 ?h28 ?h29
   case' h27 => refine' rtcmp (oin hr.units) ?h8 ?h9
   case' h8 => refine' rix ?h6 ?h7
   case' h6 => exact rvN 0 no_show_deed
   case' h7 => exact ri
   case' h9 => exact rgt T.c_WITH_TEXT (hg := gl_show_deed_WITH_TEXT) (hd := db_WITH_TEXT)
   case' h28 => refine' sone ?h26
   case' h26 => refine' sret ?h25
   case' h25 => refine' rop oadd ?h23 ?h24
   case' h23 => refine' rop oadd ?h18 ?h19
   case' h18 => refine' rcallF F_show_row (hr.mono (by decide)) ?h17 (hg := gl_show_deed_show_row) (hdb := db_show_row)
   case' h17 => refine' acons ?h15 ?h16
   case' h15 => refine' rsl ?h12 ?h13 ?h14
   case' h12 => exact rvN 0 no_show_deed
   case' h13 => exact pnone
   case' h14 => refine' psome ?h11
   case' h11 => refine' run oneg ?h10
   case' h10 => exact ri
   case' h16 => exact anil
   case' h19 => exact rs
   case' h24 => refine' rix ?h21 ?h22
   case' h21 => exact rvN 0 no_show_deed
   case' h22 => refine' run oneg ?h20
   case' h20 => exact ri
   case' h29 => exact snil
   case' h31 => refine' sone ?h5
   case' h5 => refine' sret ?h4
   case' h4 => refine' rcallF F_show_row (hr.mono (by decide)) ?h3 (hg := gl_show_deed_show_row) (hdb := db_show_row)
   case' h3 => refine' acons ?h1 ?h2
   case' h1 => exact rvN 0 no_show_deed
   case' h2 => exact anil

theorem rd_show_deed (T : Txt P w K mg) (F_show_row : RFn P w K mg base 2 "show_row" ["parts"] sp_show_row) {rs : List RV} {M : RM} {Q : RVK} (h : sp_show_deed rs M Q) : (pk_show_deed (base := base) T F_show_row).1 { nx := fun _ M' => Q .non M', rt := Q } (rstart N_show_deed rs) M := by
    unfold sp_show_deed at h
    unfold pk_show_deed
    dsimp only
    obtain ⟨n, hs, y, rfl, d, h⟩ := h
    have hlen := d.len
    walk_at "rs"
    refine do_kat (show atI (RV.str n :: (hs ++ [y])) 0 = some _ from at0) ?_
    walk_at "rs"
    refine do_inT rfl rfl ?_
    walk_at "rs"
    refine do_kB (fun e => ?_) fun e => ?_
    · rcases d.last with ⟨hn, hh, t, rfl, ht⟩ | ⟨hn, i, rfl, i0, i1⟩
      · walk_at "rs"
        rw [cut_init]
        refine show_row_do (fun x hx => (d.good x hx).sh) (by rw [List.length_cons]; omega) ?_
        have hj := join_le (ws := (RV.str n :: hs).map showP) (k := 100) fun w hw => by
          obtain ⟨u, hu, rfl⟩ := List.mem_map.mp hw
          exact (d.good u hu).sh.len
        rw [List.length_map, List.length_cons] at hj
        have h2 := ht.1
        have e2 : Str.length " :" = 2 := by decide +kernel
        walk_at "rs"
        refine do_addS (szl (by omega)) ?_
        walk_at "rs"
        refine do_kat at_last ?_
        walk_at "rs"
        refine do_addS (szl (by rw [Str.length_append]; omega)) ?_
        exact h
      · have e : txtN n = true := e
        rw [hn] at e; cases e
    · rcases d.last with ⟨hn, hh, t, rfl, ht⟩ | ⟨hn, i, rfl, i0, i1⟩
      · have e : txtN n = false := e
        rw [hn] at e; cases e
      · walk_at "rs"
        refine show_row_do (fun x hx => ?_) (by rw [List.length_append, List.length_cons, List.length_singleton]; omega) ?_
        · rcases List.mem_append.mp hx with hx | hx
          · exact (d.good x hx).sh
          · rw [List.mem_singleton.mp hx]; exact (good_int i0 i1).sh
        · rw [List.map_append]
          exact h
theorem fn_show_deed {f : Addr} {fd : FuncData} (F : Fun K "show_deed" "show_deed" s_show_deed f fd) (T : Txt P w K mg) (F_show_row : RFn P w K mg base 2 "show_row" ["parts"] sp_show_row) : FnOk P w K mg base CX0 3 f fd ["deed"] (upSp K sp_show_deed) := by
  refine' rfnok F sc_show_deed (fun rs M Q h => ?len) (fun cdv A outer s H E hr => (pk_show_deed (base := base) T F_show_row).2 f cdv A outer s H E hr) (fun rs M Q h => rd_show_deed T F_show_row h)
  unfold sp_show_deed at h; obtain ⟨n, hs, y, rfl, _⟩ := h; rfl
def pk_show_answer (T : Txt P w K mg) (F_is_whole : RFn P w K mg base 1 "is_whole" ["thing"] sp_is_whole) (F_show_answer__1 : RFn P w K mg base 2 "show_answer" ["answer"] sp_show_answer__1) : {t : RTS // ∀ (f : Addr) (cdv : Value) (A : Around) (outer : List Env) (s : Shared) (H : Hp) (E : XK), Room 2 (A.deeper (envOfC "show_answer" (defScope s_show_answer) s.heap.objs.size f cdv)) → RPSs (cxOf CX0 P w K mg base N_show_answer "show_answer" (defScope s_show_answer) f cdv A outer s H E).nox (defBody s_show_answer) t} := by
  refine' ⟨?t, fun f cdv A outer s H E hr => ?term⟩
  case term =>
   refine' scons ?h45 ?h46
   case' h45 => refine' sif ?h42 ?h43 ?h44
   case' h42 => refine' rtcmp ois ?h38 ?h39
   case' h38 => exact rvN 0 no_show_answer
   case' h39 => exact rn
   case' h43 => refine' sone ?h41
   case' h41 => refine' sret ?h40
   case' h40 => exact rs
   case' h44 => exact snil
   case' h46 => refine' scons ?h36 ?h37
   case' h36 => refine' sif ?h33 ?h34 ?h35
   case' h33 => refine' rtval ?h29
   case' h29 => refine' rcallF F_is_whole (hr.mono (by decide)) ?h28 (hg := gl_show_answer_is_whole) (hdb := db_is_whole)
   case' h28 => refine' acons ?h26 ?h27
   case' h26 => exact rvN 0 no_show_answer
   case' h27 => exact anil
   case' h34 => refine' sone ?h32
   case' h32 => refine' sret ?h31
   case' h31 => refine' rfmt ?h30
   case' h30 => exact rvN 0 no_show_answer
   case' h35 => exact snil
   case' h37 => refine' sone ?h25
   case' h25 => refine' sret ?h24
   case' h24 => refine' rjoin ?h22 ?h23
   case' h22 => exact rs
   case' h23 => refine' acons ?h20 ?h21
   case' h20 => refine' rcompN [] (osc := defScope s_show_answer) (oN := N_show_answer) rfl ?h17 (fun cl C s H fp vb => ?h18) (fun cl C s H fp vb => ?h19) rfl rfl (by decide +kernel) (by decide +kernel) (by decide +kernel) rfl (by decide +kernel) (by decide +kernel) (by decide +kernel) (by decide +kernel)
   case' h17 => refine' iseq ?h1
   case' h1 => exact rvN 0 no_show_answer
   case' h18 => exact tnil
   case' h19 => refine' rif ?h14 ?h15 ?h16
   case' h14 => refine' rtval ?h7
   case' h7 => refine' rcallB cisi_tuple T.b_isinstance bt_isinstance ?h6 (hg := (glB (by decide +kernel))) (hdb := db_isinstance) (hn := nn_isinstance)
   case' h6 => refine' acons ?h4 ?h5
   case' h4 => exact rvB 0 vb
   case' h5 => refine' acons ?h2 ?h3
   case' h2 => exact rty_tuple T.b_tuple (glB (by decide +kernel))
   case' h3 => exact anil
   case' h15 => refine' rcallF F_show_answer__1 (hr.mono (by decide)) ?h10 (hg := (glB (by decide +kernel))) (hdb := db_show_answer)
   case' h10 => refine' acons ?h8 ?h9
   case' h8 => exact rvB 0 vb
   case' h9 => exact anil
   case' h16 => refine' rcallT cstr T.b_str bt_str ?h13 (hg := (glB (by decide +kernel))) (hdb := db_str) (hn := nn_str)
   case' h13 => refine' acons ?h11 ?h12
   case' h11 => exact rvB 0 vb
   case' h12 => exact anil
   case' h21 => exact anil

theorem rd_show_answer (T : Txt P w K mg) (F_is_whole : RFn P w K mg base 1 "is_whole" ["thing"] sp_is_whole) (F_show_answer__1 : RFn P w K mg base 2 "show_answer" ["answer"] sp_show_answer__1) {rs : List RV} {M : RM} {Q : RVK} (h : sp_show_answer rs M Q) : (pk_show_answer (base := base) T F_is_whole F_show_answer__1).1 { nx := fun _ M' => Q .non M', rt := Q } (rstart N_show_answer rs) M := by
    unfold sp_show_answer at h
    unfold pk_show_answer
    dsimp only
    obtain ⟨x, rfl, d, h⟩ := h
    rcases d with rfl | ⟨i, rfl, i0, i1⟩ | ⟨xs, rfl, d⟩ | ⟨i, ys, rfl, i0, i1, d⟩
    · walk_at "rd"
      exact h
    · walk_at "rd"
      refine is_whole_do okP_int ?_
      walk_at "rd"
      refine do_kfmt i0 (by omega) (by decide +kernel) ?_
      exact h
    · rw [ansS_flat d] at h
      have hl := d.len
      walk_at "rd"
      refine is_whole_do (flat_ok d) ?_
      walk_at "rd"
      refine ⟨Nat.lt_of_le_of_lt (show _ ≤ 100 by omega) (by decide), comp_map (f := fun v => .str (showP v)) _ _ (fun y hy Q' hq => ?_) ?_⟩
      · have hk := d.kinds y hy
        rcases hk with ⟨i, rfl, i0, i1⟩ | ⟨z, rfl, hz⟩
        · walk_at "rd"
          refine do_strI i0 i1 ?_
          exact hq
        · walk_at "rd"
          exact hq
      · rw [List.nil_append]
        walk_at "rs"
        exact ⟨xs.map showP, by rw [List.map_map]; rfl, show_sum d.shows (by omega), h⟩
    · have hl := d.short
      have hf := d.len
      walk_at "rd"
      refine is_whole_do (turned_ok d) ?_
      walk_at "rd"
      refine ⟨Nat.lt_of_le_of_lt (show _ ≤ 3 from Nat.le_refl 3) (by decide), ?_⟩
      walk_at "rd"
      refine do_strI i0 i1 ?_
      walk_at "rd"
      refine show1_do d ?_
      walk_at "rd"
      have hn := num_len i0 i1
      refine ⟨[Str.ofString "turned", numS i, rowS ys], rfl, ?_, ?_⟩
      · have e1 : Str.length " " = 1 := by decide +kernel
        have e2 : Str.length (Str.ofString "turned") = 6 := by decide +kernel
        simp only [List.map_cons, List.map_nil, List.sum_cons, List.sum_nil, List.length_cons, List.length_nil]
        rw [e1, e2]; omega
      · exact h
theorem fn_show_answer {f : Addr} {fd : FuncData} (F : Fun K "show_answer" "show_answer" s_show_answer f fd) (T : Txt P w K mg) (F_is_whole : RFn P w K mg base 1 "is_whole" ["thing"] sp_is_whole) (F_show_answer__1 : RFn P w K mg base 2 "show_answer" ["answer"] sp_show_answer__1) : FnOk P w K mg base CX0 3 f fd ["answer"] (upSp K sp_show_answer) := by
  refine' rfnok F sc_show_answer (fun rs M Q h => ?len) (fun cdv A outer s H E hr => (pk_show_answer (base := base) T F_is_whole F_show_answer__1).2 f cdv A outer s H E hr) (fun rs M Q h => rd_show_answer T F_is_whole F_show_answer__1 h)
  unfold sp_show_answer at h; obtain ⟨x, rfl, _⟩ := h; rfl
def pk_read_words (T : Txt P w K mg) (F_read_word : RFn P w K mg base 2 "read_word" ["word"] sp_read_word) : {t : RTS // ∀ (f : Addr) (cdv : Value) (A : Around) (outer : List Env) (s : Shared) (H : Hp) (E : XK), Room 2 (A.deeper (envOfC "read_words" (defScope s_read_words) s.heap.objs.size f cdv)) → RPSs (cxOf CX0 P w K mg base N_read_words "read_words" (defScope s_read_words) f cdv A outer s H E).nox (defBody s_read_words) t} := by
  refine' ⟨?t, fun f cdv A outer s H E hr => ?term⟩
  case term =>
   refine' sone ?h16
   case' h16 => refine' sret ?h15
   case' h15 => refine' rcallT ctuple T.b_tuple bt_tuple ?h14 (hg := gl_read_words_tuple) (hdb := db_tuple) (hn := nn_tuple)
   case' h14 => refine' acons ?h12 ?h13
   case' h12 => refine' rcompN [] (osc := defScope s_read_words) (oN := N_read_words) rfl ?h9 (fun cl C s H fp vb => ?h10) (fun cl C s H fp vb => ?h11) rfl rfl (by decide +kernel) (by decide +kernel) (by decide +kernel) rfl (by decide +kernel) (by decide +kernel) (by decide +kernel) (by decide +kernel)
   case' h9 => refine' iseq ?h5
   case' h5 => refine' rsplit ?h3 ?h4
   case' h3 => exact rvN 0 no_read_words
   case' h4 => refine' acons ?h1 ?h2
   case' h1 => exact rs
   case' h2 => exact anil
   case' h10 => exact tnil
   case' h11 => refine' rcallF F_read_word (hr.mono (by decide)) ?h8 (hg := (glB (by decide +kernel))) (hdb := db_read_word)
   case' h8 => refine' acons ?h6 ?h7
   case' h6 => exact rvB 0 vb
   case' h7 => exact anil
   case' h13 => exact anil

theorem rd_read_words (T : Txt P w K mg) (F_read_word : RFn P w K mg base 2 "read_word" ["word"] sp_read_word) {rs : List RV} {M : RM} {Q : RVK} (h : sp_read_words rs M Q) : (pk_read_words (base := base) T F_read_word).1 { nx := fun _ M' => Q .non M', rt := Q } (rstart N_read_words rs) M := by
    unfold sp_read_words at h
    unfold pk_read_words
    dsimp only
    obtain ⟨s, rfl, hl, h⟩ := h
    walk_at "rs"
    refine ⟨_, rfl, by decide +kernel, szl2 hl, ?_⟩
    walk_at "rs"
    refine ⟨split_small hl, comp_map (f := fun v => match v with | .str z => readW z | _ => .non) _ _ (fun y hy Q' hq => ?_) ?_⟩
    · obtain ⟨z, hz, rfl⟩ := List.mem_map.mp hy
      walk_at "rs"
      exact read_word_do (Nat.le_trans (split_short hz) hl) hq
    · walk_at "rs"
      rw [List.nil_append, List.map_map]
      exact h
theorem fn_read_words {f : Addr} {fd : FuncData} (F : Fun K "read_words" "read_words" s_read_words f fd) (T : Txt P w K mg) (F_read_word : RFn P w K mg base 2 "read_word" ["word"] sp_read_word) : FnOk P w K mg base CX0 3 f fd ["text"] (upSp K sp_read_words) := by
  refine' rfnok F sc_read_words (fun rs M Q h => ?len) (fun cdv A outer s H E hr => (pk_read_words (base := base) T F_read_word).2 f cdv A outer s H E hr) (fun rs M Q h => rd_read_words T F_read_word h)
  unfold sp_read_words at h; obtain ⟨s, rfl, _⟩ := h; rfl

theorem star_c {c : Const} {k : Nat} {p : Pos} {es : List Expr} {env : Env} : starEach (.Constant c k p :: es) env = (false, eval (.Constant c k p) env) :: starEach es env := rfl
theorem sw_list {es : List Expr} {p : Pos} {o : Option Expr} {n : Nat} {env : Env} : swapsWith (.List es p) o n env = pure false := rfl
theorem fn__law_a_text {f : Addr} {fd : FuncData} (F : Fun K "_law_a_text" "_law_a_text" s__law_a_text f fd) (T : Txt P w K mg) (F__law_take : RFn P w K mg base 1 "_law_take" ["bag", "many"] sp__law_take) (F__law_said : RFn P w K mg base 2 "_law_said" ["bag"] sp__law_said) : FnOk P w K mg base CX0 3 f fd ["bag"] (upSp K sp__law_a_text) := by
  refine' rfnok F sc__law_a_text (fun rs M Q h => ?len) (fun cdv A outer s H E hr => ?term) (fun rs M Q h => ?body)
  case term =>
   refine' scons ?h55 ?h56
   case' h55 => with_reducible refine' ssetN 1 ?h50 ?h51 ?h52 ?h53 ?h54
   case' h50 => exact no__law_a_text
   case' h51 => refine' rlsf ?h49
   case' h49 => refine' acons ?h47 ?h48 (hs := star_c)
   case' h47 => exact rs
   case' h48 => refine' acons ?h45 ?h46 (hs := star_c)
   case' h45 => exact rs
   case' h46 => refine' acons ?h43 ?h44 (hs := star_c)
   case' h43 => exact rs
   case' h44 => refine' acons ?h41 ?h42 (hs := star_c)
   case' h41 => exact rs
   case' h42 => refine' acons ?h39 ?h40 (hs := star_c)
   case' h39 => exact rs
   case' h40 => refine' acons ?h37 ?h38 (hs := star_c)
   case' h37 => exact rs
   case' h38 => refine' acons ?h35 ?h36 (hs := star_c)
   case' h35 => exact rs
   case' h36 => refine' acons ?h33 ?h34 (hs := star_c)
   case' h33 => exact rs
   case' h34 => refine' acons ?h31 ?h32 (hs := star_c)
   case' h31 => exact rs
   case' h32 => refine' acons ?h29 ?h30 (hs := star_c)
   case' h29 => exact rs
   case' h30 => refine' acons ?h27 ?h28 (hs := star_c)
   case' h27 => exact rs
   case' h28 => refine' acons ?h25 ?h26 (hs := star_c)
   case' h25 => exact rs
   case' h26 => exact anil
   case' h52 => rfl
   case' h53 => exact sw_list
   case' h54 => rfl
   case' h56 => refine' sone ?h24
   case' h24 => refine' sret ?h23
   case' h23 => refine' rix ?h21 ?h22
   case' h21 => refine' rlsf ?h15
   case' h15 => refine' acons ?h13 ?h14
   case' h13 => refine' rcallF F__law_said (hr.mono (by decide)) ?h12 (hg := gl__law_a_text__law_said) (hdb := db__law_said)
   case' h12 => refine' acons ?h10 ?h11
   case' h10 => exact rvN 0 no__law_a_text
   case' h11 => exact anil
   case' h14 => refine' acons ?h8 ?h9
   case' h8 => refine' rix ?h6 ?h7
   case' h6 => exact rvN 1 no__law_a_text
   case' h7 => refine' rcallF F__law_take (hr.mono (by decide)) ?h5 (hg := gl__law_a_text__law_take) (hdb := db__law_take)
   case' h5 => refine' acons ?h3 ?h4
   case' h3 => exact rvN 0 no__law_a_text
   case' h4 => refine' acons ?h1 ?h2 (hs := star_c)
   case' h1 => exact ri
   case' h2 => exact anil
   case' h9 => exact anil
   case' h22 => refine' rcallF F__law_take (hr.mono (by decide)) ?h20 (hg := gl__law_a_text__law_take) (hdb := db__law_take)
   case' h20 => refine' acons ?h18 ?h19
   case' h18 => exact rvN 0 no__law_a_text
   case' h19 => refine' acons ?h16 ?h17 (hs := star_c)
   case' h16 => exact ri
   case' h17 => exact anil
  case len =>
    unfold sp__law_a_text at h; obtain ⟨b, n, rfl, _⟩ := h; rfl
  case body =>
    unfold sp__law_a_text at h
    obtain ⟨b, n, rfl, hB, n0, n1, h⟩ := h
    refine do_start (τ' := [some (.ref b), none]) rfl ?_
    walk_at "rs"
    refine said_do hB n0 (by omega) fun z o1 hz ho1 => ?_
    walk_at "rs"
    refine take_do (Bag.put ho1) (by decide) (by decide) (by omega) fun r2 o2 ra2 rb2 ho2 => ?_
    walk_at "rs"
    refine at_strs goodT ra2 ⟨goodT_of (by decide +kernel), goodT_of (by decide +kernel), goodT_of (by decide +kernel), goodT_of (by decide +kernel), goodT_of (by decide +kernel), goodT_of (by decide +kernel), goodT_of (by decide +kernel), goodT_of (by decide +kernel), goodT_of (by decide +kernel), goodT_of (by decide +kernel), goodT_of (by decide +kernel), goodT_of (by decide +kernel), trivial⟩ fun od hod => ?_
    walk_at "rs"
    refine take_do (Bag.put ho2) (by decide) (by decide) (by omega) fun r3 o3 ra3 rb3 ho3 => ?_
    walk_at "rs"
    refine at_strs goodT ra3 ⟨hz, hod, trivial⟩ fun t ht => ?_
    have := h t o3 ht (ho3.mono (by omega))
    simpa only [R.put_put] using this
def pk__law_an_answer (T : Txt P w K mg) (F__law_take : RFn P w K mg base 1 "_law_take" ["bag", "many"] sp__law_take) (F__law_number_for : RFn P w K mg base 2 "_law_number_for" ["bag", "low", "high"] sp__law_number_for) : {t : RTS // ∀ (f : Addr) (cdv : Value) (A : Around) (outer : List Env) (s : Shared) (H : Hp) (E : XK), Room 2 (A.deeper (envOfC "_law_an_answer" (defScope s__law_an_answer) s.heap.objs.size f cdv)) → RPSs (cxOf CX0 P w K mg base N__law_an_answer "_law_an_answer" (defScope s__law_an_answer) f cdv A outer s H E).nox (defBody s__law_an_answer) t} := by
  refine' ⟨?t, fun f cdv A outer s H E hr => ?term⟩
  case term =>
   refine' scons ?h129 ?h130
   case' h129 => refine' ssetN 1 no__law_an_answer ?h128
   case' h128 => refine' rcallF F__law_number_for (hr.mono (by decide)) ?h127 (hg := gl__law_an_answer__law_number_for) (hdb := db__law_number_for)
   case' h127 => refine' acons ?h125 ?h126
   case' h125 => exact rvN 0 no__law_an_answer
   case' h126 => refine' acons ?h123 ?h124
   case' h123 => exact ri
   case' h124 => refine' acons ?h121 ?h122
   case' h121 => exact ri
   case' h122 => exact anil
   case' h130 => refine' scons ?h119 ?h120
   case' h119 => refine' ssetN 2 no__law_an_answer ?h118
   case' h118 => refine' rtup ?h117
   case' h117 => refine' acons ?h115 ?h116
   case' h115 => exact rs
   case' h116 => refine' acons ?h113 ?h114
   case' h113 => refine' rcallF F__law_number_for (hr.mono (by decide)) ?h112 (hg := gl__law_an_answer__law_number_for) (hdb := db__law_number_for)
   case' h112 => refine' acons ?h110 ?h111
   case' h110 => exact rvN 0 no__law_an_answer
   case' h111 => refine' acons ?h108 ?h109
   case' h108 => exact ri
   case' h109 => refine' acons ?h106 ?h107
   case' h106 => exact ri
   case' h107 => exact anil
   case' h114 => refine' acons ?h104 ?h105
   case' h104 => refine' rcallF F__law_number_for (hr.mono (by decide)) ?h103 (hg := gl__law_an_answer__law_number_for) (hdb := db__law_number_for)
   case' h103 => refine' acons ?h101 ?h102
   case' h101 => exact rvN 0 no__law_an_answer
   case' h102 => refine' acons ?h99 ?h100
   case' h99 => exact ri
   case' h100 => refine' acons ?h97 ?h98
   case' h97 => exact ri
   case' h98 => exact anil
   case' h105 => exact anil
   case' h120 => refine' scons ?h95 ?h96
   case' h95 => refine' ssetN 3 no__law_an_answer ?h94
   case' h94 => refine' rtup ?h93
   case' h93 => refine' acons ?h91 ?h92
   case' h91 => exact rs
   case' h92 => refine' acons ?h89 ?h90
   case' h89 => refine' rix ?h87 ?h88
   case' h87 => refine' rlsf ?h81
   case' h81 => refine' acons ?h79 ?h80
   case' h79 => exact rs
   case' h80 => refine' acons ?h77 ?h78
   case' h77 => exact rs
   case' h78 => refine' acons ?h75 ?h76
   case' h75 => exact rs
   case' h76 => refine' acons ?h73 ?h74
   case' h73 => exact rs
   case' h74 => refine' acons ?h71 ?h72
   case' h71 => exact rs
   case' h72 => refine' acons ?h69 ?h70
   case' h69 => exact rs
   case' h70 => exact anil
   case' h88 => refine' rcallF F__law_take (hr.mono (by decide)) ?h86 (hg := gl__law_an_answer__law_take) (hdb := db__law_take)
   case' h86 => refine' acons ?h84 ?h85
   case' h84 => exact rvN 0 no__law_an_answer
   case' h85 => refine' acons ?h82 ?h83
   case' h82 => exact ri
   case' h83 => exact anil
   case' h90 => exact anil
   case' h96 => refine' scons ?h67 ?h68
   case' h67 => refine' ssetN 4 no__law_an_answer ?h66
   case' h66 => refine' rlsf ?h65
   case' h65 => refine' acons ?h63 ?h64
   case' h63 => refine' rtup ?h62
   case' h62 => refine' acons ?h60 ?h61
   case' h60 => exact rs
   case' h61 => refine' acons ?h58 ?h59
   case' h58 => exact rvN 1 no__law_an_answer
   case' h59 => exact anil
   case' h64 => refine' acons ?h56 ?h57
   case' h56 => exact rvN 2 no__law_an_answer
   case' h57 => refine' acons ?h54 ?h55
   case' h54 => exact rvN 3 no__law_an_answer
   case' h55 => refine' acons ?h52 ?h53
   case' h52 => refine' rtup ?h51
   case' h51 => refine' acons ?h49 ?h50
   case' h49 => exact rs
   case' h50 => refine' acons ?h47 ?h48
   case' h47 => exact rvN 1 no__law_an_answer
   case' h48 => refine' acons ?h45 ?h46
   case' h45 => refine' rix ?h43 ?h44
   case' h43 => refine' rlsf ?h37
   case' h37 => refine' acons ?h35 ?h36
   case' h35 => exact rvN 2 no__law_an_answer
   case' h36 => refine' acons ?h33 ?h34
   case' h33 => exact rvN 3 no__law_an_answer
   case' h34 => exact anil
   case' h44 => refine' rcallF F__law_take (hr.mono (by decide)) ?h42 (hg := gl__law_an_answer__law_take) (hdb := db__law_take)
   case' h42 => refine' acons ?h40 ?h41
   case' h40 => exact rvN 0 no__law_an_answer
   case' h41 => refine' acons ?h38 ?h39
   case' h38 => exact ri
   case' h39 => exact anil
   case' h46 => exact anil
   case' h53 => exact anil
   case' h68 => refine' sone ?h32
   case' h32 => refine' sret ?h31
   case' h31 => refine' rix ?h29 ?h30
   case' h29 => refine' rop oadd ?h22 ?h23
   case' h22 => exact rvN 4 no__law_an_answer
   case' h23 => refine' rlsf ?h21
   case' h21 => refine' acons ?h19 ?h20
   case' h19 => refine' rop oadd ?h17 ?h18
   case' h17 => refine' rtup ?h12
   case' h12 => refine' acons ?h10 ?h11
   case' h10 => exact rs
   case' h11 => exact anil
   case' h18 => refine' rsl ?h14 ?h15 ?h16
   case' h14 => exact rvN 2 no__law_an_answer
   case' h15 => refine' psome ?h13
   case' h13 => exact ri
   case' h16 => exact pnone
   case' h20 => refine' acons ?h8 ?h9
   case' h8 => exact rn
   case' h9 => refine' acons ?h6 ?h7
   case' h6 => refine' rcallF F__law_take (hr.mono (by decide)) ?h5 (hg := gl__law_an_answer__law_take) (hdb := db__law_take)
   case' h5 => refine' acons ?h3 ?h4
   case' h3 => exact rvN 0 no__law_an_answer
   case' h4 => refine' acons ?h1 ?h2
   case' h1 => exact ri
   case' h2 => exact anil
   case' h7 => exact anil
   case' h30 => refine' rcallF F__law_take (hr.mono (by decide)) ?h28 (hg := gl__law_an_answer__law_take) (hdb := db__law_take)
   case' h28 => refine' acons ?h26 ?h27
   case' h26 => exact rvN 0 no__law_an_answer
   case' h27 => refine' acons ?h24 ?h25
   case' h24 => exact ri
   case' h25 => exact anil


def AllQ (p : RV → Prop) : List RV → Prop
  | [] => True
  | x :: r => p x ∧ AllQ p r
theorem AllQ.mem {p : RV → Prop} : ∀ {xs : List RV}, AllQ p xs → ∀ v ∈ xs, p v
  | x :: r, h, v, m => by
    rcases List.mem_cons.mp m with rfl | m
    · exact h.1
    · exact AllQ.mem h.2 v m
theorem at_Q (p : RV → Prop) {xs : List RV} {i : Int} {P : RV → Prop} (h0 : 0 ≤ i) (ha : AllQ p xs) (h : ∀ v, p v → P v) (h1 : i < xs.length := by (simp only [List.length_cons, List.length_nil]; omega)) : (match atI xs i with | some v => P v | none => False) := at_do h0 h1 fun v hv => h v (ha.mem v hv)
def FlatT (v : RV) : Prop := ∃ ys, v = .tup ys ∧ Flat ys
theorem flat_of {s : Str} {r : List RV} (hs : (!decide (s = "turned") && decide (s.length ≤ 100)) = true) (hl : r.length ≤ 10) (hr : AllQ (fun x => (∃ i : Int, x = .int i ∧ 0 ≤ i ∧ i < 10000000000) ∨ ∃ z : Str, x = .str z ∧ z.length ≤ 100) r) : Flat (.str s :: r) := by
  simp only [Bool.and_eq_true, Bool.not_eq_true', decide_eq_false_iff_not, decide_eq_true_eq] at hs
  exact ⟨s, r, rfl, hs.1, hs.2, hl, fun x hx => hr.mem x hx⟩
theorem kI {i : Int} (h0 : 0 ≤ i) (h1 : i ≤ 9999) : (∃ j : Int, RV.int i = .int j ∧ 0 ≤ j ∧ j < 10000000000) ∨ ∃ z : Str, RV.int i = .str z ∧ z.length ≤ 100 := .inl ⟨i, rfl, h0, by omega⟩
theorem kS {s : Str} (h : s.length ≤ 100) : (∃ j : Int, RV.str s = .int j ∧ 0 ≤ j ∧ j < 10000000000) ∨ ∃ z : Str, RV.str s = .str z ∧ z.length ≤ 100 := .inr ⟨s, rfl, h⟩

theorem rd__law_an_answer (T : Txt P w K mg) (F__law_take : RFn P w K mg base 1 "_law_take" ["bag", "many"] sp__law_take) (F__law_number_for : RFn P w K mg base 2 "_law_number_for" ["bag", "low", "high"] sp__law_number_for) {rs : List RV} {M : RM} {Q : RVK} (h : sp__law_an_answer rs M Q) : (pk__law_an_answer (base := base) T F__law_take F__law_number_for).1 { nx := fun _ M' => Q .non M', rt := Q } (rstart N__law_an_answer rs) M := by
    unfold sp__law_an_answer at h
    unfold pk__law_an_answer
    dsimp only
    obtain ⟨b, n, rfl, hB, n0, n1, h⟩ := h
    refine do_start (τ' := [some (.ref b), none, none, none, none]) rfl ?_
    walk_at "rs"
    refine number_do hB (by omega) (by omega) (by decide) (by decide) (by decide) fun k1 o1 ka1 kb1 ho1 => ?_
    walk_at "rs"
    refine number_do (Bag.put ho1) (by omega) (by omega) (by decide) (by decide) (by decide) fun k2 o2 ka2 kb2 ho2 => ?_
    walk_at "rs"
    refine number_do (Bag.put ho2) (by omega) (by omega) (by decide) (by decide) (by decide) fun k3 o3 ka3 kb3 ho3 => ?_
    walk_at "rs"
    refine take_do (Bag.put ho3) (by decide) (by decide) (by omega) fun r4 o4 ra4 rb4 ho4 => ?_
    walk_at "rs"
    refine at_strs (fun z => z.length ≤ 100) ra4 ⟨by decide +kernel, by decide +kernel, by decide +kernel, by decide +kernel, by decide +kernel, by decide +kernel, trivial⟩ fun wy hwy => ?_
    walk_at "rs"
    refine take_do (Bag.put ho4) (by decide) (by decide) (by omega) fun r5 o5 ra5 rb5 ho5 => ?_
    walk_at "rs"
    have f1 : Flat [.str "in", .int k2, .int k3] := flat_of (by decide +kernel) (by simp) ⟨kI ka2 (by omega), kI (by omega) kb3, trivial⟩
    have f2 : Flat [.str "kept", .str wy] := flat_of (by decide +kernel) (by simp) ⟨kS hwy, trivial⟩
    have f3 : Flat [.str "led", .int k1] := flat_of (by decide +kernel) (by simp) ⟨kI (by omega) kb1, trivial⟩
    have f4 : Flat [.str "told", .int k2, .int k3] := flat_of (by decide +kernel) (by simp) ⟨kI ka2 (by omega), kI (by omega) kb3, trivial⟩
    refine at_Q FlatT ra5 ⟨⟨_, rfl, f1⟩, ⟨_, rfl, f2⟩, trivial⟩ fun tv htv => ?_
    obtain ⟨ys, rfl, hys⟩ := htv
    walk_at "rs"
    rw [cut1]
    walk_at "rs"
    refine take_do (Bag.put ho5) (by decide) (by decide) (by omega) fun r6 o6 ra6 rb6 ho6 => ?_
    walk_at "rs"
    refine take_do (Bag.put ho6) (by decide) (by decide) (by omega) fun r7 o7 ra7 rb7 ho7 => ?_
    walk_at "rs"
    refine at_Q Ans ra7 ⟨.inr (.inr (.inl ⟨_, rfl, f3⟩)), .inr (.inr (.inl ⟨_, rfl, f1⟩)), .inr (.inr (.inl ⟨_, rfl, f2⟩)), .inr (.inr (.inr ⟨k1, ys, rfl, by omega, by omega, hys⟩)), .inr (.inr (.inl ⟨_, rfl, f4⟩)), .inl rfl, .inr (.inl ⟨r6, rfl, ra6, rb6⟩), trivial⟩ (fun v hv => ?_) (h1 := rb7)
    have := h v o7 hv (ho7.mono (by omega))
    simpa only [R.put_put] using this
theorem fn__law_an_answer {f : Addr} {fd : FuncData} (F : Fun K "_law_an_answer" "_law_an_answer" s__law_an_answer f fd) (T : Txt P w K mg) (F__law_take : RFn P w K mg base 1 "_law_take" ["bag", "many"] sp__law_take) (F__law_number_for : RFn P w K mg base 2 "_law_number_for" ["bag", "low", "high"] sp__law_number_for) : FnOk P w K mg base CX0 3 f fd ["bag"] (upSp K sp__law_an_answer) := by
  refine' rfnok F sc__law_an_answer (fun rs M Q h => ?len) (fun cdv A outer s H E hr => (pk__law_an_answer (base := base) T F__law_take F__law_number_for).2 f cdv A outer s H E hr) (fun rs M Q h => rd__law_an_answer T F__law_take F__law_number_for h)
  unfold sp__law_an_answer at h; obtain ⟨b, n, rfl, _⟩ := h; rfl
def pk_read_parts (T : Txt P w K mg) (F_read_words : RFn P w K mg base 3 "read_words" ["text"] sp_read_words) : {t : RTS // ∀ (f : Addr) (cdv : Value) (A : Around) (outer : List Env) (s : Shared) (H : Hp) (E : XK), Room 3 (A.deeper (envOfC "read_parts" (defScope s_read_parts) s.heap.objs.size f cdv)) → RPSs (cxOf CX0 P w K mg base N_read_parts "read_parts" (defScope s_read_parts) f cdv A outer s H E).nox (defBody s_read_parts) t} := by
  refine' ⟨?t, fun f cdv A outer s H E hr => ?term⟩
  case term =>
   refine' scons ?h46 ?h47
   case' h46 => refine' ssetN 1 no_read_parts ?h45
   case' h45 => refine' rix ?h43 ?h44
   case' h43 => refine' rpartit ?h41 ?h42
   case' h41 => exact rvN 0 no_read_parts
   case' h42 => refine' acons ?h39 ?h40
   case' h39 => exact rs
   case' h40 => exact anil
   case' h44 => exact ri
   case' h47 => refine' scons ?h37 ?h38
   case' h37 => refine' sif ?h34 ?h35 ?h36
   case' h34 => refine' rtcmp (onotin hr.units) ?h27 ?h28
   case' h27 => exact rvN 1 no_read_parts
   case' h28 => exact rgt T.c_WITH_TEXT (hg := gl_read_parts_WITH_TEXT) (hd := db_WITH_TEXT)
   case' h35 => refine' sone ?h33
   case' h33 => refine' sret ?h32
   case' h32 => refine' rcallF F_read_words (hr.mono (by decide)) ?h31 (hg := gl_read_parts_read_words) (hdb := db_read_words)
   case' h31 => refine' acons ?h29 ?h30
   case' h29 => exact rvN 0 no_read_parts
   case' h30 => exact anil
   case' h36 => exact snil
   case' h38 => refine' scons ?h25 ?h26
   case' h25 => refine' sasg ?h23 ?h24
   case' h23 => refine' rpartit ?h17 ?h18
   case' h17 => exact rvN 0 no_read_parts
   case' h18 => refine' acons ?h15 ?h16
   case' h15 => exact rs
   case' h16 => exact anil
   case' h24 => (refine' gtup (is := [2, 3, 4]) rfl ?h22; (case h22 => refine' pgs_cons (pgN 2 no_read_parts) ?h21; (case h21 => refine' pgs_cons (pgN 3 no_read_parts) ?h20; (case h20 => refine' pgs_cons (pgN 4 no_read_parts) ?h19; (case h19 => exact pgs_nil)))))
   case' h26 => refine' sone ?h14
   case' h14 => refine' sret ?h13
   case' h13 => refine' rif ?h10 ?h11 ?h12
   case' h10 => refine' rtvalS ?h1
   case' h1 => exact rvN 3 no_read_parts
   case' h11 => refine' rop oadd ?h8 ?h9
   case' h8 => refine' rcallF F_read_words (hr.mono (by decide)) ?h4 (hg := gl_read_parts_read_words) (hdb := db_read_words)
   case' h4 => refine' acons ?h2 ?h3
   case' h2 => exact rvN 2 no_read_parts
   case' h3 => exact anil
   case' h9 => refine' rtup ?h7
   case' h7 => refine' acons ?h5 ?h6
   case' h5 => exact rvN 4 no_read_parts
   case' h6 => exact anil
   case' h12 => exact rn

theorem rd_read_parts (T : Txt P w K mg) (F_read_words : RFn P w K mg base 3 "read_words" ["text"] sp_read_words) {rs : List RV} {M : RM} {Q : RVK} (h : sp_read_parts rs M Q) : (pk_read_parts (base := base) T F_read_words).1 { nx := fun _ M' => Q .non M', rt := Q } (rstart N_read_parts rs) M := by
    unfold sp_read_parts at h
    unfold pk_read_parts
    dsimp only
    obtain ⟨s, rfl, hl, h⟩ := h
    unfold partsR at h
    have hz : s.length ≤ sizeLine := szl hl
    walk_at "rs"
    refine ⟨_, rfl, by decide +kernel, hz, ?_⟩
    walk_at "rs"
    refine do_kat at0 ?_
    walk_at "rs"
    refine do_ninT rfl rfl ?_
    walk_at "rs"
    refine do_kB (fun e => ?_) fun e => ?_
    · have e : txtN (Txt.partition s " ").1 = false := by have e4 : (!txtN (Txt.partition s " ").1) = true := e; simpa using e4
      rw [if_neg (by rw [e]; exact Bool.false_ne_true)] at h
      walk_at "rs"
      exact read_words_do hl h
    have e : txtN (Txt.partition s " ").1 = true := by have e4 : (!txtN (Txt.partition s " ").1) = false := e; simpa using e4
    rw [if_pos e] at h
    walk_at "rs"
    refine ⟨_, rfl, by decide +kernel, hz, ?_⟩
    walk_at "rs"
    refine do_ktestS (part_mid hl) ?_
    refine do_kB (fun e2 => ?_) fun e2 => ?_
    · rw [if_pos e2] at h
      walk_at "rs"
      refine read_words_do (part_fst hl) ?_
      walk_at "rs"
      refine do_addT' (words_few hl) ?_
      exact h
    · rw [if_neg (by rw [e2]; exact Bool.false_ne_true)] at h
      walk_at "rs"
      exact h
theorem fn_read_parts {f : Addr} {fd : FuncData} (F : Fun K "read_parts" "read_parts" s_read_parts f fd) (T : Txt P w K mg) (F_read_words : RFn P w K mg base 3 "read_words" ["text"] sp_read_words) : FnOk P w K mg base CX0 4 f fd ["text"] (upSp K sp_read_parts) := by
  refine' rfnok F sc_read_parts (fun rs M Q h => ?len) (fun cdv A outer s H E hr => (pk_read_parts (base := base) T F_read_words).2 f cdv A outer s H E hr) (fun rs M Q h => rd_read_parts T F_read_words h)
  unfold sp_read_parts at h; obtain ⟨s, rfl, _⟩ := h; rfl
def pk__law_a_deed (T : Txt P w K mg) (F__law_take : RFn P w K mg base 1 "_law_take" ["bag", "many"] sp__law_take) (F__law_a_text : RFn P w K mg base 3 "_law_a_text" ["bag"] sp__law_a_text) (F__law_number_for : RFn P w K mg base 2 "_law_number_for" ["bag", "low", "high"] sp__law_number_for) : {t : RTS // ∀ (f : Addr) (cdv : Value) (A : Around) (outer : List Env) (s : Shared) (H : Hp) (E : XK), Room 3 (A.deeper (envOfC "_law_a_deed" (defScope s__law_a_deed) s.heap.objs.size f cdv)) → RPSs (cxOf CX0 P w K mg base N__law_a_deed "_law_a_deed" (defScope s__law_a_deed) f cdv A outer s H E).nox (defBody s__law_a_deed) t} := by
  refine' ⟨?t, fun f cdv A outer s H E hr => ?term⟩
  case term =>
   refine' scons ?h258 ?h259
   case' h258 => refine' ssetN 1 no__law_a_deed ?h257
   case' h257 => refine' rix ?h255 ?h256
   case' h255 => refine' rlsf ?h249
   case' h249 => refine' acons ?h247 ?h248
   case' h247 => exact rs
   case' h248 => refine' acons ?h245 ?h246
   case' h245 => exact rs
   case' h246 => exact anil
   case' h256 => refine' rcallF F__law_take (hr.mono (by decide)) ?h254 (hg := gl__law_a_deed__law_take) (hdb := db__law_take)
   case' h254 => refine' acons ?h252 ?h253
   case' h252 => exact rvN 0 no__law_a_deed
   case' h253 => refine' acons ?h250 ?h251
   case' h250 => exact ri
   case' h251 => exact anil
   case' h259 => refine' scons ?h243 ?h244
   case' h243 => refine' ssetN 2 no__law_a_deed ?h242
   case' h242 => refine' rtup ?h241
   case' h241 => refine' acons ?h239 ?h240
   case' h239 => refine' rif ?h236 ?h237 ?h238
   case' h236 => refine' rtcmp (oeq hr.units) ?h218 ?h219
   case' h218 => exact rvN 1 no__law_a_deed
   case' h219 => exact rs
   case' h237 => exact rs
   case' h238 => refine' rix ?h234 ?h235
   case' h234 => refine' rlsf ?h228
   case' h228 => refine' acons ?h226 ?h227
   case' h226 => exact rs
   case' h227 => refine' acons ?h224 ?h225
   case' h224 => exact rs
   case' h225 => refine' acons ?h222 ?h223
   case' h222 => exact rs
   case' h223 => refine' acons ?h220 ?h221
   case' h220 => exact rs
   case' h221 => exact anil
   case' h235 => refine' rcallF F__law_take (hr.mono (by decide)) ?h233 (hg := gl__law_a_deed__law_take) (hdb := db__law_take)
   case' h233 => refine' acons ?h231 ?h232
   case' h231 => exact rvN 0 no__law_a_deed
   case' h232 => refine' acons ?h229 ?h230
   case' h229 => exact ri
   case' h230 => exact anil
   case' h240 => refine' acons ?h216 ?h217
   case' h216 => refine' rcallF F__law_a_text (hr.mono (by decide)) ?h215 (hg := gl__law_a_deed__law_a_text) (hdb := db__law_a_text)
   case' h215 => refine' acons ?h213 ?h214
   case' h213 => exact rvN 0 no__law_a_deed
   case' h214 => exact anil
   case' h217 => exact anil
   case' h244 => refine' scons ?h211 ?h212
   case' h211 => refine' ssetN 3 no__law_a_deed ?h210
   case' h210 => refine' rtup ?h209
   case' h209 => refine' acons ?h207 ?h208
   case' h207 => refine' rcallF F__law_number_for (hr.mono (by decide)) ?h206 (hg := gl__law_a_deed__law_number_for) (hdb := db__law_number_for)
   case' h206 => refine' acons ?h204 ?h205
   case' h204 => exact rvN 0 no__law_a_deed
   case' h205 => refine' acons ?h202 ?h203
   case' h202 => exact ri
   case' h203 => refine' acons ?h200 ?h201
   case' h200 => exact ri
   case' h201 => exact anil
   case' h208 => refine' acons ?h198 ?h199
   case' h198 => refine' rcallF F__law_number_for (hr.mono (by decide)) ?h197 (hg := gl__law_a_deed__law_number_for) (hdb := db__law_number_for)
   case' h197 => refine' acons ?h195 ?h196
   case' h195 => exact rvN 0 no__law_a_deed
   case' h196 => refine' acons ?h193 ?h194
   case' h193 => exact ri
   case' h194 => refine' acons ?h191 ?h192
   case' h191 => exact ri
   case' h192 => exact anil
   case' h199 => exact anil
   case' h212 => refine' scons ?h189 ?h190
   case' h189 => refine' ssetN 4 no__law_a_deed ?h188
   case' h188 => refine' rcallF F__law_number_for (hr.mono (by decide)) ?h187 (hg := gl__law_a_deed__law_number_for) (hdb := db__law_number_for)
   case' h187 => refine' acons ?h185 ?h186
   case' h185 => exact rvN 0 no__law_a_deed
   case' h186 => refine' acons ?h183 ?h184
   case' h183 => exact ri
   case' h184 => refine' acons ?h181 ?h182
   case' h181 => exact ri
   case' h182 => exact anil
   case' h190 => refine' scons ?h179 ?h180
   case' h179 => refine' ssetN 5 no__law_a_deed ?h178
   case' h178 => refine' rcallF F__law_number_for (hr.mono (by decide)) ?h177 (hg := gl__law_a_deed__law_number_for) (hdb := db__law_number_for)
   case' h177 => refine' acons ?h175 ?h176
   case' h175 => exact rvN 0 no__law_a_deed
   case' h176 => refine' acons ?h173 ?h174
   case' h173 => exact ri
   case' h174 => refine' acons ?h171 ?h172
   case' h171 => exact ri
   case' h172 => exact anil
   case' h180 => refine' scons ?h169 ?h170
   case' h169 => refine' ssetN 6 no__law_a_deed ?h168
   case' h168 => refine' rcallF F__law_number_for (hr.mono (by decide)) ?h167 (hg := gl__law_a_deed__law_number_for) (hdb := db__law_number_for)
   case' h167 => refine' acons ?h165 ?h166
   case' h165 => exact rvN 0 no__law_a_deed
   case' h166 => refine' acons ?h163 ?h164
   case' h163 => exact ri
   case' h164 => refine' acons ?h161 ?h162
   case' h161 => exact ri
   case' h162 => exact anil
   case' h170 => refine' scons ?h159 ?h160
   case' h159 => refine' ssetN 7 no__law_a_deed ?h158
   case' h158 => refine' rlst ?h157
   case' h157 => refine' acons ?h155 ?h156
   case' h155 => refine' rop oadd ?h153 ?h154
   case' h153 => refine' rop oadd ?h151 ?h152
   case' h151 => refine' rop oadd ?h132 ?h133
   case' h132 => refine' rtup ?h131
   case' h131 => refine' acons ?h129 ?h130
   case' h129 => exact rs
   case' h130 => refine' acons ?h127 ?h128
   case' h127 => exact rvN 1 no__law_a_deed
   case' h128 => exact anil
   case' h133 => exact rvN 3 no__law_a_deed
   case' h152 => refine' rtup ?h150
   case' h150 => refine' acons ?h148 ?h149
   case' h148 => refine' rix ?h146 ?h147
   case' h146 => refine' rlsf ?h140
   case' h140 => refine' acons ?h138 ?h139
   case' h138 => exact rvN 5 no__law_a_deed
   case' h139 => refine' acons ?h136 ?h137
   case' h136 => exact ri
   case' h137 => exact anil
   case' h147 => refine' rcallF F__law_take (hr.mono (by decide)) ?h145 (hg := gl__law_a_deed__law_take) (hdb := db__law_take)
   case' h145 => refine' acons ?h143 ?h144
   case' h143 => exact rvN 0 no__law_a_deed
   case' h144 => refine' acons ?h141 ?h142
   case' h141 => exact ri
   case' h142 => exact anil
   case' h149 => refine' acons ?h134 ?h135
   case' h134 => exact rvN 6 no__law_a_deed
   case' h135 => exact anil
   case' h154 => exact rvN 2 no__law_a_deed
   case' h156 => exact anil
   case' h160 => refine' scons ?h125 ?h126
   case' h125 => refine' sexpr ?h124
   case' h124 => refine' rappend ?h122 ?h123
   case' h122 => exact rvN 7 no__law_a_deed
   case' h123 => refine' acons ?h120 ?h121
   case' h120 => refine' rop oadd ?h118 ?h119
   case' h118 => refine' rtup ?h117
   case' h117 => refine' acons ?h115 ?h116
   case' h115 => exact rs
   case' h116 => refine' acons ?h113 ?h114
   case' h113 => exact rvN 1 no__law_a_deed
   case' h114 => refine' acons ?h111 ?h112
   case' h111 => exact rvN 5 no__law_a_deed
   case' h112 => refine' acons ?h109 ?h110
   case' h109 => exact rvN 6 no__law_a_deed
   case' h110 => refine' acons ?h107 ?h108
   case' h107 => exact rvN 4 no__law_a_deed
   case' h108 => exact anil
   case' h119 => exact rvN 2 no__law_a_deed
   case' h121 => exact anil
   case' h126 => refine' scons ?h105 ?h106
   case' h105 => refine' sexpr ?h104
   case' h104 => refine' rappend ?h102 ?h103
   case' h102 => exact rvN 7 no__law_a_deed
   case' h103 => refine' acons ?h100 ?h101
   case' h100 => refine' rtup ?h99
   case' h99 => refine' acons ?h97 ?h98
   case' h97 => exact rs
   case' h98 => refine' acons ?h95 ?h96
   case' h95 => refine' rcallF F__law_number_for (hr.mono (by decide)) ?h94 (hg := gl__law_a_deed__law_number_for) (hdb := db__law_number_for)
   case' h94 => refine' acons ?h92 ?h93
   case' h92 => exact rvN 0 no__law_a_deed
   case' h93 => refine' acons ?h90 ?h91
   case' h90 => exact ri
   case' h91 => refine' acons ?h88 ?h89
   case' h88 => exact ri
   case' h89 => exact anil
   case' h96 => refine' acons ?h86 ?h87
   case' h86 => exact rvN 1 no__law_a_deed
   case' h87 => refine' acons ?h84 ?h85
   case' h84 => exact rvN 4 no__law_a_deed
   case' h85 => refine' acons ?h82 ?h83
   case' h82 => exact rvN 5 no__law_a_deed
   case' h83 => refine' acons ?h80 ?h81
   case' h80 => exact rvN 6 no__law_a_deed
   case' h81 => exact anil
   case' h101 => exact anil
   case' h106 => refine' scons ?h78 ?h79
   case' h78 => refine' sexpr ?h77
   case' h77 => refine' rappend ?h75 ?h76
   case' h75 => exact rvN 7 no__law_a_deed
   case' h76 => refine' acons ?h73 ?h74
   case' h73 => refine' rtup ?h72
   case' h72 => refine' acons ?h70 ?h71
   case' h70 => exact rs
   case' h71 => refine' acons ?h68 ?h69
   case' h68 => refine' rcallF F__law_number_for (hr.mono (by decide)) ?h67 (hg := gl__law_a_deed__law_number_for) (hdb := db__law_number_for)
   case' h67 => refine' acons ?h65 ?h66
   case' h65 => exact rvN 0 no__law_a_deed
   case' h66 => refine' acons ?h63 ?h64
   case' h63 => exact ri
   case' h64 => refine' acons ?h61 ?h62
   case' h61 => exact ri
   case' h62 => exact anil
   case' h69 => exact anil
   case' h74 => exact anil
   case' h79 => refine' scons ?h59 ?h60
   case' h59 => refine' sexpr ?h58
   case' h58 => refine' rappend ?h56 ?h57
   case' h56 => exact rvN 7 no__law_a_deed
   case' h57 => refine' acons ?h54 ?h55
   case' h54 => refine' rop oadd ?h52 ?h53
   case' h52 => refine' rtup ?h51
   case' h51 => refine' acons ?h49 ?h50
   case' h49 => exact rs
   case' h50 => refine' acons ?h47 ?h48
   case' h47 => exact rvN 1 no__law_a_deed
   case' h48 => refine' acons ?h45 ?h46
   case' h45 => exact rvN 4 no__law_a_deed
   case' h46 => refine' acons ?h43 ?h44
   case' h43 => refine' rix ?h41 ?h42
   case' h41 => refine' rlsf ?h35
   case' h35 => refine' acons ?h33 ?h34
   case' h33 => exact rn
   case' h34 => refine' acons ?h31 ?h32
   case' h31 => exact ri
   case' h32 => refine' acons ?h29 ?h30
   case' h29 => exact rvN 5 no__law_a_deed
   case' h30 => exact anil
   case' h42 => refine' rcallF F__law_take (hr.mono (by decide)) ?h40 (hg := gl__law_a_deed__law_take) (hdb := db__law_take)
   case' h40 => refine' acons ?h38 ?h39
   case' h38 => exact rvN 0 no__law_a_deed
   case' h39 => refine' acons ?h36 ?h37
   case' h36 => exact ri
   case' h37 => exact anil
   case' h44 => exact anil
   case' h53 => exact rvN 3 no__law_a_deed
   case' h55 => exact anil
   case' h60 => refine' scons ?h27 ?h28
   case' h27 => refine' sexpr ?h26
   case' h26 => refine' rappend ?h24 ?h25
   case' h24 => exact rvN 7 no__law_a_deed
   case' h25 => refine' acons ?h22 ?h23
   case' h22 => refine' rtup ?h21
   case' h21 => refine' acons ?h19 ?h20
   case' h19 => exact rs
   case' h20 => refine' acons ?h17 ?h18
   case' h17 => refine' rcallF F__law_number_for (hr.mono (by decide)) ?h16 (hg := gl__law_a_deed__law_number_for) (hdb := db__law_number_for)
   case' h16 => refine' acons ?h14 ?h15
   case' h14 => exact rvN 0 no__law_a_deed
   case' h15 => refine' acons ?h12 ?h13
   case' h12 => exact ri
   case' h13 => refine' acons ?h10 ?h11
   case' h10 => exact ri
   case' h11 => exact anil
   case' h18 => exact anil
   case' h23 => exact anil
   case' h28 => refine' sone ?h9
   case' h9 => refine' sret ?h8
   case' h8 => refine' rix ?h6 ?h7
   case' h6 => exact rvN 7 no__law_a_deed
   case' h7 => refine' rcallF F__law_take (hr.mono (by decide)) ?h5 (hg := gl__law_a_deed__law_take) (hdb := db__law_take)
   case' h5 => refine' acons ?h3 ?h4
   case' h3 => exact rvN 0 no__law_a_deed
   case' h4 => refine' acons ?h1 ?h2
   case' h1 => exact ri
   case' h2 => exact anil


theorem if_via {tA : RTT} {ta tb : RTE} {σ : RSt} {M : RM} {K : RVK} (P : RV → RM → Prop) (h : ∀ v M', P v M' → K v M') (g : ∀ K' : RVK, (∀ v M', P v M' → K' v M') → rIf tA ta tb σ M K') : rIf tA ta tb σ M K := g K h
theorem inB_of {i lo hi : Int} (h0 : lo ≤ i) (h1 : i ≤ hi) : inB (.int i) lo hi = true := by
  show (decide (lo ≤ i) && decide (i ≤ hi)) = true
  rw [decide_eq_true h0, decide_eq_true h1]; rfl
theorem good_kind {k : Str} (h : k = "note" ∨ k = "line") : Good (.str k) ∧ kindF (.str k) = true := by
  rcases h with rfl | rfl
  · exact ⟨good_str (by decide +kernel), by decide +kernel⟩
  · exact ⟨good_str (by decide +kernel), by decide +kernel⟩
def IsWord (k w : Str) : Prop := wordF (.str k) (.str w) = true ∧ Good (.str w) ∧ w.length ≤ 100
theorem okP_s {s : Str} (h : s.length ≤ 1000) : okP (.str s) := ⟨rfl, fun z e => (by cases e; exact h)⟩
theorem okP_n : okP .non := ⟨rfl, fun s e => (by cases e)⟩
theorem Good.okP {x : RV} (h : Good x) : okP x := by
  rcases h.sh with rfl | ⟨i, rfl, _⟩ | ⟨s, rfl, hs⟩
  · exact okP_n
  · exact okP_int
  · exact okP_s (by omega)
theorem allP_of : ∀ {xs : List RV}, (∀ x ∈ xs, okP x) → AllP xs
  | [], _ => trivial
  | x :: r, h => ⟨h x List.mem_cons_self, allP_of fun y hy => h y (List.mem_cons_of_mem _ hy)⟩
theorem okR13 {x : RV} (h : Good x) : okR 13 x = true := by
  rcases h.sh with rfl | ⟨i, rfl, _⟩ | ⟨s, rfl, hs⟩ <;> rfl
theorem okT_of {n : Str} {hs : List RV} {y : RV} (g : ∀ x ∈ RV.str n :: hs, Good x) (hy : okP y) (hy' : okR 13 y = true) : okT (.tup ((RV.str n :: hs) ++ [y])) := by
  have h1 : ∀ x ∈ (RV.str n :: hs) ++ [y], okP x := fun x hx => by
    rcases List.mem_append.mp hx with hx | hx
    · exact (g x hx).okP
    · rw [List.mem_singleton.mp hx]; exact hy
  refine ⟨?_, fun xs e => by cases e; exact allP_of h1⟩
  show ((RV.str n :: hs) ++ [y]).all (okR 13) = true
  rw [List.all_eq_true]
  intro x hx
  rcases List.mem_append.mp hx with hx | hx
  · exact okR13 (g x hx)
  · rw [List.mem_singleton.mp hx]; exact hy'
theorem good_all {xs : List RV} (h : AllQ Good xs) : ∀ x ∈ xs, Good x := fun x hx => h.mem x hx
theorem dd_txt {n : Str} {hs : List RV} {t : Str} (g : AllQ Good (RV.str n :: hs)) (hl : hs.length ≤ 6) (hn : txtN n = true) (hh : hs ≠ []) (ht : goodT t) (hd : deedF (.tup ((RV.str n :: hs) ++ [.str t])) = true) : Dd n hs (.str t) :=
  ⟨good_all g, hl, okT_of (good_all g) (okP_s (by have := ht.1; omega)) rfl, hd, .inl ⟨hn, hh, t, rfl, ht⟩⟩
theorem dd_int {n : Str} {hs : List RV} {i : Int} (g : AllQ Good (RV.str n :: hs)) (hl : hs.length ≤ 6) (hn : txtN n = false) (i0 : 0 ≤ i) (i1 : i ≤ 1000000) (hd : deedF (.tup ((RV.str n :: hs) ++ [.int i])) = true) : Dd n hs (.int i) :=
  ⟨good_all g, hl, okT_of (good_all g) okP_int rfl, hd, .inr ⟨hn, i, rfl, i0, i1⟩⟩
/-- one of the six -/
def DdT (v : RV) : Prop := ∃ n hs y, v = .tup ((RV.str n :: hs) ++ [y]) ∧ Dd n hs y
theorem gI {i : Int} (h0 : 0 ≤ i) (h1 : i ≤ 1000000) : Good (.int i) := good_int h0 h1
theorem dd_out {k w t : Str} {h d p f : Int} (hk : k = "note" ∨ k = "line") (hw : IsWord k w) (ht : goodT t) (h0 : 0 ≤ h) (h1 : h ≤ 99) (d0 : 1 ≤ d) (d1 : d ≤ 9999) (p0 : 0 ≤ p) (p1 : p ≤ 1000000) (f0 : 1 ≤ f) (f1 : f ≤ 9999) : DdT (.tup [.str "out", .str k, .int h, .int d, .int p, .int f, .str w, .str t]) := by
  refine ⟨"out", [.str k, .int h, .int d, .int p, .int f, .str w], .str t, rfl, dd_txt ⟨good_str (by decide +kernel), (good_kind hk).1, gI h0 (by omega), gI (by omega) (by omega), gI p0 p1, gI (by omega) (by omega), hw.2.1, trivial⟩ (by simp) (by decide +kernel) (by simp) ht ?_⟩
  show byName "out" [.str k, .int h, .int d, .int p, .int f, .str w, .str t] = true
  rw [by_out]
  show (inB (.int h) 0 99 && (inB (.int d) 1 9999 && (inB (.int p) 0 1000000 && (inB (.int f) 1 9999 && (kindF (.str k) && (wordF (.str k) (.str w) && textF (.str t))))))) = true
  rw [inB_of h0 h1, inB_of d0 d1, inB_of p0 p1, inB_of f0 f1, (good_kind hk).2, hw.1, ht.text]; rfl
theorem dd_come {k w t : Str} {p f m : Int} (hk : k = "note" ∨ k = "line") (hw : IsWord k w) (ht : goodT t) (p0 : 1 ≤ p) (p1 : p ≤ 1000000) (f0 : 1 ≤ f) (f1 : f ≤ 9999) (m0 : 1 ≤ m) (m1 : m ≤ 9999) : DdT (.tup [.str "come", .str k, .int p, .int f, .int m, .str w, .str t]) := by
  refine ⟨"come", [.str k, .int p, .int f, .int m, .str w], .str t, rfl, dd_txt ⟨good_str (by decide +kernel), (good_kind hk).1, gI (by omega) p1, gI (by omega) (by omega), gI (by omega) (by omega), hw.2.1, trivial⟩ (by simp) (by decide +kernel) (by simp) ht ?_⟩
  show byName "come" [.str k, .int p, .int f, .int m, .str w, .str t] = true
  rw [by_come]
  show (inB (.int p) 1 1000000 && (inB (.int f) 1 9999 && (inB (.int m) 1 9999 && (kindF (.str k) && (wordF (.str k) (.str w) && textF (.str t)))))) = true
  rw [inB_of p0 p1, inB_of f0 f1, inB_of m0 m1, (good_kind hk).2, hw.1, ht.text]; rfl
theorem dd_lost {k : Str} {c m p f : Int} (hk : k = "note" ∨ k = "line") (c0 : 1 ≤ c) (c1 : c ≤ 1000000) (m0 : 1 ≤ m) (m1 : m ≤ 9999) (p0 : 1 ≤ p) (p1 : p ≤ 1000000) (f0 : 1 ≤ f) (f1 : f ≤ 9999) : DdT (.tup [.str "lost", .int c, .str k, .int m, .int p, .int f]) := by
  refine ⟨"lost", [.int c, .str k, .int m, .int p], .int f, rfl, dd_int ⟨good_str (by decide +kernel), gI (by omega) c1, (good_kind hk).1, gI (by omega) (by omega), gI (by omega) p1, trivial⟩ (by simp) (by decide +kernel) (by omega) (by omega) ?_⟩
  show byName "lost" [.int c, .str k, .int m, .int p, .int f] = true
  rw [by_lost]
  show (inB (.int c) 1 1000000 && (kindF (.str k) && (inB (.int m) 1 9999 && (inB (.int p) 1 1000000 && inB (.int f) 1 9999)))) = true
  rw [inB_of c0 c1, inB_of m0 m1, inB_of p0 p1, inB_of f0 f1, (good_kind hk).2]; rfl
theorem dd_wait {c : Int} (c0 : 0 ≤ c) (c1 : c ≤ 1000000) : DdT (.tup [.str "wait", .int c]) := by
  refine ⟨"wait", [], .int c, rfl, dd_int ⟨good_str (by decide +kernel), trivial⟩ (by simp) (by decide +kernel) c0 c1 ?_⟩
  show byName "wait" [.int c] = true
  rw [by_wait]
  exact inB_of c0 c1
theorem dd_unrule {c : Int} (c0 : 0 ≤ c) (c1 : c ≤ 1000000) : DdT (.tup [.str "unrule", .int c]) := by
  refine ⟨"unrule", [], .int c, rfl, dd_int ⟨good_str (by decide +kernel), trivial⟩ (by simp) (by decide +kernel) c0 c1 ?_⟩
  show byName "unrule" [.int c] = true
  rw [by_unrule]
  exact inB_of c0 c1
theorem dd_rule {k : Str} {m h d : Int} {p : RV} (hk : k = "note" ∨ k = "line") (m0 : 1 ≤ m) (m1 : m ≤ 9999) (hp : p = .non ∨ ∃ i : Int, p = .int i ∧ 0 ≤ i ∧ i ≤ 1000000) (h0 : 0 ≤ h) (h1 : h ≤ 99) (d0 : 1 ≤ d) (d1 : d ≤ 9999) : DdT (.tup [.str "rule", .str k, .int m, p, .int h, .int d]) := by
  have gp : Good p ∧ (isN p || inB p 0 1000000) = true := by
    rcases hp with rfl | ⟨i, rfl, i0, i1⟩
    · exact ⟨good_non, rfl⟩
    · exact ⟨good_int i0 i1, by rw [inB_of i0 i1, Bool.or_true]⟩
  refine ⟨"rule", [.str k, .int m, p, .int h], .int d, rfl, dd_int ⟨good_str (by decide +kernel), (good_kind hk).1, gI (by omega) (by omega), gp.1, gI h0 (by omega), trivial⟩ (by simp) (by decide +kernel) (by omega) (by omega) ?_⟩
  show byName "rule" [.str k, .int m, p, .int h, .int d] = true
  rw [by_rule]
  show ((isN p || inB p 0 1000000) && (kindF (.str k) && (inB (.int m) 1 9999 && (inB (.int h) 0 99 && inB (.int d) 1 9999)))) = true
  rw [gp.2, inB_of m0 m1, inB_of h0 h1, inB_of d0 d1, (good_kind hk).2]; rfl
theorem put3 {M : RM} {b p : Addr} {o o' L L' : RO} (h : p ≠ b) : put (put (put (put M b o) p L) b o') p L' = put (put M b o') p L' := by
  funext x
  unfold put
  by_cases h1 : x = p
  · simp [h1]
  · by_cases h2 : x = b
    · simp [h1, h2]
    · simp [h1, h2]
theorem do_ixR {M : RM} {Q : RVK} {a : Addr} {xs : List RV} {i : Int} (e : M a = some (.lst xs)) (h : match atI xs i with | some v => Q v M | none => False) : R.rIx (.ref a) (.int i) M Q := by
  show (match M a with | some (.lst xs) => (match atI xs i with | some v => Q v M | none => False) | _ => False)
  rw [e]
  exact h

theorem rd__law_a_deed (T : Txt P w K mg) (F__law_take : RFn P w K mg base 1 "_law_take" ["bag", "many"] sp__law_take) (F__law_a_text : RFn P w K mg base 3 "_law_a_text" ["bag"] sp__law_a_text) (F__law_number_for : RFn P w K mg base 2 "_law_number_for" ["bag", "low", "high"] sp__law_number_for) {rs : List RV} {M : RM} {Q : RVK} (h : sp__law_a_deed rs M Q) : (pk__law_a_deed (base := base) T F__law_take F__law_a_text F__law_number_for).1 { nx := fun _ M' => Q .non M', rt := Q } (rstart N__law_a_deed rs) M := by
    unfold sp__law_a_deed at h
    unfold pk__law_a_deed
    dsimp only
    obtain ⟨b, n, rfl, hB, n0, n1, h⟩ := h
    refine do_start (τ' := [some (.ref b), none, none, none, none, none, none, none]) rfl ?_
    walk_at "rn"
    refine take_do hB (by decide) (by decide) (by omega) fun r21 o21 ra21 rb21 ho21 => ?_
    walk_at "rn"
    refine at_strs (fun z => z = "note" ∨ z = "line") ra21 ⟨.inl rfl, .inr rfl, trivial⟩ fun k hk => ?_
    walk_at "rn"
    refine if_via (fun v M' => ∃ w, v = .str w ∧ IsWord k w ∧ Bag M' b (n + 2) ∧ ∃ o, M' = put M b o) (fun v M' hv => ?_) (fun K' hK => ?_)
    rotate_left
    · rcases hk with rfl | rfl
      · walk_at "rd"
        exact hK _ _ ⟨_, rfl, ⟨by decide +kernel, good_str (by decide +kernel), by decide +kernel⟩, Bag.put (ho21.mono (by omega)), _, rfl⟩
      · walk_at "rd"
        refine take_do (Bag.put ho21) (by decide) (by decide) (by omega) fun r22 o22 ra22 rb22 ho22 => ?_
        walk_at "rs"
        refine at_strs (IsWord "line") ra22 ⟨⟨by decide +kernel, good_str (by decide +kernel), by decide +kernel⟩, ⟨by decide +kernel, good_str (by decide +kernel), by decide +kernel⟩, ⟨by decide +kernel, good_str (by decide +kernel), by decide +kernel⟩, ⟨by decide +kernel, good_str (by decide +kernel), by decide +kernel⟩, trivial⟩ fun w hw => ?_
        exact hK _ _ ⟨_, rfl, hw, by rw [put_put]; exact Bag.put (ho22.mono (by omega)), _, put_put⟩
    obtain ⟨w, rfl, hw, hB2, o0, rfl⟩ := hv
    walk_at "rs"
    refine a_text_do hB2 (by omega) (by omega) fun t o6 ht ho6 => ?_
    walk_at "rs"
    refine number_do (Bag.put ho6) (by omega) (by omega) (by decide) (by decide) (by decide) fun k1 o1 ka1 kb1 ho1 => ?_
    walk_at "rs"
    refine number_do (Bag.put ho1) (by omega) (by omega) (by decide) (by decide) (by decide) fun k2 o2 ka2 kb2 ho2 => ?_
    walk_at "rs"
    refine number_do (Bag.put ho2) (by omega) (by omega) (by decide) (by decide) (by decide) fun k3 o3 ka3 kb3 ho3 => ?_
    walk_at "rs"
    refine number_do (Bag.put ho3) (by omega) (by omega) (by decide) (by decide) (by decide) fun k4 o4 ka4 kb4 ho4 => ?_
    walk_at "rs"
    refine number_do (Bag.put ho4) (by omega) (by omega) (by decide) (by decide) (by decide) fun k5 o5 ka5 kb5 ho5 => ?_
    walk_at "rs"
    refine take_do (Bag.put ho5) (by decide) (by decide) (by omega) fun r23 o23 ra23 rb23 ho23 => ?_
    walk_at "rs"
    refine at_ints 0 1000000 ra23 fun pl pl0 pl1 => ?_
    walk_at "rs"
    intro p hp
    simp only [R.put_put] at hp ⊢
    have hpb : p ≠ b := fun e => by rw [e, put_same] at hp; cases hp
    walk_at "rs"
    refine do_kapp put_same ?_
    walk_at "rs"
    refine ⟨_, _, rfl, put_same, Nat.lt_of_le_of_lt (Nat.le_of_ble_eq_true (m := 100) rfl) (by decide), ?_⟩
    rw [put_put]
    walk_at "rs"
    refine do_kapp put_same ?_
    walk_at "rs"
    refine number_do (Bag.other (Bag.put ho23) hpb) (by omega) (by omega) (by decide) (by decide) (by decide) fun k7 o7 ka7 kb7 ho7 => ?_
    walk_at "rs"
    refine ⟨_, _, rfl, put_at put_same hpb, Nat.lt_of_le_of_lt (Nat.le_of_ble_eq_true (m := 100) rfl) (by decide), ?_⟩
    rw [put3 hpb]
    walk_at "rs"
    refine do_kapp put_same ?_
    walk_at "rs"
    refine number_do (Bag.other (Bag.put ho7) hpb) (by omega) (by omega) (by decide) (by decide) (by decide) fun k8 o8 ka8 kb8 ho8 => ?_
    walk_at "rs"
    refine ⟨_, _, rfl, put_at put_same hpb, Nat.lt_of_le_of_lt (Nat.le_of_ble_eq_true (m := 100) rfl) (by decide), ?_⟩
    rw [put3 hpb]
    walk_at "rs"
    refine do_kapp put_same ?_
    walk_at "rs"
    refine take_do (Bag.other (Bag.put ho8) hpb) (by decide) (by decide) (by omega) fun r9 o9 ra9 rb9 ho9 => ?_
    walk_at "rs"
    refine at_Q (fun v => v = .non ∨ ∃ i : Int, v = .int i ∧ 0 ≤ i ∧ i ≤ 1000000) ra9 ⟨.inl rfl, .inr ⟨0, rfl, by decide, by decide⟩, .inr ⟨k4, rfl, by omega, by omega⟩, trivial⟩ fun rp hrp => ?_
    walk_at "rs"
    refine ⟨_, _, rfl, put_at put_same hpb, Nat.lt_of_le_of_lt (Nat.le_of_ble_eq_true (m := 100) rfl) (by decide), ?_⟩
    rw [put3 hpb]
    walk_at "rs"
    refine do_kapp put_same ?_
    walk_at "rs"
    refine number_do (Bag.other (Bag.put ho9) hpb) (by omega) (by omega) (by decide) (by decide) (by decide) fun k10 o10 ka10 kb10 ho10 => ?_
    walk_at "rs"
    refine ⟨_, _, rfl, put_at put_same hpb, Nat.lt_of_le_of_lt (Nat.le_of_ble_eq_true (m := 100) rfl) (by decide), ?_⟩
    rw [put3 hpb]
    walk_at "rs"
    refine take_do (Bag.other (Bag.put ho10) hpb) (by decide) (by decide) (by omega) fun r11 o11 ra11 rb11 ho11 => ?_
    walk_at "rs"
    refine do_ixR (put_at put_same hpb) ?_
    refine at_Q DdT ra11 ⟨dd_out hk hw ht ka1 kb1 ka2 kb2 pl0 pl1 ka5 kb5, dd_come hk hw ht ka4 kb4 ka5 kb5 ka3 kb3, dd_lost hk ka7 kb7 ka3 kb3 ka4 kb4 ka5 kb5, dd_wait ka8 kb8, dd_rule hk ka3 kb3 hrp ka1 kb1 ka2 kb2, dd_unrule ka10 kb10, trivial⟩ (fun v hv => ?_) (h1 := rb11)
    obtain ⟨nm, hs, y, rfl, dd⟩ := hv
    exact h nm hs y _ dd (Bag.put (ho11.mono (by omega)))
theorem fn__law_a_deed {f : Addr} {fd : FuncData} (F : Fun K "_law_a_deed" "_law_a_deed" s__law_a_deed f fd) (T : Txt P w K mg) (F__law_take : RFn P w K mg base 1 "_law_take" ["bag", "many"] sp__law_take) (F__law_a_text : RFn P w K mg base 3 "_law_a_text" ["bag"] sp__law_a_text) (F__law_number_for : RFn P w K mg base 2 "_law_number_for" ["bag", "low", "high"] sp__law_number_for) : FnOk P w K mg base CX0 4 f fd ["bag"] (upSp K sp__law_a_deed) := by
  refine' rfnok F sc__law_a_deed (fun rs M Q h => ?len) (fun cdv A outer s H E hr => (pk__law_a_deed (base := base) T F__law_take F__law_a_text F__law_number_for).2 f cdv A outer s H E hr) (fun rs M Q h => rd__law_a_deed T F__law_take F__law_a_text F__law_number_for h)
  unfold sp__law_a_deed at h; obtain ⟨b, n, rfl, _⟩ := h; rfl
def pk_read_deed (T : Txt P w K mg) (F_is_deed : RFn P w K mg base 5 "is_deed" ["thing"] sp_is_deed) (F_read_parts : RFn P w K mg base 4 "read_parts" ["text"] sp_read_parts) : {t : RTS // ∀ (f : Addr) (cdv : Value) (A : Around) (outer : List Env) (s : Shared) (H : Hp) (E : XK), Room 5 (A.deeper (envOfC "read_deed" (defScope s_read_deed) s.heap.objs.size f cdv)) → RPSs (cxOf CX0 P w K mg base N_read_deed "read_deed" (defScope s_read_deed) f cdv A outer s H E).nox (defBody s_read_deed) t} := by
  refine' ⟨?t, fun f cdv A outer s H E hr => ?term⟩
  case term =>
   refine' scons ?h27 ?h28
   case' h27 => refine' ssetN 1 no_read_deed ?h26
   case' h26 => refine' rif ?h23 ?h24 ?h25
   case' h23 => refine' rtval ?h19
   case' h19 => refine' rcallB cisi_str T.b_isinstance bt_isinstance ?h18 (hg := gl_read_deed_isinstance) (hdb := db_isinstance) (hn := nn_isinstance)
   case' h18 => refine' acons ?h16 ?h17
   case' h16 => exact rvN 0 no_read_deed
   case' h17 => refine' acons ?h14 ?h15
   case' h14 => exact rty_str T.b_str gl_read_deed_str
   case' h15 => exact anil
   case' h24 => refine' rcallF F_read_parts (hr.mono (by decide)) ?h22 (hg := gl_read_deed_read_parts) (hdb := db_read_parts)
   case' h22 => refine' acons ?h20 ?h21
   case' h20 => exact rvN 0 no_read_deed
   case' h21 => exact anil
   case' h25 => exact rn
   case' h28 => refine' scons ?h12 ?h13
   case' h12 => refine' sif ?h9 ?h10 ?h11
   case' h9 => refine' rtnot ?h7
   case' h7 => refine' rtval ?h6
   case' h6 => refine' rcallF F_is_deed (hr.mono (by decide)) ?h5 (hg := gl_read_deed_is_deed) (hdb := db_is_deed)
   case' h5 => refine' acons ?h3 ?h4
   case' h3 => exact rvN 1 no_read_deed
   case' h4 => exact anil
   case' h10 => refine' sone ?h8
   case' h8 => exact snever
   case' h11 => exact snil
   case' h13 => refine' sone ?h2
   case' h2 => refine' sret ?h1
   case' h1 => exact rvN 1 no_read_deed

theorem rd_read_deed (T : Txt P w K mg) (F_is_deed : RFn P w K mg base 5 "is_deed" ["thing"] sp_is_deed) (F_read_parts : RFn P w K mg base 4 "read_parts" ["text"] sp_read_parts) {rs : List RV} {M : RM} {Q : RVK} (h : sp_read_deed rs M Q) : (pk_read_deed (base := base) T F_is_deed F_read_parts).1 { nx := fun _ M' => Q .non M', rt := Q } (rstart N_read_deed rs) M := by
    unfold sp_read_deed at h
    unfold pk_read_deed
    dsimp only
    obtain ⟨s, x, rfl, hl, e, hx, hd, h⟩ := h
    walk_at "rs"
    refine read_parts_do hl ?_
    rw [e]
    walk_at "rs"
    refine is_deed_do hx ?_
    rw [hd]
    walk_at "rs"
    exact h
theorem fn_read_deed {f : Addr} {fd : FuncData} (F : Fun K "read_deed" "read_deed" s_read_deed f fd) (T : Txt P w K mg) (F_is_deed : RFn P w K mg base 5 "is_deed" ["thing"] sp_is_deed) (F_read_parts : RFn P w K mg base 4 "read_parts" ["text"] sp_read_parts) : FnOk P w K mg base CX0 6 f fd ["text"] (upSp K sp_read_deed) := by
  refine' rfnok F sc_read_deed (fun rs M Q h => ?len) (fun cdv A outer s H E hr => (pk_read_deed (base := base) T F_is_deed F_read_parts).2 f cdv A outer s H E hr) (fun rs M Q h => rd_read_deed T F_is_deed F_read_parts h)
  unfold sp_read_deed at h; obtain ⟨s, x, rfl, _⟩ := h; rfl
def pk_law (T : Txt P w K mg) (F_show_deed : RFn P w K mg base 3 "show_deed" ["deed"] sp_show_deed) (F_show_answer : RFn P w K mg base 3 "show_answer" ["answer"] sp_show_answer) (F_read_deed : RFn P w K mg base 6 "read_deed" ["text"] sp_read_deed) (F__law_cell : RFn P w K mg base 1 "_law_cell" ["script", "k"] sp__law_cell) (F__law_well : RFn P w K mg base 1 "_law_well" ["cell", "turn"] sp__law_well) (F__law_is : RFn P w K mg base 2 "_law_is" ["found", "due"] sp__law_is) (F__law_a_deed : RFn P w K mg base 4 "_law_a_deed" ["bag"] sp__law_a_deed) (F__law_shown : RFn P w K mg base 1 "_law_shown" ["deed"] sp__law_shown) (F__law_an_answer : RFn P w K mg base 3 "_law_an_answer" ["bag"] sp__law_an_answer) (F__law_answered : RFn P w K mg base 2 "_law_answered" ["answer"] sp__law_answered) : {t : RTS // ∀ (f : Addr) (cdv : Value) (A : Around) (outer : List Env) (s : Shared) (H : Hp) (E : XK), Room 6 (A.deeper (envOfC "law" (defScope s_law) s.heap.objs.size f cdv)) → RPSs (cxOf CX0 P w K mg base N_law "law" (defScope s_law) f cdv A outer s H E).nox (defBody s_law) t} := by
  refine' ⟨?t, fun f cdv A outer s H E hr => ?term⟩
  case term =>
   refine' scons ?h107 ?h108
   case' h107 => refine' sfor PassesOwn.never rfl ?h104 ?h105 ?h106
   case' h104 => refine' iseq ?h18
   case' h18 => refine' rop oadd ?h16 ?h17
   case' h16 => refine' rlsf ?h10
   case' h10 => refine' acons ?h8 ?h9
   case' h8 => refine' rcallF F__law_cell (hr.mono (by decide)) ?h7 (hg := gl_law__law_cell) (hdb := db__law_cell)
   case' h7 => refine' acons ?h5 ?h6
   case' h5 => exact rvN 0 no_law
   case' h6 => refine' acons ?h3 ?h4
   case' h3 => exact ri
   case' h4 => exact anil
   case' h9 => exact anil
   case' h17 => refine' rsl ?h13 ?h14 ?h15
   case' h13 => exact rvN 0 no_law
   case' h14 => refine' psome ?h11
   case' h11 => exact ri
   case' h15 => refine' psome ?h12
   case' h12 => exact ri
   case' h105 => exact gnameN 1 no_law
   case' h106 => refine' scons ?h102 ?h103
   case' h102 => refine' ssetN 2 no_law ?h101
   case' h101 => refine' rcallF F__law_well (hr.mono (by decide)) ?h100 (hg := gl_law__law_well) (hdb := db__law_well)
   case' h100 => refine' acons ?h98 ?h99
   case' h98 => exact rvN 1 no_law
   case' h99 => refine' acons ?h96 ?h97
   case' h96 => exact ri
   case' h97 => exact anil
   case' h103 => refine' scons ?h94 ?h95
   case' h94 => refine' ssetN 3 no_law ?h93
   case' h93 => refine' rcallF F__law_a_deed (hr.mono (by decide)) ?h92 (hg := gl_law__law_a_deed) (hdb := db__law_a_deed)
   case' h92 => refine' acons ?h90 ?h91
   case' h90 => exact rvN 2 no_law
   case' h91 => exact anil
   case' h95 => refine' scons ?h88 ?h89
   case' h88 => refine' ssetN 4 no_law ?h87
   case' h87 => refine' rcallF F__law_shown (hr.mono (by decide)) ?h86 (hg := gl_law__law_shown) (hdb := db__law_shown)
   case' h86 => refine' acons ?h84 ?h85
   case' h84 => exact rvN 3 no_law
   case' h85 => exact anil
   case' h89 => refine' scons ?h82 ?h83
   case' h82 => refine' sif ?h79 ?h80 ?h81
   case' h79 => refine' rtw ?h76
   case' h76 => refine' ror ?h74 ?h75
   case' h74 => refine' rtcmp (one hr.units) ?h72 ?h73
   case' h72 => refine' rcallF F_show_deed (hr.mono (by decide)) ?h71 (hg := gl_law_show_deed) (hdb := db_show_deed)
   case' h71 => refine' acons ?h69 ?h70
   case' h69 => exact rvN 3 no_law
   case' h70 => exact anil
   case' h73 => exact rvN 4 no_law
   case' h75 => refine' ror1 ?h68
   case' h68 => refine' rtnot ?h67
   case' h67 => refine' rtval ?h66
   case' h66 => refine' rcallF F__law_is (hr.mono (by decide)) ?h65 (hg := gl_law__law_is) (hdb := db__law_is)
   case' h65 => refine' acons ?h63 ?h64
   case' h63 => refine' rcallF F_read_deed (hr.mono (by decide)) ?h62 (hg := gl_law_read_deed) (hdb := db_read_deed)
   case' h62 => refine' acons ?h60 ?h61
   case' h60 => exact rvN 4 no_law
   case' h61 => exact anil
   case' h64 => refine' acons ?h58 ?h59
   case' h58 => exact rvN 3 no_law
   case' h59 => exact anil
   case' h80 => refine' sone ?h78
   case' h78 => refine' sret ?h77
   case' h77 => exact rb
   case' h81 => exact snil
   case' h83 => refine' sone ?h57
   case' h57 => refine' sfor PassesOwn.never rfl ?h54 ?h55 ?h56
   case' h54 => refine' irange T.b_range ?h19 (hgl := gl_law_range)
   case' h19 => exact ri
   case' h55 => exact gnameN 5 no_law
   case' h56 => refine' scons ?h52 ?h53
   case' h52 => refine' ssetN 6 no_law ?h51
   case' h51 => refine' rcallF F__law_an_answer (hr.mono (by decide)) ?h50 (hg := gl_law__law_an_answer) (hdb := db__law_an_answer)
   case' h50 => refine' acons ?h48 ?h49
   case' h48 => exact rvN 2 no_law
   case' h49 => exact anil
   case' h53 => refine' scons ?h46 ?h47
   case' h46 => refine' ssetN 7 no_law ?h45
   case' h45 => refine' rcallF F_show_answer (hr.mono (by decide)) ?h44 (hg := gl_law_show_answer) (hdb := db_show_answer)
   case' h44 => refine' acons ?h42 ?h43
   case' h42 => exact rvN 6 no_law
   case' h43 => exact anil
   case' h47 => refine' sone ?h41
   case' h41 => refine' sif ?h38 ?h39 ?h40
   case' h38 => refine' rtw ?h35
   case' h35 => refine' ror ?h33 ?h34
   case' h33 => refine' rtnot ?h32
   case' h32 => refine' rtval ?h31
   case' h31 => refine' rcallB cisi_str T.b_isinstance bt_isinstance ?h30 (hg := gl_law_isinstance) (hdb := db_isinstance) (hn := nn_isinstance)
   case' h30 => refine' acons ?h28 ?h29
   case' h28 => exact rvN 7 no_law
   case' h29 => refine' acons ?h26 ?h27
   case' h26 => exact rty_str T.b_str gl_law_str
   case' h27 => exact anil
   case' h34 => refine' ror1 ?h25
   case' h25 => refine' rtcmp (one hr.units) ?h23 ?h24
   case' h23 => exact rvN 7 no_law
   case' h24 => refine' rcallF F__law_answered (hr.mono (by decide)) ?h22 (hg := gl_law__law_answered) (hdb := db__law_answered)
   case' h22 => refine' acons ?h20 ?h21
   case' h20 => exact rvN 6 no_law
   case' h21 => exact anil
   case' h39 => refine' sone ?h37
   case' h37 => refine' sret ?h36
   case' h36 => exact rb
   case' h40 => exact snil
   case' h108 => refine' sone ?h2
   case' h2 => refine' sret ?h1
   case' h1 => exact rb


theorem cut_mem {ns : List Int} {lo hi : Option Int} {x : RV} (h : x ∈ cutR (ns.map RV.int) lo hi) : ∃ c : Int, x = .int c := by
  obtain ⟨i, _, rfl⟩ := List.mem_map.mp (cut_sub h)
  exact ⟨i, rfl⟩
theorem Dd.atoms {n : Str} {hs : List RV} {y : RV} (d : Dd n hs y) : ∀ x ∈ (RV.str n :: hs) ++ [y], Atom x := fun x hx => by
  rcases List.mem_append.mp hx with hx | hx
  · rcases (d.good x hx).sh with rfl | ⟨i, rfl, _⟩ | ⟨s, rfl, _⟩
    · exact .inl rfl
    · exact .inr (.inl ⟨i, rfl⟩)
    · exact .inr (.inr ⟨s, rfl⟩)
  · rw [List.mem_singleton.mp hx]
    rcases d.last with ⟨_, _, t, rfl, _⟩ | ⟨_, i, rfl, _⟩
    · exact .inr (.inr ⟨t, rfl⟩)
    · exact .inr (.inl ⟨i, rfl⟩)
theorem eqSelf (s : Str) : (!eqR (.str s) (.str s)) = false := by rw [strEq.mpr rfl]; rfl

theorem rd_law (T : Txt P w K mg) (F_show_deed : RFn P w K mg base 3 "show_deed" ["deed"] sp_show_deed) (F_show_answer : RFn P w K mg base 3 "show_answer" ["answer"] sp_show_answer) (F_read_deed : RFn P w K mg base 6 "read_deed" ["text"] sp_read_deed) (F__law_cell : RFn P w K mg base 1 "_law_cell" ["script", "k"] sp__law_cell) (F__law_well : RFn P w K mg base 1 "_law_well" ["cell", "turn"] sp__law_well) (F__law_is : RFn P w K mg base 2 "_law_is" ["found", "due"] sp__law_is) (F__law_a_deed : RFn P w K mg base 4 "_law_a_deed" ["bag"] sp__law_a_deed) (F__law_shown : RFn P w K mg base 1 "_law_shown" ["deed"] sp__law_shown) (F__law_an_answer : RFn P w K mg base 3 "_law_an_answer" ["bag"] sp__law_an_answer) (F__law_answered : RFn P w K mg base 2 "_law_answered" ["answer"] sp__law_answered) {rs : List RV} {M : RM} {Q : RVK} (h : sp_law rs M Q) : (pk_law (base := base) T F_show_deed F_show_answer F_read_deed F__law_cell F__law_well F__law_is F__law_a_deed F__law_shown F__law_an_answer F__law_answered).1 { nx := fun _ M' => Q .non M', rt := Q } (rstart N_law rs) M := by
    unfold sp_law at h
    unfold pk_law
    dsimp only
    obtain ⟨ns, rfl, hl, h⟩ := h
    refine do_start (τ' := [some (.ls (ns.map RV.int)), none, none, none, none, none, none, none]) rfl ?_
    walk_at "rs"
    refine cell_do (by decide) fun c0 => ?_
    walk_at "rs"
    have hcl := cut_le (ns.map RV.int) (some 1) (some 20)
    rw [List.length_map] at hcl
    refine ⟨Nat.le_trans (show _ ≤ 1000 by simp only [List.length_cons, List.length_nil]; omega) (by decide), ?_⟩
    walk_at "rs"
    refine forL_inv (fun σ M => ∃ a1 a2 a3 a4 a5 a6 a7 : Option RV, σ = [some (.ls (ns.map RV.int)), a1, a2, a3, a4, a5, a6, a7]) (fun v => ∃ c : Int, v = .int c) _ ?_ ?_ ?_ _ _ ⟨_, _, _, _, _, _, _, rfl⟩
    · intro x hx
      rcases List.mem_append.mp hx with hx | hx
      · exact ⟨c0, by simpa using hx⟩
      · exact cut_mem hx
    · rintro x σ M N ⟨c, rfl⟩ ⟨a1, a2, a3, a4, a5, a6, a7, rfl⟩ hN
      walk_at "rs"
      refine well_do fun p o hp ho => ?_
      walk_at "rs"
      refine a_deed_do (Bag.put ho) (by decide) (by decide) fun nm hs y M1 dd hB1 => ?_
      walk_at "rs"
      refine shown_do dd fun M2 hb2 => ?_
      have hB2 := hb2 p _ hB1
      walk_at "rs"
      refine show_deed_do dd ?_
      walk_at "rs"
      refine do_kF' (eqSelf _) ?_
      have hlen := dd.len
      walk_at "rs"
      refine read_deed_do (Nat.le_trans dd.short (by decide)) dd.back dd.ok dd.deed ?_
      walk_at "rs"
      refine is_do dd.atoms (by rw [List.length_append, List.length_cons, List.length_singleton]; omega) ?_
      walk_at "rd"
      refine do_rng (by decide) (by decide) ?_
      rw [nums3]
      walk_at "rd"
      refine an_answer_do hB2 (by omega) (by omega) fun an1 oa1 han1 hoa1 => ?_
      walk_at "rs"
      refine show_answer_do han1 ?_
      walk_at "rd"
      refine answered_do han1 ?_
      walk_at "rs"
      refine do_kF' (eqSelf _) ?_
      walk_at "rs"
      refine an_answer_do (Bag.put hoa1) (by omega) (by omega) fun an2 oa2 han2 hoa2 => ?_
      walk_at "rs"
      refine show_answer_do han2 ?_
      walk_at "rd"
      refine answered_do han2 ?_
      walk_at "rs"
      refine do_kF' (eqSelf _) ?_
      walk_at "rs"
      refine an_answer_do (Bag.put hoa2) (by omega) (by omega) fun an3 oa3 han3 hoa3 => ?_
      walk_at "rs"
      refine show_answer_do han3 ?_
      walk_at "rd"
      refine answered_do han3 ?_
      walk_at "rs"
      refine do_kF' (eqSelf _) ?_
      walk_at "rs"
      exact hN _ _ ⟨_, _, _, _, _, _, _, rfl⟩
    · rintro σ M ⟨a1, a2, a3, a4, a5, a6, a7, rfl⟩
      walk_at "rs"
      exact h M
theorem fn_law {f : Addr} {fd : FuncData} (F : Fun K "law" "law" s_law f fd) (T : Txt P w K mg) (F_show_deed : RFn P w K mg base 3 "show_deed" ["deed"] sp_show_deed) (F_show_answer : RFn P w K mg base 3 "show_answer" ["answer"] sp_show_answer) (F_read_deed : RFn P w K mg base 6 "read_deed" ["text"] sp_read_deed) (F__law_cell : RFn P w K mg base 1 "_law_cell" ["script", "k"] sp__law_cell) (F__law_well : RFn P w K mg base 1 "_law_well" ["cell", "turn"] sp__law_well) (F__law_is : RFn P w K mg base 2 "_law_is" ["found", "due"] sp__law_is) (F__law_a_deed : RFn P w K mg base 4 "_law_a_deed" ["bag"] sp__law_a_deed) (F__law_shown : RFn P w K mg base 1 "_law_shown" ["deed"] sp__law_shown) (F__law_an_answer : RFn P w K mg base 3 "_law_an_answer" ["bag"] sp__law_an_answer) (F__law_answered : RFn P w K mg base 2 "_law_answered" ["answer"] sp__law_answered) : FnOk P w K mg base CX0 7 f fd ["script"] (upSp K sp_law) := by
  refine' rfnok F sc_law (fun rs M Q h => ?len) (fun cdv A outer s H E hr => (pk_law (base := base) T F_show_deed F_show_answer F_read_deed F__law_cell F__law_well F__law_is F__law_a_deed F__law_shown F__law_an_answer F__law_answered).2 f cdv A outer s H E hr) (fun rs M Q h => rd_law T F_show_deed F_show_answer F_read_deed F__law_cell F__law_well F__law_is F__law_a_deed F__law_shown F__law_an_answer F__law_answered h)
  unfold sp_law at h; obtain ⟨ns, rfl, _⟩ := h; rfl
end
theorem all_mk {l : PySem.W.OpenLaw} {w : World} {K : PySem.W.Frag} {h : Heap} {mg : Str → Option Value} {fa : Addr} (X : K.In h) (G : h.Ns mainGlobals mg) (hfa : mg "law" = some (.ref fa))
    {f0 : Addr} {od0 an0 : Option Addr} {sl0 : Array (Option Value)} {oc0 kV0 dc0 pm0 cd0 ct0 : Value}
    (a0 : PySem.W.nsIn K mainGlobals "is_whole" = some (some (.ref f0))) (l0 : K.lookup f0 = some ⟨oc0, od0, .func (PySem.W.fnOf "is_whole" "is_whole" (defArgs s_is_whole) (defBody s_is_whole) (defScope s_is_whole) .none kV0 dc0 pm0 an0 cd0 ct0), sl0⟩) (c0 : PySem.W.codeIn K cd0 "is_whole" = true) (k0 : PySem.W.keepIn K (.ref f0) = true)
    {f1 : Addr} {od1 an1 : Option Addr} {sl1 : Array (Option Value)} {oc1 kV1 dc1 pm1 cd1 ct1 : Value}
    (a1 : PySem.W.nsIn K mainGlobals "is_kind" = some (some (.ref f1))) (l1 : K.lookup f1 = some ⟨oc1, od1, .func (PySem.W.fnOf "is_kind" "is_kind" (defArgs s_is_kind) (defBody s_is_kind) (defScope s_is_kind) .none kV1 dc1 pm1 an1 cd1 ct1), sl1⟩) (c1 : PySem.W.codeIn K cd1 "is_kind" = true) (k1 : PySem.W.keepIn K (.ref f1) = true)
    {f2 : Addr} {od2 an2 : Option Addr} {sl2 : Array (Option Value)} {oc2 kV2 dc2 pm2 cd2 ct2 : Value}
    (a2 : PySem.W.nsIn K mainGlobals "is_word" = some (some (.ref f2))) (l2 : K.lookup f2 = some ⟨oc2, od2, .func (PySem.W.fnOf "is_word" "is_word" (defArgs s_is_word) (defBody s_is_word) (defScope s_is_word) .none kV2 dc2 pm2 an2 cd2 ct2), sl2⟩) (c2 : PySem.W.codeIn K cd2 "is_word" = true) (k2 : PySem.W.keepIn K (.ref f2) = true)
    {f3 : Addr} {od3 an3 : Option Addr} {sl3 : Array (Option Value)} {oc3 kV3 dc3 pm3 cd3 ct3 : Value}
    (a3 : PySem.W.nsIn K mainGlobals "is_sign" = some (some (.ref f3))) (l3 : K.lookup f3 = some ⟨oc3, od3, .func (PySem.W.fnOf "is_sign" "is_sign" (defArgs s_is_sign) (defBody s_is_sign) (defScope s_is_sign) .none kV3 dc3 pm3 an3 cd3 ct3), sl3⟩) (c3 : PySem.W.codeIn K cd3 "is_sign" = true) (k3 : PySem.W.keepIn K (.ref f3) = true)
    {f4 : Addr} {od4 an4 : Option Addr} {sl4 : Array (Option Value)} {oc4 kV4 dc4 pm4 cd4 ct4 : Value}
    (a4 : PySem.W.nsIn K mainGlobals "name_of" = some (some (.ref f4))) (l4 : K.lookup f4 = some ⟨oc4, od4, .func (PySem.W.fnOf "name_of" "name_of" (defArgs s_name_of) (defBody s_name_of) (defScope s_name_of) .none kV4 dc4 pm4 an4 cd4 ct4), sl4⟩) (c4 : PySem.W.codeIn K cd4 "name_of" = true) (k4 : PySem.W.keepIn K (.ref f4) = true)
    {f5 : Addr} {od5 an5 : Option Addr} {sl5 : Array (Option Value)} {oc5 kV5 dc5 pm5 cd5 ct5 : Value}
    (a5 : PySem.W.nsIn K mainGlobals "_law_cell" = some (some (.ref f5))) (l5 : K.lookup f5 = some ⟨oc5, od5, .func (PySem.W.fnOf "_law_cell" "_law_cell" (defArgs s__law_cell) (defBody s__law_cell) (defScope s__law_cell) .none kV5 dc5 pm5 an5 cd5 ct5), sl5⟩) (c5 : PySem.W.codeIn K cd5 "_law_cell" = true) (k5 : PySem.W.keepIn K (.ref f5) = true)
    {f6 : Addr} {od6 an6 : Option Addr} {sl6 : Array (Option Value)} {oc6 kV6 dc6 pm6 cd6 ct6 : Value}
    (a6 : PySem.W.nsIn K mainGlobals "_law_well" = some (some (.ref f6))) (l6 : K.lookup f6 = some ⟨oc6, od6, .func (PySem.W.fnOf "_law_well" "_law_well" (defArgs s__law_well) (defBody s__law_well) (defScope s__law_well) .none kV6 dc6 pm6 an6 cd6 ct6), sl6⟩) (c6 : PySem.W.codeIn K cd6 "_law_well" = true) (k6 : PySem.W.keepIn K (.ref f6) = true)
    {f7 : Addr} {od7 an7 : Option Addr} {sl7 : Array (Option Value)} {oc7 kV7 dc7 pm7 cd7 ct7 : Value}
    (a7 : PySem.W.nsIn K mainGlobals "_law_take" = some (some (.ref f7))) (l7 : K.lookup f7 = some ⟨oc7, od7, .func (PySem.W.fnOf "_law_take" "_law_take" (defArgs s__law_take) (defBody s__law_take) (defScope s__law_take) .none kV7 dc7 pm7 an7 cd7 ct7), sl7⟩) (c7 : PySem.W.codeIn K cd7 "_law_take" = true) (k7 : PySem.W.keepIn K (.ref f7) = true)
    {f8 : Addr} {od8 an8 : Option Addr} {sl8 : Array (Option Value)} {oc8 kV8 dc8 pm8 cd8 ct8 : Value}
    (a8 : PySem.W.nsIn K mainGlobals "is_whole_within" = some (some (.ref f8))) (l8 : K.lookup f8 = some ⟨oc8, od8, .func (PySem.W.fnOf "is_whole_within" "is_whole_within" (defArgs s_is_whole_within) (defBody s_is_whole_within) (defScope s_is_whole_within) .none kV8 dc8 pm8 an8 cd8 ct8), sl8⟩) (c8 : PySem.W.codeIn K cd8 "is_whole_within" = true) (k8 : PySem.W.keepIn K (.ref f8) = true)
    {f9 : Addr} {od9 an9 : Option Addr} {sl9 : Array (Option Value)} {oc9 kV9 dc9 pm9 cd9 ct9 : Value}
    (a9 : PySem.W.nsIn K mainGlobals "is_text" = some (some (.ref f9))) (l9 : K.lookup f9 = some ⟨oc9, od9, .func (PySem.W.fnOf "is_text" "is_text" (defArgs s_is_text) (defBody s_is_text) (defScope s_is_text) .none kV9 dc9 pm9 an9 cd9 ct9), sl9⟩) (c9 : PySem.W.codeIn K cd9 "is_text" = true) (k9 : PySem.W.keepIn K (.ref f9) = true)
    {f10 : Addr} {od10 an10 : Option Addr} {sl10 : Array (Option Value)} {oc10 kV10 dc10 pm10 cd10 ct10 : Value}
    (a10 : PySem.W.nsIn K mainGlobals "is_house" = some (some (.ref f10))) (l10 : K.lookup f10 = some ⟨oc10, od10, .func (PySem.W.fnOf "is_house" "is_house" (defArgs s_is_house) (defBody s_is_house) (defScope s_is_house) .none kV10 dc10 pm10 an10 cd10 ct10), sl10⟩) (c10 : PySem.W.codeIn K cd10 "is_house" = true) (k10 : PySem.W.keepIn K (.ref f10) = true)
    {f11 : Addr} {od11 an11 : Option Addr} {sl11 : Array (Option Value)} {oc11 kV11 dc11 pm11 cd11 ct11 : Value}
    (a11 : PySem.W.nsIn K mainGlobals "is_door" = some (some (.ref f11))) (l11 : K.lookup f11 = some ⟨oc11, od11, .func (PySem.W.fnOf "is_door" "is_door" (defArgs s_is_door) (defBody s_is_door) (defScope s_is_door) .none kV11 dc11 pm11 an11 cd11 ct11), sl11⟩) (c11 : PySem.W.codeIn K cd11 "is_door" = true) (k11 : PySem.W.keepIn K (.ref f11) = true)
    {f12 : Addr} {od12 an12 : Option Addr} {sl12 : Array (Option Value)} {oc12 kV12 dc12 pm12 cd12 ct12 : Value}
    (a12 : PySem.W.nsIn K mainGlobals "is_place" = some (some (.ref f12))) (l12 : K.lookup f12 = some ⟨oc12, od12, .func (PySem.W.fnOf "is_place" "is_place" (defArgs s_is_place) (defBody s_is_place) (defScope s_is_place) .none kV12 dc12 pm12 an12 cd12 ct12), sl12⟩) (c12 : PySem.W.codeIn K cd12 "is_place" = true) (k12 : PySem.W.keepIn K (.ref f12) = true)
    {f13 : Addr} {od13 an13 : Option Addr} {sl13 : Array (Option Value)} {oc13 kV13 dc13 pm13 cd13 ct13 : Value}
    (a13 : PySem.W.nsIn K mainGlobals "is_outer_place" = some (some (.ref f13))) (l13 : K.lookup f13 = some ⟨oc13, od13, .func (PySem.W.fnOf "is_outer_place" "is_outer_place" (defArgs s_is_outer_place) (defBody s_is_outer_place) (defScope s_is_outer_place) .none kV13 dc13 pm13 an13 cd13 ct13), sl13⟩) (c13 : PySem.W.codeIn K cd13 "is_outer_place" = true) (k13 : PySem.W.keepIn K (.ref f13) = true)
    {f14 : Addr} {od14 an14 : Option Addr} {sl14 : Array (Option Value)} {oc14 kV14 dc14 pm14 cd14 ct14 : Value}
    (a14 : PySem.W.nsIn K mainGlobals "is_ticks" = some (some (.ref f14))) (l14 : K.lookup f14 = some ⟨oc14, od14, .func (PySem.W.fnOf "is_ticks" "is_ticks" (defArgs s_is_ticks) (defBody s_is_ticks) (defScope s_is_ticks) .none kV14 dc14 pm14 an14 cd14 ct14), sl14⟩) (c14 : PySem.W.codeIn K cd14 "is_ticks" = true) (k14 : PySem.W.keepIn K (.ref f14) = true)
    {f15 : Addr} {od15 an15 : Option Addr} {sl15 : Array (Option Value)} {oc15 kV15 dc15 pm15 cd15 ct15 : Value}
    (a15 : PySem.W.nsIn K mainGlobals "is_letter" = some (some (.ref f15))) (l15 : K.lookup f15 = some ⟨oc15, od15, .func (PySem.W.fnOf "is_letter" "is_letter" (defArgs s_is_letter) (defBody s_is_letter) (defScope s_is_letter) .none kV15 dc15 pm15 an15 cd15 ct15), sl15⟩) (c15 : PySem.W.codeIn K cd15 "is_letter" = true) (k15 : PySem.W.keepIn K (.ref f15) = true)
    {f16 : Addr} {od16 an16 : Option Addr} {sl16 : Array (Option Value)} {oc16 kV16 dc16 pm16 cd16 ct16 : Value}
    (a16 : PySem.W.nsIn K mainGlobals "is_unrule" = some (some (.ref f16))) (l16 : K.lookup f16 = some ⟨oc16, od16, .func (PySem.W.fnOf "is_unrule" "is_unrule" (defArgs s_is_unrule) (defBody s_is_unrule) (defScope s_is_unrule) .none kV16 dc16 pm16 an16 cd16 ct16), sl16⟩) (c16 : PySem.W.codeIn K cd16 "is_unrule" = true) (k16 : PySem.W.keepIn K (.ref f16) = true)
    {f17 : Addr} {od17 an17 : Option Addr} {sl17 : Array (Option Value)} {oc17 kV17 dc17 pm17 cd17 ct17 : Value}
    (a17 : PySem.W.nsIn K mainGlobals "is_out" = some (some (.ref f17))) (l17 : K.lookup f17 = some ⟨oc17, od17, .func (PySem.W.fnOf "is_out" "is_out" (defArgs s_is_out) (defBody s_is_out) (defScope s_is_out) .none kV17 dc17 pm17 an17 cd17 ct17), sl17⟩) (c17 : PySem.W.codeIn K cd17 "is_out" = true) (k17 : PySem.W.keepIn K (.ref f17) = true)
    {f18 : Addr} {od18 an18 : Option Addr} {sl18 : Array (Option Value)} {oc18 kV18 dc18 pm18 cd18 ct18 : Value}
    (a18 : PySem.W.nsIn K mainGlobals "is_come" = some (some (.ref f18))) (l18 : K.lookup f18 = some ⟨oc18, od18, .func (PySem.W.fnOf "is_come" "is_come" (defArgs s_is_come) (defBody s_is_come) (defScope s_is_come) .none kV18 dc18 pm18 an18 cd18 ct18), sl18⟩) (c18 : PySem.W.codeIn K cd18 "is_come" = true) (k18 : PySem.W.keepIn K (.ref f18) = true)
    {f19 : Addr} {od19 an19 : Option Addr} {sl19 : Array (Option Value)} {oc19 kV19 dc19 pm19 cd19 ct19 : Value}
    (a19 : PySem.W.nsIn K mainGlobals "is_lost" = some (some (.ref f19))) (l19 : K.lookup f19 = some ⟨oc19, od19, .func (PySem.W.fnOf "is_lost" "is_lost" (defArgs s_is_lost) (defBody s_is_lost) (defScope s_is_lost) .none kV19 dc19 pm19 an19 cd19 ct19), sl19⟩) (c19 : PySem.W.codeIn K cd19 "is_lost" = true) (k19 : PySem.W.keepIn K (.ref f19) = true)
    {f20 : Addr} {od20 an20 : Option Addr} {sl20 : Array (Option Value)} {oc20 kV20 dc20 pm20 cd20 ct20 : Value}
    (a20 : PySem.W.nsIn K mainGlobals "is_wait" = some (some (.ref f20))) (l20 : K.lookup f20 = some ⟨oc20, od20, .func (PySem.W.fnOf "is_wait" "is_wait" (defArgs s_is_wait) (defBody s_is_wait) (defScope s_is_wait) .none kV20 dc20 pm20 an20 cd20 ct20), sl20⟩) (c20 : PySem.W.codeIn K cd20 "is_wait" = true) (k20 : PySem.W.keepIn K (.ref f20) = true)
    {f21 : Addr} {od21 an21 : Option Addr} {sl21 : Array (Option Value)} {oc21 kV21 dc21 pm21 cd21 ct21 : Value}
    (a21 : PySem.W.nsIn K mainGlobals "is_rule" = some (some (.ref f21))) (l21 : K.lookup f21 = some ⟨oc21, od21, .func (PySem.W.fnOf "is_rule" "is_rule" (defArgs s_is_rule) (defBody s_is_rule) (defScope s_is_rule) .none kV21 dc21 pm21 an21 cd21 ct21), sl21⟩) (c21 : PySem.W.codeIn K cd21 "is_rule" = true) (k21 : PySem.W.keepIn K (.ref f21) = true)
    {f22 : Addr} {od22 an22 : Option Addr} {sl22 : Array (Option Value)} {oc22 kV22 dc22 pm22 cd22 ct22 : Value}
    (a22 : PySem.W.nsIn K mainGlobals "is_deed" = some (some (.ref f22))) (l22 : K.lookup f22 = some ⟨oc22, od22, .func (PySem.W.fnOf "is_deed" "is_deed" (defArgs s_is_deed) (defBody s_is_deed) (defScope s_is_deed) .none kV22 dc22 pm22 an22 cd22 ct22), sl22⟩) (c22 : PySem.W.codeIn K cd22 "is_deed" = true) (k22 : PySem.W.keepIn K (.ref f22) = true)
    {f23 : Addr} {od23 an23 : Option Addr} {sl23 : Array (Option Value)} {oc23 kV23 dc23 pm23 cd23 ct23 : Value}
    (a23 : PySem.W.nsIn K mainGlobals "show_part" = some (some (.ref f23))) (l23 : K.lookup f23 = some ⟨oc23, od23, .func (PySem.W.fnOf "show_part" "show_part" (defArgs s_show_part) (defBody s_show_part) (defScope s_show_part) .none kV23 dc23 pm23 an23 cd23 ct23), sl23⟩) (c23 : PySem.W.codeIn K cd23 "show_part" = true) (k23 : PySem.W.keepIn K (.ref f23) = true)
    {f24 : Addr} {od24 an24 : Option Addr} {sl24 : Array (Option Value)} {oc24 kV24 dc24 pm24 cd24 ct24 : Value}
    (a24 : PySem.W.nsIn K mainGlobals "is_number_word" = some (some (.ref f24))) (l24 : K.lookup f24 = some ⟨oc24, od24, .func (PySem.W.fnOf "is_number_word" "is_number_word" (defArgs s_is_number_word) (defBody s_is_number_word) (defScope s_is_number_word) .none kV24 dc24 pm24 an24 cd24 ct24), sl24⟩) (c24 : PySem.W.codeIn K cd24 "is_number_word" = true) (k24 : PySem.W.keepIn K (.ref f24) = true)
    {f25 : Addr} {od25 an25 : Option Addr} {sl25 : Array (Option Value)} {oc25 kV25 dc25 pm25 cd25 ct25 : Value}
    (a25 : PySem.W.nsIn K mainGlobals "_law_shown" = some (some (.ref f25))) (l25 : K.lookup f25 = some ⟨oc25, od25, .func (PySem.W.fnOf "_law_shown" "_law_shown" (defArgs s__law_shown) (defBody s__law_shown) (defScope s__law_shown) .none kV25 dc25 pm25 an25 cd25 ct25), sl25⟩) (c25 : PySem.W.codeIn K cd25 "_law_shown" = true) (k25 : PySem.W.keepIn K (.ref f25) = true)
    {f26 : Addr} {od26 an26 : Option Addr} {sl26 : Array (Option Value)} {oc26 kV26 dc26 pm26 cd26 ct26 : Value}
    (a26 : PySem.W.nsIn K mainGlobals "show_row" = some (some (.ref f26))) (l26 : K.lookup f26 = some ⟨oc26, od26, .func (PySem.W.fnOf "show_row" "show_row" (defArgs s_show_row) (defBody s_show_row) (defScope s_show_row) .none kV26 dc26 pm26 an26 cd26 ct26), sl26⟩) (c26 : PySem.W.codeIn K cd26 "show_row" = true) (k26 : PySem.W.keepIn K (.ref f26) = true)
    {f27 : Addr} {od27 an27 : Option Addr} {sl27 : Array (Option Value)} {oc27 kV27 dc27 pm27 cd27 ct27 : Value}
    (a27 : PySem.W.nsIn K mainGlobals "read_word" = some (some (.ref f27))) (l27 : K.lookup f27 = some ⟨oc27, od27, .func (PySem.W.fnOf "read_word" "read_word" (defArgs s_read_word) (defBody s_read_word) (defScope s_read_word) .none kV27 dc27 pm27 an27 cd27 ct27), sl27⟩) (c27 : PySem.W.codeIn K cd27 "read_word" = true) (k27 : PySem.W.keepIn K (.ref f27) = true)
    {f28 : Addr} {od28 an28 : Option Addr} {sl28 : Array (Option Value)} {oc28 kV28 dc28 pm28 cd28 ct28 : Value}
    (a28 : PySem.W.nsIn K mainGlobals "_law_said" = some (some (.ref f28))) (l28 : K.lookup f28 = some ⟨oc28, od28, .func (PySem.W.fnOf "_law_said" "_law_said" (defArgs s__law_said) (defBody s__law_said) (defScope s__law_said) .none kV28 dc28 pm28 an28 cd28 ct28), sl28⟩) (c28 : PySem.W.codeIn K cd28 "_law_said" = true) (k28 : PySem.W.keepIn K (.ref f28) = true)
    {f29 : Addr} {od29 an29 : Option Addr} {sl29 : Array (Option Value)} {oc29 kV29 dc29 pm29 cd29 ct29 : Value}
    (a29 : PySem.W.nsIn K mainGlobals "_law_is" = some (some (.ref f29))) (l29 : K.lookup f29 = some ⟨oc29, od29, .func (PySem.W.fnOf "_law_is" "_law_is" (defArgs s__law_is) (defBody s__law_is) (defScope s__law_is) .none kV29 dc29 pm29 an29 cd29 ct29), sl29⟩) (c29 : PySem.W.codeIn K cd29 "_law_is" = true) (k29 : PySem.W.keepIn K (.ref f29) = true)
    {f30 : Addr} {od30 an30 : Option Addr} {sl30 : Array (Option Value)} {oc30 kV30 dc30 pm30 cd30 ct30 : Value}
    (a30 : PySem.W.nsIn K mainGlobals "_law_number_for" = some (some (.ref f30))) (l30 : K.lookup f30 = some ⟨oc30, od30, .func (PySem.W.fnOf "_law_number_for" "_law_number_for" (defArgs s__law_number_for) (defBody s__law_number_for) (defScope s__law_number_for) .none kV30 dc30 pm30 an30 cd30 ct30), sl30⟩) (c30 : PySem.W.codeIn K cd30 "_law_number_for" = true) (k30 : PySem.W.keepIn K (.ref f30) = true)
    {f31 : Addr} {od31 an31 : Option Addr} {sl31 : Array (Option Value)} {oc31 kV31 dc31 pm31 cd31 ct31 : Value}
    (a31 : PySem.W.nsIn K mainGlobals "_law_answered" = some (some (.ref f31))) (l31 : K.lookup f31 = some ⟨oc31, od31, .func (PySem.W.fnOf "_law_answered" "_law_answered" (defArgs s__law_answered) (defBody s__law_answered) (defScope s__law_answered) .none kV31 dc31 pm31 an31 cd31 ct31), sl31⟩) (c31 : PySem.W.codeIn K cd31 "_law_answered" = true) (k31 : PySem.W.keepIn K (.ref f31) = true)
    {f32 : Addr} {od32 an32 : Option Addr} {sl32 : Array (Option Value)} {oc32 kV32 dc32 pm32 cd32 ct32 : Value}
    (a32 : PySem.W.nsIn K mainGlobals "show_deed" = some (some (.ref f32))) (l32 : K.lookup f32 = some ⟨oc32, od32, .func (PySem.W.fnOf "show_deed" "show_deed" (defArgs s_show_deed) (defBody s_show_deed) (defScope s_show_deed) .none kV32 dc32 pm32 an32 cd32 ct32), sl32⟩) (c32 : PySem.W.codeIn K cd32 "show_deed" = true) (k32 : PySem.W.keepIn K (.ref f32) = true)
    {f33 : Addr} {od33 an33 : Option Addr} {sl33 : Array (Option Value)} {oc33 kV33 dc33 pm33 cd33 ct33 : Value}
    (a33 : PySem.W.nsIn K mainGlobals "show_answer" = some (some (.ref f33))) (l33 : K.lookup f33 = some ⟨oc33, od33, .func (PySem.W.fnOf "show_answer" "show_answer" (defArgs s_show_answer) (defBody s_show_answer) (defScope s_show_answer) .none kV33 dc33 pm33 an33 cd33 ct33), sl33⟩) (c33 : PySem.W.codeIn K cd33 "show_answer" = true) (k33 : PySem.W.keepIn K (.ref f33) = true)
    {f34 : Addr} {od34 an34 : Option Addr} {sl34 : Array (Option Value)} {oc34 kV34 dc34 pm34 cd34 ct34 : Value}
    (a34 : PySem.W.nsIn K mainGlobals "read_words" = some (some (.ref f34))) (l34 : K.lookup f34 = some ⟨oc34, od34, .func (PySem.W.fnOf "read_words" "read_words" (defArgs s_read_words) (defBody s_read_words) (defScope s_read_words) .none kV34 dc34 pm34 an34 cd34 ct34), sl34⟩) (c34 : PySem.W.codeIn K cd34 "read_words" = true) (k34 : PySem.W.keepIn K (.ref f34) = true)
    {f35 : Addr} {od35 an35 : Option Addr} {sl35 : Array (Option Value)} {oc35 kV35 dc35 pm35 cd35 ct35 : Value}
    (a35 : PySem.W.nsIn K mainGlobals "_law_a_text" = some (some (.ref f35))) (l35 : K.lookup f35 = some ⟨oc35, od35, .func (PySem.W.fnOf "_law_a_text" "_law_a_text" (defArgs s__law_a_text) (defBody s__law_a_text) (defScope s__law_a_text) .none kV35 dc35 pm35 an35 cd35 ct35), sl35⟩) (c35 : PySem.W.codeIn K cd35 "_law_a_text" = true) (k35 : PySem.W.keepIn K (.ref f35) = true)
    {f36 : Addr} {od36 an36 : Option Addr} {sl36 : Array (Option Value)} {oc36 kV36 dc36 pm36 cd36 ct36 : Value}
    (a36 : PySem.W.nsIn K mainGlobals "_law_an_answer" = some (some (.ref f36))) (l36 : K.lookup f36 = some ⟨oc36, od36, .func (PySem.W.fnOf "_law_an_answer" "_law_an_answer" (defArgs s__law_an_answer) (defBody s__law_an_answer) (defScope s__law_an_answer) .none kV36 dc36 pm36 an36 cd36 ct36), sl36⟩) (c36 : PySem.W.codeIn K cd36 "_law_an_answer" = true) (k36 : PySem.W.keepIn K (.ref f36) = true)
    {f37 : Addr} {od37 an37 : Option Addr} {sl37 : Array (Option Value)} {oc37 kV37 dc37 pm37 cd37 ct37 : Value}
    (a37 : PySem.W.nsIn K mainGlobals "read_parts" = some (some (.ref f37))) (l37 : K.lookup f37 = some ⟨oc37, od37, .func (PySem.W.fnOf "read_parts" "read_parts" (defArgs s_read_parts) (defBody s_read_parts) (defScope s_read_parts) .none kV37 dc37 pm37 an37 cd37 ct37), sl37⟩) (c37 : PySem.W.codeIn K cd37 "read_parts" = true) (k37 : PySem.W.keepIn K (.ref f37) = true)
    {f38 : Addr} {od38 an38 : Option Addr} {sl38 : Array (Option Value)} {oc38 kV38 dc38 pm38 cd38 ct38 : Value}
    (a38 : PySem.W.nsIn K mainGlobals "_law_a_deed" = some (some (.ref f38))) (l38 : K.lookup f38 = some ⟨oc38, od38, .func (PySem.W.fnOf "_law_a_deed" "_law_a_deed" (defArgs s__law_a_deed) (defBody s__law_a_deed) (defScope s__law_a_deed) .none kV38 dc38 pm38 an38 cd38 ct38), sl38⟩) (c38 : PySem.W.codeIn K cd38 "_law_a_deed" = true) (k38 : PySem.W.keepIn K (.ref f38) = true)
    {f39 : Addr} {od39 an39 : Option Addr} {sl39 : Array (Option Value)} {oc39 kV39 dc39 pm39 cd39 ct39 : Value}
    (a39 : PySem.W.nsIn K mainGlobals "read_deed" = some (some (.ref f39))) (l39 : K.lookup f39 = some ⟨oc39, od39, .func (PySem.W.fnOf "read_deed" "read_deed" (defArgs s_read_deed) (defBody s_read_deed) (defScope s_read_deed) .none kV39 dc39 pm39 an39 cd39 ct39), sl39⟩) (c39 : PySem.W.codeIn K cd39 "read_deed" = true) (k39 : PySem.W.keepIn K (.ref f39) = true)
    {f40 : Addr} {od40 an40 : Option Addr} {sl40 : Array (Option Value)} {oc40 kV40 dc40 pm40 cd40 ct40 : Value}
    (a40 : PySem.W.nsIn K mainGlobals "law" = some (some (.ref f40))) (l40 : K.lookup f40 = some ⟨oc40, od40, .func (PySem.W.fnOf "law" "law" (defArgs s_law) (defBody s_law) (defScope s_law) .none kV40 dc40 pm40 an40 cd40 ct40), sl40⟩) (c40 : PySem.W.codeIn K cd40 "law" = true) (k40 : PySem.W.keepIn K (.ref f40) = true)
    (z_all : PySem.W.nsIn K mainGlobals "all" = some none)
    (z_bool : PySem.W.nsIn K mainGlobals "bool" = some none)
    (z_int : PySem.W.nsIn K mainGlobals "int" = some none)
    (z_isinstance : PySem.W.nsIn K mainGlobals "isinstance" = some none)
    (z_len : PySem.W.nsIn K mainGlobals "len" = some none)
    (z_ord : PySem.W.nsIn K mainGlobals "ord" = some none)
    (z_range : PySem.W.nsIn K mainGlobals "range" = some none)
    (z_str : PySem.W.nsIn K mainGlobals "str" = some none)
    (z_tuple : PySem.W.nsIn K mainGlobals "tuple" = some none)
    (z_zip : PySem.W.nsIn K mainGlobals "zip" = some none)
    {t_GREATEST_HOUSE : Tok} (z_GREATEST_HOUSE : PySem.W.nsIn K mainGlobals "GREATEST_HOUSE" = some (some (.int 99 t_GREATEST_HOUSE)))
    {t_GREATEST_DOOR : Tok} (z_GREATEST_DOOR : PySem.W.nsIn K mainGlobals "GREATEST_DOOR" = some (some (.int 9999 t_GREATEST_DOOR)))
    {t_GREATEST_PLACE : Tok} (z_GREATEST_PLACE : PySem.W.nsIn K mainGlobals "GREATEST_PLACE" = some (some (.int 1000000 t_GREATEST_PLACE)))
    {t_GREATEST_TICKS : Tok} (z_GREATEST_TICKS : PySem.W.nsIn K mainGlobals "GREATEST_TICKS" = some (some (.int 1000000 t_GREATEST_TICKS)))
    {t_GREATEST_RULE : Tok} (z_GREATEST_RULE : PySem.W.nsIn K mainGlobals "GREATEST_RULE" = some (some (.int 1000000 t_GREATEST_RULE)))
    {t_MOST_SIGNS : Tok} (z_MOST_SIGNS : PySem.W.nsIn K mainGlobals "MOST_SIGNS" = some (some (.int 40 t_MOST_SIGNS)))
    {t_FIRST_SIGN : Tok} (z_FIRST_SIGN : PySem.W.nsIn K mainGlobals "FIRST_SIGN" = some (some (.int 32 t_FIRST_SIGN)))
    {t_LAST_SIGN : Tok} (z_LAST_SIGN : PySem.W.nsIn K mainGlobals "LAST_SIGN" = some (some (.int 126 t_LAST_SIGN)))
    {t_PERCENT_SIGN : Tok} (z_PERCENT_SIGN : PySem.W.nsIn K mainGlobals "PERCENT_SIGN" = some (some (.int 37 t_PERCENT_SIGN)))
    {t_MOST_FIGURES : Tok} (z_MOST_FIGURES : PySem.W.nsIn K mainGlobals "MOST_FIGURES" = some (some (.int 7 t_MOST_FIGURES)))
    {a_KINDS : Addr} {i_KINDS : Array Value} {n_KINDS : Nat} {d_KINDS : Option Addr} {s_KINDS : Array (Option Value)} (z_KINDS : PySem.W.nsIn K mainGlobals "KINDS" = some (some (.ref a_KINDS))) (l_KINDS : K.lookup a_KINDS = some ⟨.type "tuple", d_KINDS, .seq i_KINDS n_KINDS, s_KINDS⟩) (y_KINDS : i_KINDS.size ≤ sizeLine) (v_KINDS : Vals ((["note", "line"] : List Str).map V.str) i_KINDS.toList)
    {a_NOTE_WORDS : Addr} {i_NOTE_WORDS : Array Value} {n_NOTE_WORDS : Nat} {d_NOTE_WORDS : Option Addr} {s_NOTE_WORDS : Array (Option Value)} (z_NOTE_WORDS : PySem.W.nsIn K mainGlobals "NOTE_WORDS" = some (some (.ref a_NOTE_WORDS))) (l_NOTE_WORDS : K.lookup a_NOTE_WORDS = some ⟨.type "tuple", d_NOTE_WORDS, .seq i_NOTE_WORDS n_NOTE_WORDS, s_NOTE_WORDS⟩) (y_NOTE_WORDS : i_NOTE_WORDS.size ≤ sizeLine) (v_NOTE_WORDS : Vals ((["say"] : List Str).map V.str) i_NOTE_WORDS.toList)
    {a_LINE_WORDS : Addr} {i_LINE_WORDS : Array Value} {n_LINE_WORDS : Nat} {d_LINE_WORDS : Option Addr} {s_LINE_WORDS : Array (Option Value)} (z_LINE_WORDS : PySem.W.nsIn K mainGlobals "LINE_WORDS" = some (some (.ref a_LINE_WORDS))) (l_LINE_WORDS : K.lookup a_LINE_WORDS = some ⟨.type "tuple", d_LINE_WORDS, .seq i_LINE_WORDS n_LINE_WORDS, s_LINE_WORDS⟩) (y_LINE_WORDS : i_LINE_WORDS.size ≤ sizeLine) (v_LINE_WORDS : Vals ((["open", "say", "close", "break"] : List Str).map V.str) i_LINE_WORDS.toList)
    {a_WITH_TEXT : Addr} {i_WITH_TEXT : Array Value} {n_WITH_TEXT : Nat} {d_WITH_TEXT : Option Addr} {s_WITH_TEXT : Array (Option Value)} (z_WITH_TEXT : PySem.W.nsIn K mainGlobals "WITH_TEXT" = some (some (.ref a_WITH_TEXT))) (l_WITH_TEXT : K.lookup a_WITH_TEXT = some ⟨.type "tuple", d_WITH_TEXT, .seq i_WITH_TEXT n_WITH_TEXT, s_WITH_TEXT⟩) (y_WITH_TEXT : i_WITH_TEXT.size ≤ sizeLine) (v_WITH_TEXT : Vals ((["out", "come"] : List Str).map V.str) i_WITH_TEXT.toList)
    {aD : Addr} {esD : Array DictEntry} {epD : Nat} (zD : PySem.W.nsIn K mainGlobals "DEEDS" = some (some (.ref aD))) (lD : K.lookup aD = some ⟨.type "dict", none, .dict esD epD, #[]⟩) (nD : (aD == sysModules) = false) (rD : KRows w esD.toList [("out", Value.ref f17), ("come", Value.ref f18), ("lost", Value.ref f19), ("wait", Value.ref f20), ("rule", Value.ref f21), ("unrule", Value.ref f16)])
    {t_FIGURES : Tok} (z_FIGURES : PySem.W.nsIn K mainGlobals "FIGURES" = some (some (.str "0123456789" t_FIGURES)))
    : ∃ fd : FuncData, (∀ (s : Shared) (v : Value), BindsTo s fd ⟨[v], []⟩ [("script", v)]) ∧ ∀ base : Heap, K.In base → base.Ns mainGlobals mg → FnOk l.prog w K mg base CX0 7 fa fd ["script"] (upSp K sp_law) := by
  have e := hfa.symm.trans (PySem.W.mg_of X G a40)
  cases e
  have c_GREATEST_HOUSE : IntC mg "GREATEST_HOUSE" 99 := ⟨_, PySem.W.mg_of X G z_GREATEST_HOUSE⟩
  have c_GREATEST_DOOR : IntC mg "GREATEST_DOOR" 9999 := ⟨_, PySem.W.mg_of X G z_GREATEST_DOOR⟩
  have c_GREATEST_PLACE : IntC mg "GREATEST_PLACE" 1000000 := ⟨_, PySem.W.mg_of X G z_GREATEST_PLACE⟩
  have c_GREATEST_TICKS : IntC mg "GREATEST_TICKS" 1000000 := ⟨_, PySem.W.mg_of X G z_GREATEST_TICKS⟩
  have c_GREATEST_RULE : IntC mg "GREATEST_RULE" 1000000 := ⟨_, PySem.W.mg_of X G z_GREATEST_RULE⟩
  have c_MOST_SIGNS : IntC mg "MOST_SIGNS" 40 := ⟨_, PySem.W.mg_of X G z_MOST_SIGNS⟩
  have c_FIRST_SIGN : IntC mg "FIRST_SIGN" 32 := ⟨_, PySem.W.mg_of X G z_FIRST_SIGN⟩
  have c_LAST_SIGN : IntC mg "LAST_SIGN" 126 := ⟨_, PySem.W.mg_of X G z_LAST_SIGN⟩
  have c_PERCENT_SIGN : IntC mg "PERCENT_SIGN" 37 := ⟨_, PySem.W.mg_of X G z_PERCENT_SIGN⟩
  have c_MOST_FIGURES : IntC mg "MOST_FIGURES" 7 := ⟨_, PySem.W.mg_of X G z_MOST_FIGURES⟩
  have c_KINDS : TupC K mg "KINDS" ["note", "line"] := tupc_mk (PySem.W.mg_of X G z_KINDS) l_KINDS y_KINDS v_KINDS
  have c_NOTE_WORDS : TupC K mg "NOTE_WORDS" ["say"] := tupc_mk (PySem.W.mg_of X G z_NOTE_WORDS) l_NOTE_WORDS y_NOTE_WORDS v_NOTE_WORDS
  have c_LINE_WORDS : TupC K mg "LINE_WORDS" ["open", "say", "close", "break"] := tupc_mk (PySem.W.mg_of X G z_LINE_WORDS) l_LINE_WORDS y_LINE_WORDS v_LINE_WORDS
  have c_WITH_TEXT : TupC K mg "WITH_TEXT" ["out", "come"] := tupc_mk (PySem.W.mg_of X G z_WITH_TEXT) l_WITH_TEXT y_WITH_TEXT v_WITH_TEXT
  have c_DEEDS : DeedsT l.prog w K mg := ⟨f17, f18, f19, f20, f21, f16, PySem.W.mg_of X G a17, PySem.W.mg_of X G a18, PySem.W.mg_of X G a19, PySem.W.mg_of X G a20, PySem.W.mg_of X G a21, PySem.W.mg_of X G a16, ktab_mk (ws := [((Sum.inr "out" : Key), V.ref f17), ((Sum.inr "come" : Key), V.ref f18), ((Sum.inr "lost" : Key), V.ref f19), ((Sum.inr "wait" : Key), V.ref f20), ((Sum.inr "rule" : Key), V.ref f21), ((Sum.inr "unrule" : Key), V.ref f16)]) (PySem.W.mg_of X G zD) lD nD rD (show (["out", "come", "lost", "wait", "rule", "unrule"] : List Str).Nodup by decide +kernel) ⟨rfl, rfl, rfl⟩ (.cons ⟨rfl, rfl⟩ (.cons ⟨rfl, rfl⟩ (.cons ⟨rfl, rfl⟩ (.cons ⟨rfl, rfl⟩ (.cons ⟨rfl, rfl⟩ (.cons ⟨rfl, rfl⟩ (.nil))))))) fun H => ⟨_, _, rfl, by simp only [Rep], ⟨_, _, rfl, by simp only [Rep], ⟨_, _, rfl, by simp only [Rep], ⟨_, _, rfl, by simp only [Rep], ⟨_, _, rfl, by simp only [Rep], ⟨_, _, rfl, by simp only [Rep], rfl⟩⟩⟩⟩⟩⟩⟩
  have c_FIGURES : StrC mg "FIGURES" "0123456789" := ⟨_, PySem.W.mg_of X G z_FIGURES⟩
  have T : Txt l.prog w K mg := ⟨PySem.W.mg_none_of X G z_all, PySem.W.mg_none_of X G z_bool, PySem.W.mg_none_of X G z_int, PySem.W.mg_none_of X G z_isinstance, PySem.W.mg_none_of X G z_len, PySem.W.mg_none_of X G z_ord, PySem.W.mg_none_of X G z_range, PySem.W.mg_none_of X G z_str, PySem.W.mg_none_of X G z_tuple, PySem.W.mg_none_of X G z_zip, c_GREATEST_HOUSE, c_GREATEST_DOOR, c_GREATEST_PLACE, c_GREATEST_TICKS, c_GREATEST_RULE, c_MOST_SIGNS, c_FIRST_SIGN, c_LAST_SIGN, c_PERCENT_SIGN, c_MOST_FIGURES, c_KINDS, c_NOTE_WORDS, c_LINE_WORDS, c_WITH_TEXT, c_DEEDS, c_FIGURES⟩
  have Fn0 := fun_mk (st := s_is_whole) l0 c0 k0
  have bn0 := Fn0.binds (ps := ["thing"]) fun _ _ _ _ _ _ us hl => match us, hl with | [_], _ => rfl
  have Fn1 := fun_mk (st := s_is_kind) l1 c1 k1
  have bn1 := Fn1.binds (ps := ["thing"]) fun _ _ _ _ _ _ us hl => match us, hl with | [_], _ => rfl
  have Fn2 := fun_mk (st := s_is_word) l2 c2 k2
  have bn2 := Fn2.binds (ps := ["kind", "thing"]) fun _ _ _ _ _ _ us hl => match us, hl with | [_, _], _ => rfl
  have Fn3 := fun_mk (st := s_is_sign) l3 c3 k3
  have bn3 := Fn3.binds (ps := ["sign"]) fun _ _ _ _ _ _ us hl => match us, hl with | [_], _ => rfl
  have Fn4 := fun_mk (st := s_name_of) l4 c4 k4
  have bn4 := Fn4.binds (ps := ["thing"]) fun _ _ _ _ _ _ us hl => match us, hl with | [_], _ => rfl
  have Fn5 := fun_mk (st := s__law_cell) l5 c5 k5
  have bn5 := Fn5.binds (ps := ["script", "k"]) fun _ _ _ _ _ _ us hl => match us, hl with | [_, _], _ => rfl
  have Fn6 := fun_mk (st := s__law_well) l6 c6 k6
  have bn6 := Fn6.binds (ps := ["cell", "turn"]) fun _ _ _ _ _ _ us hl => match us, hl with | [_, _], _ => rfl
  have Fn7 := fun_mk (st := s__law_take) l7 c7 k7
  have bn7 := Fn7.binds (ps := ["bag", "many"]) fun _ _ _ _ _ _ us hl => match us, hl with | [_, _], _ => rfl
  have Fn8 := fun_mk (st := s_is_whole_within) l8 c8 k8
  have bn8 := Fn8.binds (ps := ["thing", "least", "greatest"]) fun _ _ _ _ _ _ us hl => match us, hl with | [_, _, _], _ => rfl
  have Fn9 := fun_mk (st := s_is_text) l9 c9 k9
  have bn9 := Fn9.binds (ps := ["thing"]) fun _ _ _ _ _ _ us hl => match us, hl with | [_], _ => rfl
  have Fn10 := fun_mk (st := s_is_house) l10 c10 k10
  have bn10 := Fn10.binds (ps := ["thing"]) fun _ _ _ _ _ _ us hl => match us, hl with | [_], _ => rfl
  have Fn11 := fun_mk (st := s_is_door) l11 c11 k11
  have bn11 := Fn11.binds (ps := ["thing"]) fun _ _ _ _ _ _ us hl => match us, hl with | [_], _ => rfl
  have Fn12 := fun_mk (st := s_is_place) l12 c12 k12
  have bn12 := Fn12.binds (ps := ["thing"]) fun _ _ _ _ _ _ us hl => match us, hl with | [_], _ => rfl
  have Fn13 := fun_mk (st := s_is_outer_place) l13 c13 k13
  have bn13 := Fn13.binds (ps := ["thing"]) fun _ _ _ _ _ _ us hl => match us, hl with | [_], _ => rfl
  have Fn14 := fun_mk (st := s_is_ticks) l14 c14 k14
  have bn14 := Fn14.binds (ps := ["thing"]) fun _ _ _ _ _ _ us hl => match us, hl with | [_], _ => rfl
  have Fn15 := fun_mk (st := s_is_letter) l15 c15 k15
  have bn15 := Fn15.binds (ps := ["kind", "word", "text"]) fun _ _ _ _ _ _ us hl => match us, hl with | [_, _, _], _ => rfl
  have Fn16 := fun_mk (st := s_is_unrule) l16 c16 k16
  have bn16 := Fn16.binds (ps := ["parts"]) fun _ _ _ _ _ _ us hl => match us, hl with | [_], _ => rfl
  have Fn17 := fun_mk (st := s_is_out) l17 c17 k17
  have bn17 := Fn17.binds (ps := ["parts"]) fun _ _ _ _ _ _ us hl => match us, hl with | [_], _ => rfl
  have Fn18 := fun_mk (st := s_is_come) l18 c18 k18
  have bn18 := Fn18.binds (ps := ["parts"]) fun _ _ _ _ _ _ us hl => match us, hl with | [_], _ => rfl
  have Fn19 := fun_mk (st := s_is_lost) l19 c19 k19
  have bn19 := Fn19.binds (ps := ["parts"]) fun _ _ _ _ _ _ us hl => match us, hl with | [_], _ => rfl
  have Fn20 := fun_mk (st := s_is_wait) l20 c20 k20
  have bn20 := Fn20.binds (ps := ["parts"]) fun _ _ _ _ _ _ us hl => match us, hl with | [_], _ => rfl
  have Fn21 := fun_mk (st := s_is_rule) l21 c21 k21
  have bn21 := Fn21.binds (ps := ["parts"]) fun _ _ _ _ _ _ us hl => match us, hl with | [_], _ => rfl
  have Fn22 := fun_mk (st := s_is_deed) l22 c22 k22
  have bn22 := Fn22.binds (ps := ["thing"]) fun _ _ _ _ _ _ us hl => match us, hl with | [_], _ => rfl
  have Fn23 := fun_mk (st := s_show_part) l23 c23 k23
  have bn23 := Fn23.binds (ps := ["part"]) fun _ _ _ _ _ _ us hl => match us, hl with | [_], _ => rfl
  have Fn24 := fun_mk (st := s_is_number_word) l24 c24 k24
  have bn24 := Fn24.binds (ps := ["word"]) fun _ _ _ _ _ _ us hl => match us, hl with | [_], _ => rfl
  have Fn25 := fun_mk (st := s__law_shown) l25 c25 k25
  have bn25 := Fn25.binds (ps := ["deed"]) fun _ _ _ _ _ _ us hl => match us, hl with | [_], _ => rfl
  have Fn26 := fun_mk (st := s_show_row) l26 c26 k26
  have bn26 := Fn26.binds (ps := ["parts"]) fun _ _ _ _ _ _ us hl => match us, hl with | [_], _ => rfl
  have Fn27 := fun_mk (st := s_read_word) l27 c27 k27
  have bn27 := Fn27.binds (ps := ["word"]) fun _ _ _ _ _ _ us hl => match us, hl with | [_], _ => rfl
  have Fn28 := fun_mk (st := s__law_said) l28 c28 k28
  have bn28 := Fn28.binds (ps := ["bag"]) fun _ _ _ _ _ _ us hl => match us, hl with | [_], _ => rfl
  have Fn29 := fun_mk (st := s__law_is) l29 c29 k29
  have bn29 := Fn29.binds (ps := ["found", "due"]) fun _ _ _ _ _ _ us hl => match us, hl with | [_, _], _ => rfl
  have Fn30 := fun_mk (st := s__law_number_for) l30 c30 k30
  have bn30 := Fn30.binds (ps := ["bag", "low", "high"]) fun _ _ _ _ _ _ us hl => match us, hl with | [_, _, _], _ => rfl
  have Fn31 := fun_mk (st := s__law_answered) l31 c31 k31
  have bn31 := Fn31.binds (ps := ["answer"]) fun _ _ _ _ _ _ us hl => match us, hl with | [_], _ => rfl
  have Fn32 := fun_mk (st := s_show_deed) l32 c32 k32
  have bn32 := Fn32.binds (ps := ["deed"]) fun _ _ _ _ _ _ us hl => match us, hl with | [_], _ => rfl
  have Fn33 := fun_mk (st := s_show_answer) l33 c33 k33
  have bn33 := Fn33.binds (ps := ["answer"]) fun _ _ _ _ _ _ us hl => match us, hl with | [_], _ => rfl
  have Fn34 := fun_mk (st := s_read_words) l34 c34 k34
  have bn34 := Fn34.binds (ps := ["text"]) fun _ _ _ _ _ _ us hl => match us, hl with | [_], _ => rfl
  have Fn35 := fun_mk (st := s__law_a_text) l35 c35 k35
  have bn35 := Fn35.binds (ps := ["bag"]) fun _ _ _ _ _ _ us hl => match us, hl with | [_], _ => rfl
  have Fn36 := fun_mk (st := s__law_an_answer) l36 c36 k36
  have bn36 := Fn36.binds (ps := ["bag"]) fun _ _ _ _ _ _ us hl => match us, hl with | [_], _ => rfl
  have Fn37 := fun_mk (st := s_read_parts) l37 c37 k37
  have bn37 := Fn37.binds (ps := ["text"]) fun _ _ _ _ _ _ us hl => match us, hl with | [_], _ => rfl
  have Fn38 := fun_mk (st := s__law_a_deed) l38 c38 k38
  have bn38 := Fn38.binds (ps := ["bag"]) fun _ _ _ _ _ _ us hl => match us, hl with | [_], _ => rfl
  have Fn39 := fun_mk (st := s_read_deed) l39 c39 k39
  have bn39 := Fn39.binds (ps := ["text"]) fun _ _ _ _ _ _ us hl => match us, hl with | [_], _ => rfl
  have Fn40 := fun_mk (st := s_law) l40 c40 k40
  have bn40 := Fn40.binds (ps := ["script"]) fun _ _ _ _ _ _ us hl => match us, hl with | [_], _ => rfl
  refine ⟨PySem.W.fnOf "law" "law" (defArgs s_law) (defBody s_law) (defScope s_law) .none kV40 dc40 pm40 an40 cd40 ct40, fun s v => .of_eq rfl, fun base kb nb => ?_⟩
  have G_is_whole : RFn l.prog w K mg base 1 "is_whole" ["thing"] sp_is_whole := ⟨_, _, PySem.W.mg_of X G a0, Fn0.kp, bn0, fn_is_whole Fn0 T ⟩
  have G_is_kind : RFn l.prog w K mg base 1 "is_kind" ["thing"] sp_is_kind := ⟨_, _, PySem.W.mg_of X G a1, Fn1.kp, bn1, fn_is_kind Fn1 T ⟩
  have G_is_word : RFn l.prog w K mg base 1 "is_word" ["kind", "thing"] sp_is_word := ⟨_, _, PySem.W.mg_of X G a2, Fn2.kp, bn2, fn_is_word Fn2 T ⟩
  have G_is_sign : RFn l.prog w K mg base 1 "is_sign" ["sign"] sp_is_sign := ⟨_, _, PySem.W.mg_of X G a3, Fn3.kp, bn3, fn_is_sign Fn3 T ⟩
  have G_name_of : RFn l.prog w K mg base 1 "name_of" ["thing"] sp_name_of := ⟨_, _, PySem.W.mg_of X G a4, Fn4.kp, bn4, fn_name_of Fn4 T ⟩
  have G__law_cell : RFn l.prog w K mg base 1 "_law_cell" ["script", "k"] sp__law_cell := ⟨_, _, PySem.W.mg_of X G a5, Fn5.kp, bn5, fn__law_cell Fn5 T ⟩
  have G__law_well : RFn l.prog w K mg base 1 "_law_well" ["cell", "turn"] sp__law_well := ⟨_, _, PySem.W.mg_of X G a6, Fn6.kp, bn6, fn__law_well Fn6 T ⟩
  have G__law_take : RFn l.prog w K mg base 1 "_law_take" ["bag", "many"] sp__law_take := ⟨_, _, PySem.W.mg_of X G a7, Fn7.kp, bn7, fn__law_take Fn7 T ⟩
  have G_is_whole_within : RFn l.prog w K mg base 2 "is_whole_within" ["thing", "least", "greatest"] sp_is_whole_within := ⟨_, _, PySem.W.mg_of X G a8, Fn8.kp, bn8, fn_is_whole_within Fn8 T G_is_whole⟩
  have G_is_text : RFn l.prog w K mg base 2 "is_text" ["thing"] sp_is_text := ⟨_, _, PySem.W.mg_of X G a9, Fn9.kp, bn9, fn_is_text Fn9 T G_is_sign⟩
  have G_is_house : RFn l.prog w K mg base 3 "is_house" ["thing"] sp_is_house := ⟨_, _, PySem.W.mg_of X G a10, Fn10.kp, bn10, fn_is_house Fn10 T G_is_whole_within⟩
  have G_is_door : RFn l.prog w K mg base 3 "is_door" ["thing"] sp_is_door := ⟨_, _, PySem.W.mg_of X G a11, Fn11.kp, bn11, fn_is_door Fn11 T G_is_whole_within⟩
  have G_is_place : RFn l.prog w K mg base 3 "is_place" ["thing"] sp_is_place := ⟨_, _, PySem.W.mg_of X G a12, Fn12.kp, bn12, fn_is_place Fn12 T G_is_whole_within⟩
  have G_is_outer_place : RFn l.prog w K mg base 3 "is_outer_place" ["thing"] sp_is_outer_place := ⟨_, _, PySem.W.mg_of X G a13, Fn13.kp, bn13, fn_is_outer_place Fn13 T G_is_whole_within⟩
  have G_is_ticks : RFn l.prog w K mg base 3 "is_ticks" ["thing"] sp_is_ticks := ⟨_, _, PySem.W.mg_of X G a14, Fn14.kp, bn14, fn_is_ticks Fn14 T G_is_whole_within⟩
  have G_is_letter : RFn l.prog w K mg base 3 "is_letter" ["kind", "word", "text"] sp_is_letter := ⟨_, _, PySem.W.mg_of X G a15, Fn15.kp, bn15, fn_is_letter Fn15 T G_is_kind G_is_word G_is_text⟩
  have G_is_unrule : RFn l.prog w K mg base 3 "is_unrule" ["parts"] sp_is_unrule := ⟨_, _, PySem.W.mg_of X G a16, Fn16.kp, bn16, fn_is_unrule Fn16 T G_is_whole_within⟩
  have G_is_out : RFn l.prog w K mg base 4 "is_out" ["parts"] sp_is_out := ⟨_, _, PySem.W.mg_of X G a17, Fn17.kp, bn17, fn_is_out Fn17 T G_is_house G_is_door G_is_place G_is_letter⟩
  have G_is_come : RFn l.prog w K mg base 4 "is_come" ["parts"] sp_is_come := ⟨_, _, PySem.W.mg_of X G a18, Fn18.kp, bn18, fn_is_come Fn18 T G_is_door G_is_outer_place G_is_letter⟩
  have G_is_lost : RFn l.prog w K mg base 4 "is_lost" ["parts"] sp_is_lost := ⟨_, _, PySem.W.mg_of X G a19, Fn19.kp, bn19, fn_is_lost Fn19 T G_is_door G_is_outer_place G_is_kind⟩
  have G_is_wait : RFn l.prog w K mg base 4 "is_wait" ["parts"] sp_is_wait := ⟨_, _, PySem.W.mg_of X G a20, Fn20.kp, bn20, fn_is_wait Fn20 T G_is_ticks⟩
  have G_is_rule : RFn l.prog w K mg base 4 "is_rule" ["parts"] sp_is_rule := ⟨_, _, PySem.W.mg_of X G a21, Fn21.kp, bn21, fn_is_rule Fn21 T G_is_house G_is_door G_is_place G_is_kind⟩
  have G_is_deed : RFn l.prog w K mg base 5 "is_deed" ["thing"] sp_is_deed := ⟨_, _, PySem.W.mg_of X G a22, Fn22.kp, bn22, fn_is_deed Fn22 T G_is_out G_is_come G_is_lost G_is_wait G_is_rule G_is_unrule G_name_of⟩
  have G_show_part : RFn l.prog w K mg base 1 "show_part" ["part"] sp_show_part := ⟨_, _, PySem.W.mg_of X G a23, Fn23.kp, bn23, fn_show_part Fn23 T ⟩
  have G_is_number_word : RFn l.prog w K mg base 1 "is_number_word" ["word"] sp_is_number_word := ⟨_, _, PySem.W.mg_of X G a24, Fn24.kp, bn24, fn_is_number_word Fn24 T ⟩
  have G__law_is__0 : RFn l.prog w K mg base 0 "_law_is" ["found", "due"] spNever := ⟨_, _, PySem.W.mg_of X G a29, Fn29.kp, bn29, never_ok⟩
  have G__law_is__1 : RFn l.prog w K mg base 1 "_law_is" ["found", "due"] sp__law_is__1 := ⟨_, _, PySem.W.mg_of X G a29, Fn29.kp, bn29, fn__law_is__1 Fn29 T G__law_is__0⟩
  have G__law_shown : RFn l.prog w K mg base 1 "_law_shown" ["deed"] sp__law_shown := ⟨_, _, PySem.W.mg_of X G a25, Fn25.kp, bn25, fn__law_shown Fn25 T ⟩
  have G__law_answered__0 : RFn l.prog w K mg base 0 "_law_answered" ["answer"] spNever := ⟨_, _, PySem.W.mg_of X G a31, Fn31.kp, bn31, never_ok⟩
  have G__law_answered__1 : RFn l.prog w K mg base 1 "_law_answered" ["answer"] sp__law_answered__1 := ⟨_, _, PySem.W.mg_of X G a31, Fn31.kp, bn31, fn__law_answered__1 Fn31 T G__law_answered__0⟩
  have G_show_row : RFn l.prog w K mg base 2 "show_row" ["parts"] sp_show_row := ⟨_, _, PySem.W.mg_of X G a26, Fn26.kp, bn26, fn_show_row Fn26 T G_show_part⟩
  have G_show_answer__0 : RFn l.prog w K mg base 0 "show_answer" ["answer"] spNever := ⟨_, _, PySem.W.mg_of X G a33, Fn33.kp, bn33, never_ok⟩
  have G_show_answer__1 : RFn l.prog w K mg base 2 "show_answer" ["answer"] sp_show_answer__1 := ⟨_, _, PySem.W.mg_of X G a33, Fn33.kp, bn33, fn_show_answer__1 Fn33 T G_is_whole G_show_answer__0⟩
  have G_read_word : RFn l.prog w K mg base 2 "read_word" ["word"] sp_read_word := ⟨_, _, PySem.W.mg_of X G a27, Fn27.kp, bn27, fn_read_word Fn27 T G_is_number_word⟩
  have G__law_said : RFn l.prog w K mg base 2 "_law_said" ["bag"] sp__law_said := ⟨_, _, PySem.W.mg_of X G a28, Fn28.kp, bn28, fn__law_said Fn28 T G__law_take⟩
  have G__law_is : RFn l.prog w K mg base 2 "_law_is" ["found", "due"] sp__law_is := ⟨_, _, PySem.W.mg_of X G a29, Fn29.kp, bn29, fn__law_is Fn29 T G__law_is__1⟩
  have G__law_number_for : RFn l.prog w K mg base 2 "_law_number_for" ["bag", "low", "high"] sp__law_number_for := ⟨_, _, PySem.W.mg_of X G a30, Fn30.kp, bn30, fn__law_number_for Fn30 T G__law_take⟩
  have G__law_answered : RFn l.prog w K mg base 2 "_law_answered" ["answer"] sp__law_answered := ⟨_, _, PySem.W.mg_of X G a31, Fn31.kp, bn31, fn__law_answered Fn31 T G__law_answered__1⟩
  have G_show_deed : RFn l.prog w K mg base 3 "show_deed" ["deed"] sp_show_deed := ⟨_, _, PySem.W.mg_of X G a32, Fn32.kp, bn32, fn_show_deed Fn32 T G_show_row⟩
  have G_show_answer : RFn l.prog w K mg base 3 "show_answer" ["answer"] sp_show_answer := ⟨_, _, PySem.W.mg_of X G a33, Fn33.kp, bn33, fn_show_answer Fn33 T G_is_whole G_show_answer__1⟩
  have G_read_words : RFn l.prog w K mg base 3 "read_words" ["text"] sp_read_words := ⟨_, _, PySem.W.mg_of X G a34, Fn34.kp, bn34, fn_read_words Fn34 T G_read_word⟩
  have G__law_a_text : RFn l.prog w K mg base 3 "_law_a_text" ["bag"] sp__law_a_text := ⟨_, _, PySem.W.mg_of X G a35, Fn35.kp, bn35, fn__law_a_text Fn35 T G__law_take G__law_said⟩
  have G__law_an_answer : RFn l.prog w K mg base 3 "_law_an_answer" ["bag"] sp__law_an_answer := ⟨_, _, PySem.W.mg_of X G a36, Fn36.kp, bn36, fn__law_an_answer Fn36 T G__law_take G__law_number_for⟩
  have G_read_parts : RFn l.prog w K mg base 4 "read_parts" ["text"] sp_read_parts := ⟨_, _, PySem.W.mg_of X G a37, Fn37.kp, bn37, fn_read_parts Fn37 T G_read_words⟩
  have G__law_a_deed : RFn l.prog w K mg base 4 "_law_a_deed" ["bag"] sp__law_a_deed := ⟨_, _, PySem.W.mg_of X G a38, Fn38.kp, bn38, fn__law_a_deed Fn38 T G__law_take G__law_a_text G__law_number_for⟩
  have G_read_deed : RFn l.prog w K mg base 6 "read_deed" ["text"] sp_read_deed := ⟨_, _, PySem.W.mg_of X G a39, Fn39.kp, bn39, fn_read_deed Fn39 T G_is_deed G_read_parts⟩
  exact fn_law Fn40 T G_show_deed G_show_answer G_read_deed G__law_cell G__law_well G__law_is G__law_a_deed G__law_shown G__law_an_answer G__law_answered
theorem walk {l : PySem.W.OpenLaw} {q : Program} {loose : List Str} {XP : (Str → Option Value) → Heap → Prop} {YP : World → Heap → Prop} {d : DefRec} {K : Params → PySem.W.Frag} (hn : l.most = some 63) (hdf : d.params.defaults = [])
    (hY : ∀ (w : World) (h : Heap), YP w h → (K w.params).In h)
    (F : ∀ (w : World) (mg : Str → Option Value) (fa : Addr) (h : Heap), (K w.params).In h → h.Ns mainGlobals mg → mg d.name = some (.ref fa) →
      ∃ fd : FuncData, (∀ (s : Shared) (u : Value), BindsTo s fd ⟨[u], []⟩ [("script", u)]) ∧ ∀ base : Heap, (K w.params).In base → base.Ns mainGlobals mg → FnOk l.prog w (K w.params) mg base CX0 7 fa fd ["script"] (upSp (K w.params) sp_law)) :
    PySem.W.WalkO q loose XP YP l.row.toRowW d [] (fun f vs => PySem.call f vs) :=
  L2.walk_of (n := 63) (k := 7) (x := "script") (CX := fun _ => CX0) (sp := fun w => upSp (K w.params) sp_law) hn (by decide) hdf ⟨rfl, by decide, by decide⟩ hY F (fun _ _ a ns hl hO hS => law_in hO hS (law_start ns hl)) fun _ _ _ _ _ z => z
end K25
section
namespace HD
open PySem PySem.W PyProof.Rows

def topOf (p : Program) (i : Nat) : Stmt := p.main.body.getD i (.Pass ⟨0, 0, 0, 0⟩)
def sub (s : Stmt) (i : Nat) : Stmt := match s with
  | .ClassDef (body := b) .. => b.getD i (.Pass ⟨0, 0, 0, 0⟩)
  | s => s
def defA (s : Stmt) : Arguments := match s with
  | .FunctionDef (args := a) .. => a
  | _ => default
def defB (s : Stmt) : List Stmt := match s with
  | .FunctionDef (body := b) .. => b
  | _ => []
def defS (s : Stmt) : Scope := match s with
  | .FunctionDef (scope := c) .. => c
  | _ => default
abbrev e1 (P : Params) (x : String) (t : Tok) (v : Value) : DictEntry := ⟨PyData.keyHash P x, .str x t, v⟩
abbrev nsO (es : List DictEntry) (n : Nat) : Obj := ⟨.type "dict", none, .dict es.toArray n, #[]⟩
abbrev tbO (vs : List Value) : Obj := ⟨.none, none, .fields vs.toArray, #[]⟩
abbrev coO (vs : List Value) : Obj := ⟨.type "code", none, .fields vs.toArray, #[]⟩
abbrev tup (xs : List Value) : Obj := ⟨.type "tuple", none, .seq xs.toArray 0, #[]⟩
abbrev fnO (n q : String) (s : Stmt) (pm cd : Value) : Obj := ⟨.type "function", none, .func { name := n, qualname := q, params := defA s, body := .stmts (defB s), scope := defS s, globals := 3, closure := [], defaults := .none, kwdefaults := .none, doc := .none, pyModule := pm, annotations := none, code := cd, closureTuple := .none, builtins := 0 }, #[]⟩
abbrev tfO (n q : String) (s : Stmt) : Obj := ⟨.none, none, .func { name := n, qualname := q, params := defA s, body := .stmts (defB s), scope := defS s, globals := 0, closure := [], defaults := .none, kwdefaults := .none, doc := .none, pyModule := .none, annotations := none, code := .none, closureTuple := .none, builtins := 0 }, #[]⟩
def treeOf (l : List Obj) : BT := (l.foldl (fun (x : BT × Nat) o => (x.1.ins x.2 o, x.2+1)) (.nil, 0)).1

end HD
end
namespace H25
open PySem PySem.W PyProof.Rows HD
abbrev p := PySem.Challenge.pw_lentgate_k25_deeds_written_and_read
abbrev body := behindTheImports p
abbrev top (i : Nat) : Stmt := topOf p i
def env : Env := { scope := p.main.scope, locals := mainNs, globals := mainNs, cells := [], code := .ref 13, frame := some 14 }
def cd : Code := .body body env
def ann : Option Value := some (.ref 6)
def q0 : Pos := ⟨0, 0, 0, 0⟩
def B : List Frame := [topFrame q0]
abbrev wf (w : World) (b : Bool) : World := w.withFollow "special-get-raises" b
noncomputable section
def ns (P : Params) : List DictEntry := [e1 P "__name__" 165 (.str "law_lentgate_k25_deeds_written_and_read" 509), e1 P "__doc__" 166 (.none), e1 P "__package__" 167 (.none), e1 P "__loader__" 168 (.builtin "__main__.__loader__#opaque"), e1 P "__spec__" 169 (.none), e1 P "__annotations__" 170 (.ref 6), e1 P "__builtins__" 171 (.ref 4), e1 P "__file__" 173 (.str "/claim/cut.py" 172), e1 P "__cached__" 174 (.none), e1 P "GREATEST_HOUSE" 190 (.int 99 189), e1 P "GREATEST_DOOR" 192 (.int 9999 191), e1 P "GREATEST_PLACE" 194 (.int 1000000 193), e1 P "GREATEST_TICKS" 196 (.int 1000000 195), e1 P "GREATEST_RULE" 198 (.int 1000000 197), e1 P "MOST_SIGNS" 200 (.int 40 199), e1 P "FIRST_SIGN" 202 (.int 32 201), e1 P "LAST_SIGN" 204 (.int 126 203), e1 P "PERCENT_SIGN" 206 (.int 37 205), e1 P "KINDS" 209 (.ref 15), e1 P "NOTE_WORDS" 211 (.ref 16), e1 P "LINE_WORDS" 216 (.ref 17), e1 P "is_whole" 223 (.ref 24), e1 P "is_whole_within" 232 (.ref 31), e1 P "is_house" 239 (.ref 38), e1 P "is_door" 246 (.ref 45), e1 P "is_place" 253 (.ref 52), e1 P "is_outer_place" 260 (.ref 59), e1 P "is_ticks" 267 (.ref 66), e1 P "is_kind" 274 (.ref 73), e1 P "is_word" 282 (.ref 80), e1 P "is_sign" 290 (.ref 87), e1 P "is_text" 296 (.ref 92), e1 P "is_letter" 305 (.ref 99), e1 P "is_out" 319 (.ref 106), e1 P "is_come" 332 (.ref 113), e1 P "is_lost" 344 (.ref 120), e1 P "is_wait" 351 (.ref 127), e1 P "is_rule" 363 (.ref 134), e1 P "is_unrule" 370 (.ref 141), e1 P "DEEDS" 383 (.ref 142), e1 P "name_of" 390 (.ref 149), e1 P "is_deed" 399 (.ref 156), e1 P "GateError" 419 (.ref 166), e1 P "NoRow" 435 (.ref 179), e1 P "WITH_TEXT" 440 (.ref 182), e1 P "FIGURES" 442 (.str "0123456789" 441), e1 P "MOST_FIGURES" 444 (.int 7 443), e1 P "show_part" 451 (.ref 189), e1 P "show_row" 457 (.ref 194), e1 P "show_deed" 464 (.ref 201), e1 P "show_answer" 470 (.ref 206), e1 P "is_number_word" 476 (.ref 211), e1 P "read_word" 483 (.ref 218), e1 P "read_words" 489 (.ref 223), e1 P "read_parts" 500 (.ref 230), e1 P "read_deed" 508 (.ref 237), e1 P "_law_cell" 518 (.ref 244), e1 P "_law_well" 526 (.ref 251), e1 P "_law_take" 537 (.ref 258), e1 P "_law_said" 543 (.ref 263), e1 P "_law_is" 549 (.ref 268), e1 P "_law_a_text" 557 (.ref 275), e1 P "_law_number_for" 566 (.ref 282), e1 P "_law_a_deed" 580 (.ref 289), e1 P "_law_shown" 589 (.ref 296), e1 P "_law_an_answer" 600 (.ref 303), e1 P "_law_answered" 606 (.ref 308), e1 P "law" 620 (.ref 315)]
def tb : List Value := [.int 14 0, .int 0 0, .ref 23, .int 16 0, .int 0 0, .ref 30, .int 18 0, .int 0 0, .ref 37, .int 20 0, .int 0 0, .ref 44, .int 22 0, .int 0 0, .ref 51, .int 24 0, .int 0 0, .ref 58, .int 26 0, .int 0 0, .ref 65, .int 28 0, .int 0 0, .ref 72, .int 30 0, .int 0 0, .ref 79, .int 34 0, .int 0 0, .ref 86, .int 37 0, .int 0 0, .ref 91, .int 41 0, .int 0 0, .ref 98, .int 43 0, .int 0 0, .ref 105, .int 48 0, .int 0 0, .ref 112, .int 53 0, .int 0 0, .ref 119, .int 58 0, .int 0 0, .ref 126, .int 60 0, .int 0 0, .ref 133, .int 67 0, .int 0 0, .ref 140, .int 70 0, .int 0 0, .ref 148, .int 74 0, .int 0 0, .ref 155, .int 81 0, .int 0 0, .ref 162, .int 83 0, .int 0 0, .ref 175, .int 89 0, .int 0 0, .ref 188, .int 91 0, .int 0 0, .ref 193, .int 93 0, .int 0 0, .ref 200, .int 97 0, .int 0 0, .ref 205, .int 103 0, .int 0 0, .ref 210, .int 109 0, .int 0 0, .ref 217, .int 113 0, .int 0 0, .ref 222, .int 115 0, .int 0 0, .ref 229, .int 121 0, .int 0 0, .ref 236, .int 127 0, .int 0 0, .ref 243, .int 131 0, .int 0 0, .ref 250, .int 135 0, .int 0 0, .ref 257, .int 145 0, .int 0 0, .ref 262, .int 151 0, .int 0 0, .ref 267, .int 157 0, .int 0 0, .ref 274, .int 160 0, .int 0 0, .ref 281, .int 162 0, .int 0 0, .ref 288, .int 176 0, .int 0 0, .ref 295, .int 183 0, .int 0 0, .ref 302, .int 189 0, .int 0 0, .ref 307, .int 197 0, .int 0 0, .ref 314]
def v11 (P : Params) : Obj := tup []
def v13 (P : Params) : Obj := coO [.str "<module>" 182, .str "<module>" 183, .str "/claim/cut.py" 184, .int 1 0, .int 0 0, .int 0 0, .int 0 0, .int 0 0, .ref 11, .bool false, .int 181 0, .ref 12, .none, .none, .none, .none, .int 185 0, .int 1 0, .str "/claim/cut.py" 186]
def v14 (P : Params) : Obj := ⟨.type "frame", none, .plain, #[some (.ref 13), some (.ref 3), some (.ref 3), none, some (.str "__main__" 164), none, some (.ref 0)]⟩
def v26 (P : Params) : Obj := tup [.str "note" 207, .str "line" 208]
def v28 (P : Params) : Obj := tup [.str "say" 210]
def v30 (P : Params) : Obj := tup [.str "open" 212, .str "say" 213, .str "close" 214, .str "break" 215]
def v33 (P : Params) : Obj := tup []
def v34 (P : Params) : Obj := ⟨.none, none, .fields #[], #[]⟩
def v35 (P : Params) : Obj := tup [.str "thing" 220]
def v36 (P : Params) : Obj := tup []
def v37 (P : Params) : Obj := tfO "is_whole" "is_whole" (top 13)
def v38 (P : Params) : Obj := coO [.str "is_whole" 217, .str "is_whole" 218, .str "/claim/cut.py" 219, .int 14 0, .int 1 0, .int 0 0, .int 0 0, .int 3 0, .ref 18, .bool true, .int 181 0, .ref 19, .none, .ref 20, .ref 21, .ref 22, .int 221 0, .int 14 0, .str "/claim/cut.py" 222]
def v39 (P : Params) : Obj := fnO "is_whole" "is_whole" (top 13) (.str "lentgate.ends" 187) (.ref 23)
def v42 (P : Params) : Obj := tup []
def v43 (P : Params) : Obj := ⟨.none, none, .fields #[], #[]⟩
def v44 (P : Params) : Obj := tup [.str "thing" 227, .str "least" 228, .str "greatest" 229]
def v45 (P : Params) : Obj := tup []
def v46 (P : Params) : Obj := tfO "is_whole_within" "is_whole_within" (top 14)
def v47 (P : Params) : Obj := coO [.str "is_whole_within" 224, .str "is_whole_within" 225, .str "/claim/cut.py" 226, .int 16 0, .int 3 0, .int 0 0, .int 0 0, .int 3 0, .ref 25, .bool true, .int 181 0, .ref 26, .none, .ref 27, .ref 28, .ref 29, .int 230 0, .int 16 0, .str "/claim/cut.py" 231]
def v48 (P : Params) : Obj := fnO "is_whole_within" "is_whole_within" (top 14) (.str "lentgate.ends" 187) (.ref 30)
def v51 (P : Params) : Obj := tup []
def v52 (P : Params) : Obj := ⟨.none, none, .fields #[], #[]⟩
def v53 (P : Params) : Obj := tup [.str "thing" 236]
def v54 (P : Params) : Obj := tup []
def v55 (P : Params) : Obj := tfO "is_house" "is_house" (top 15)
def v56 (P : Params) : Obj := coO [.str "is_house" 233, .str "is_house" 234, .str "/claim/cut.py" 235, .int 18 0, .int 1 0, .int 0 0, .int 0 0, .int 3 0, .ref 32, .bool true, .int 181 0, .ref 33, .none, .ref 34, .ref 35, .ref 36, .int 237 0, .int 18 0, .str "/claim/cut.py" 238]
def v57 (P : Params) : Obj := fnO "is_house" "is_house" (top 15) (.str "lentgate.ends" 187) (.ref 37)
def v60 (P : Params) : Obj := tup []
def v61 (P : Params) : Obj := ⟨.none, none, .fields #[], #[]⟩
def v62 (P : Params) : Obj := tup [.str "thing" 243]
def v63 (P : Params) : Obj := tup []
def v64 (P : Params) : Obj := tfO "is_door" "is_door" (top 16)
def v65 (P : Params) : Obj := coO [.str "is_door" 240, .str "is_door" 241, .str "/claim/cut.py" 242, .int 20 0, .int 1 0, .int 0 0, .int 0 0, .int 3 0, .ref 39, .bool true, .int 181 0, .ref 40, .none, .ref 41, .ref 42, .ref 43, .int 244 0, .int 20 0, .str "/claim/cut.py" 245]
def v66 (P : Params) : Obj := fnO "is_door" "is_door" (top 16) (.str "lentgate.ends" 187) (.ref 44)
def v69 (P : Params) : Obj := tup []
def v70 (P : Params) : Obj := ⟨.none, none, .fields #[], #[]⟩
def v71 (P : Params) : Obj := tup [.str "thing" 250]
def v72 (P : Params) : Obj := tup []
def v73 (P : Params) : Obj := tfO "is_place" "is_place" (top 17)
def v74 (P : Params) : Obj := coO [.str "is_place" 247, .str "is_place" 248, .str "/claim/cut.py" 249, .int 22 0, .int 1 0, .int 0 0, .int 0 0, .int 3 0, .ref 46, .bool true, .int 181 0, .ref 47, .none, .ref 48, .ref 49, .ref 50, .int 251 0, .int 22 0, .str "/claim/cut.py" 252]
def v75 (P : Params) : Obj := fnO "is_place" "is_place" (top 17) (.str "lentgate.ends" 187) (.ref 51)
def v78 (P : Params) : Obj := tup []
def v79 (P : Params) : Obj := ⟨.none, none, .fields #[], #[]⟩
def v80 (P : Params) : Obj := tup [.str "thing" 257]
def v81 (P : Params) : Obj := tup []
def v82 (P : Params) : Obj := tfO "is_outer_place" "is_outer_place" (top 18)
def v83 (P : Params) : Obj := coO [.str "is_outer_place" 254, .str "is_outer_place" 255, .str "/claim/cut.py" 256, .int 24 0, .int 1 0, .int 0 0, .int 0 0, .int 3 0, .ref 53, .bool true, .int 181 0, .ref 54, .none, .ref 55, .ref 56, .ref 57, .int 258 0, .int 24 0, .str "/claim/cut.py" 259]
def v84 (P : Params) : Obj := fnO "is_outer_place" "is_outer_place" (top 18) (.str "lentgate.ends" 187) (.ref 58)
def v87 (P : Params) : Obj := tup []
def v88 (P : Params) : Obj := ⟨.none, none, .fields #[], #[]⟩
def v89 (P : Params) : Obj := tup [.str "thing" 264]
def v90 (P : Params) : Obj := tup []
def v91 (P : Params) : Obj := tfO "is_ticks" "is_ticks" (top 19)
def v92 (P : Params) : Obj := coO [.str "is_ticks" 261, .str "is_ticks" 262, .str "/claim/cut.py" 263, .int 26 0, .int 1 0, .int 0 0, .int 0 0, .int 3 0, .ref 60, .bool true, .int 181 0, .ref 61, .none, .ref 62, .ref 63, .ref 64, .int 265 0, .int 26 0, .str "/claim/cut.py" 266]
def v93 (P : Params) : Obj := fnO "is_ticks" "is_ticks" (top 19) (.str "lentgate.ends" 187) (.ref 65)
def v96 (P : Params) : Obj := tup []
def v97 (P : Params) : Obj := ⟨.none, none, .fields #[], #[]⟩
def v98 (P : Params) : Obj := tup [.str "thing" 271]
def v99 (P : Params) : Obj := tup []
def v100 (P : Params) : Obj := tfO "is_kind" "is_kind" (top 20)
def v101 (P : Params) : Obj := coO [.str "is_kind" 268, .str "is_kind" 269, .str "/claim/cut.py" 270, .int 28 0, .int 1 0, .int 0 0, .int 0 0, .int 3 0, .ref 67, .bool true, .int 181 0, .ref 68, .none, .ref 69, .ref 70, .ref 71, .int 272 0, .int 28 0, .str "/claim/cut.py" 273]
def v102 (P : Params) : Obj := fnO "is_kind" "is_kind" (top 20) (.str "lentgate.ends" 187) (.ref 72)
def v105 (P : Params) : Obj := tup []
def v106 (P : Params) : Obj := ⟨.none, none, .fields #[], #[]⟩
def v107 (P : Params) : Obj := tup [.str "kind" 278, .str "thing" 279]
def v108 (P : Params) : Obj := tup []
def v109 (P : Params) : Obj := tfO "is_word" "is_word" (top 21)
def v110 (P : Params) : Obj := coO [.str "is_word" 275, .str "is_word" 276, .str "/claim/cut.py" 277, .int 30 0, .int 2 0, .int 0 0, .int 0 0, .int 3 0, .ref 74, .bool true, .int 181 0, .ref 75, .none, .ref 76, .ref 77, .ref 78, .int 280 0, .int 30 0, .str "/claim/cut.py" 281]
def v111 (P : Params) : Obj := fnO "is_word" "is_word" (top 21) (.str "lentgate.ends" 187) (.ref 79)
def v114 (P : Params) : Obj := tup []
def v115 (P : Params) : Obj := ⟨.none, none, .fields #[], #[]⟩
def v116 (P : Params) : Obj := tup [.str "sign" 286, .str "at" 287]
def v117 (P : Params) : Obj := tup []
def v118 (P : Params) : Obj := tfO "is_sign" "is_sign" (top 22)
def v119 (P : Params) : Obj := coO [.str "is_sign" 283, .str "is_sign" 284, .str "/claim/cut.py" 285, .int 34 0, .int 1 0, .int 0 0, .int 0 0, .int 3 0, .ref 81, .bool true, .int 181 0, .ref 82, .none, .ref 83, .ref 84, .ref 85, .int 288 0, .int 34 0, .str "/claim/cut.py" 289]
def v120 (P : Params) : Obj := fnO "is_sign" "is_sign" (top 22) (.str "lentgate.ends" 187) (.ref 86)
def v123 (P : Params) : Obj := tup []
def v124 (P : Params) : Obj := ⟨.none, none, .fields #[], #[]⟩
def v125 (P : Params) : Obj := tfO "is_text" "is_text" (top 23)
def v126 (P : Params) : Obj := coO [.str "is_text" 291, .str "is_text" 292, .str "/claim/cut.py" 293, .int 37 0, .int 1 0, .int 0 0, .int 0 0, .int 3 0, .ref 88, .bool true, .int 181 0, .ref 89, .none, .none, .none, .ref 90, .int 294 0, .int 37 0, .str "/claim/cut.py" 295]
def v127 (P : Params) : Obj := fnO "is_text" "is_text" (top 23) (.str "lentgate.ends" 187) (.ref 91)
def v130 (P : Params) : Obj := tup []
def v131 (P : Params) : Obj := ⟨.none, none, .fields #[], #[]⟩
def v132 (P : Params) : Obj := tup [.str "kind" 300, .str "word" 301, .str "text" 302]
def v133 (P : Params) : Obj := tup []
def v134 (P : Params) : Obj := tfO "is_letter" "is_letter" (top 24)
def v135 (P : Params) : Obj := coO [.str "is_letter" 297, .str "is_letter" 298, .str "/claim/cut.py" 299, .int 41 0, .int 3 0, .int 0 0, .int 0 0, .int 3 0, .ref 93, .bool true, .int 181 0, .ref 94, .none, .ref 95, .ref 96, .ref 97, .int 303 0, .int 41 0, .str "/claim/cut.py" 304]
def v136 (P : Params) : Obj := fnO "is_letter" "is_letter" (top 24) (.str "lentgate.ends" 187) (.ref 98)
def v139 (P : Params) : Obj := tup []
def v140 (P : Params) : Obj := ⟨.none, none, .fields #[], #[]⟩
def v141 (P : Params) : Obj := tup [.str "parts" 309, .str "kind" 310, .str "house" 311, .str "door" 312, .str "place" 313, .str "far" 314, .str "word" 315, .str "text" 316]
def v142 (P : Params) : Obj := tup []
def v143 (P : Params) : Obj := tfO "is_out" "is_out" (top 25)
def v144 (P : Params) : Obj := coO [.str "is_out" 306, .str "is_out" 307, .str "/claim/cut.py" 308, .int 43 0, .int 1 0, .int 0 0, .int 0 0, .int 3 0, .ref 100, .bool true, .int 181 0, .ref 101, .none, .ref 102, .ref 103, .ref 104, .int 317 0, .int 43 0, .str "/claim/cut.py" 318]
def v145 (P : Params) : Obj := fnO "is_out" "is_out" (top 25) (.str "lentgate.ends" 187) (.ref 105)
def v148 (P : Params) : Obj := tup []
def v149 (P : Params) : Obj := ⟨.none, none, .fields #[], #[]⟩
def v150 (P : Params) : Obj := tup [.str "parts" 323, .str "kind" 324, .str "place" 325, .str "far" 326, .str "number" 327, .str "word" 328, .str "text" 329]
def v151 (P : Params) : Obj := tup []
def v152 (P : Params) : Obj := tfO "is_come" "is_come" (top 26)
def v153 (P : Params) : Obj := coO [.str "is_come" 320, .str "is_come" 321, .str "/claim/cut.py" 322, .int 48 0, .int 1 0, .int 0 0, .int 0 0, .int 3 0, .ref 107, .bool true, .int 181 0, .ref 108, .none, .ref 109, .ref 110, .ref 111, .int 330 0, .int 48 0, .str "/claim/cut.py" 331]
def v154 (P : Params) : Obj := fnO "is_come" "is_come" (top 26) (.str "lentgate.ends" 187) (.ref 112)
def v157 (P : Params) : Obj := tup []
def v158 (P : Params) : Obj := ⟨.none, none, .fields #[], #[]⟩
def v159 (P : Params) : Obj := tup [.str "parts" 336, .str "teller" 337, .str "kind" 338, .str "number" 339, .str "place" 340, .str "far" 341]
def v160 (P : Params) : Obj := tup []
def v161 (P : Params) : Obj := tfO "is_lost" "is_lost" (top 27)
def v162 (P : Params) : Obj := coO [.str "is_lost" 333, .str "is_lost" 334, .str "/claim/cut.py" 335, .int 53 0, .int 1 0, .int 0 0, .int 0 0, .int 3 0, .ref 114, .bool true, .int 181 0, .ref 115, .none, .ref 116, .ref 117, .ref 118, .int 342 0, .int 53 0, .str "/claim/cut.py" 343]
def v163 (P : Params) : Obj := fnO "is_lost" "is_lost" (top 27) (.str "lentgate.ends" 187) (.ref 119)
def v166 (P : Params) : Obj := tup []
def v167 (P : Params) : Obj := ⟨.none, none, .fields #[], #[]⟩
def v168 (P : Params) : Obj := tup [.str "parts" 348]
def v169 (P : Params) : Obj := tup []
def v170 (P : Params) : Obj := tfO "is_wait" "is_wait" (top 28)
def v171 (P : Params) : Obj := coO [.str "is_wait" 345, .str "is_wait" 346, .str "/claim/cut.py" 347, .int 58 0, .int 1 0, .int 0 0, .int 0 0, .int 3 0, .ref 121, .bool true, .int 181 0, .ref 122, .none, .ref 123, .ref 124, .ref 125, .int 349 0, .int 58 0, .str "/claim/cut.py" 350]
def v172 (P : Params) : Obj := fnO "is_wait" "is_wait" (top 28) (.str "lentgate.ends" 187) (.ref 126)
def v175 (P : Params) : Obj := tup []
def v176 (P : Params) : Obj := ⟨.none, none, .fields #[], #[]⟩
def v177 (P : Params) : Obj := tup [.str "parts" 355, .str "kind" 356, .str "number" 357, .str "place" 358, .str "house" 359, .str "door" 360]
def v178 (P : Params) : Obj := tup []
def v179 (P : Params) : Obj := tfO "is_rule" "is_rule" (top 29)
def v180 (P : Params) : Obj := coO [.str "is_rule" 352, .str "is_rule" 353, .str "/claim/cut.py" 354, .int 60 0, .int 1 0, .int 0 0, .int 0 0, .int 3 0, .ref 128, .bool true, .int 181 0, .ref 129, .none, .ref 130, .ref 131, .ref 132, .int 361 0, .int 60 0, .str "/claim/cut.py" 362]
def v181 (P : Params) : Obj := fnO "is_rule" "is_rule" (top 29) (.str "lentgate.ends" 187) (.ref 133)
def v184 (P : Params) : Obj := tup []
def v185 (P : Params) : Obj := ⟨.none, none, .fields #[], #[]⟩
def v186 (P : Params) : Obj := tup [.str "parts" 367]
def v187 (P : Params) : Obj := tup []
def v188 (P : Params) : Obj := tfO "is_unrule" "is_unrule" (top 30)
def v189 (P : Params) : Obj := coO [.str "is_unrule" 364, .str "is_unrule" 365, .str "/claim/cut.py" 366, .int 67 0, .int 1 0, .int 0 0, .int 0 0, .int 3 0, .ref 135, .bool true, .int 181 0, .ref 136, .none, .ref 137, .ref 138, .ref 139, .int 368 0, .int 67 0, .str "/claim/cut.py" 369]
def v190 (P : Params) : Obj := fnO "is_unrule" "is_unrule" (top 30) (.str "lentgate.ends" 187) (.ref 140)
def v192 (P : Params) : Obj := ⟨.type "dict", none, .dict #[⟨PyData.keyHash P "out", .str "out" 371, .ref 106⟩, ⟨PyData.keyHash P "come", .str "come" 372, .ref 113⟩, ⟨PyData.keyHash P "lost", .str "lost" 373, .ref 120⟩, ⟨PyData.keyHash P "wait", .str "wait" 374, .ref 127⟩, ⟨PyData.keyHash P "rule", .str "rule" 375, .ref 134⟩, ⟨PyData.keyHash P "unrule", .str "unrule" 376, .ref 141⟩] 6, #[]⟩
def v195 (P : Params) : Obj := tup []
def v196 (P : Params) : Obj := ⟨.none, none, .fields #[], #[]⟩
def v197 (P : Params) : Obj := tup [.str "thing" 387]
def v198 (P : Params) : Obj := tup []
def v199 (P : Params) : Obj := tfO "name_of" "name_of" (top 32)
def v200 (P : Params) : Obj := coO [.str "name_of" 384, .str "name_of" 385, .str "/claim/cut.py" 386, .int 70 0, .int 1 0, .int 0 0, .int 0 0, .int 3 0, .ref 143, .bool true, .int 181 0, .ref 144, .none, .ref 145, .ref 146, .ref 147, .int 388 0, .int 70 0, .str "/claim/cut.py" 389]
def v201 (P : Params) : Obj := fnO "name_of" "name_of" (top 32) (.str "lentgate.ends" 187) (.ref 148)
def v204 (P : Params) : Obj := tup []
def v205 (P : Params) : Obj := ⟨.none, none, .fields #[], #[]⟩
def v206 (P : Params) : Obj := tup [.str "thing" 394, .str "name" 395, .str "has_parts" 396]
def v207 (P : Params) : Obj := tup []
def v208 (P : Params) : Obj := tfO "is_deed" "is_deed" (top 33)
def v209 (P : Params) : Obj := coO [.str "is_deed" 391, .str "is_deed" 392, .str "/claim/cut.py" 393, .int 74 0, .int 1 0, .int 0 0, .int 0 0, .int 3 0, .ref 150, .bool true, .int 181 0, .ref 151, .none, .ref 152, .ref 153, .ref 154, .int 397 0, .int 74 0, .str "/claim/cut.py" 398]
def v210 (P : Params) : Obj := fnO "is_deed" "is_deed" (top 33) (.str "lentgate.ends" 187) (.ref 155)
def v214 (P : Params) : Obj := tup [.type "ValueError"]
def v215 (P : Params) : Obj := ⟨.type "builtin_function_or_method", none, .fields #[.builtin "type.__prepare__", .type "type"], #[]⟩
def v216 (P : Params) : Obj := ⟨.type "dict", none, .dict #[⟨PyData.keyHash P "__module__", .str "__module__" 409, .str "lentgate.errors" 400⟩, ⟨PyData.keyHash P "__qualname__", .str "__qualname__" 411, .str "GateError" 410⟩, ⟨PyData.keyHash P "__firstlineno__", .str "__firstlineno__" 413, .int 81 412⟩, ⟨PyData.keyHash P "__static_attributes__", .str "__static_attributes__" 414, .ref 164⟩] 4, #[]⟩
def v217 (P : Params) : Obj := tup []
def v218 (P : Params) : Obj := ⟨.none, none, .fields #[], #[]⟩
def v219 (P : Params) : Obj := coO [.str "GateError" 404, .str "GateError" 405, .str "/claim/cut.py" 406, .int 81 0, .int 0 0, .int 0 0, .int 0 0, .int 0 0, .ref 160, .bool false, .int 181 0, .ref 161, .none, .none, .none, .none, .int 407 0, .int 81 0, .str "/claim/cut.py" 408]
def v220 (P : Params) : Obj := ⟨.type "frame", none, .plain, #[some (.ref 162), some (.ref 3), some (.ref 159), none, some (.str "lentgate.errors" 400), none, some (.ref 0)]⟩
def v221 (P : Params) : Obj := tup []
def v222 (P : Params) : Obj := ⟨.type "dict", none, .dict #[⟨PyData.keyHash P "__module__", .str "__module__" 409, .str "lentgate.errors" 400⟩, ⟨PyData.keyHash P "__firstlineno__", .str "__firstlineno__" 413, .int 81 412⟩, ⟨PyData.keyHash P "__static_attributes__", .str "__static_attributes__" 414, .ref 164⟩, ⟨PyData.keyHash P "__weakref__", .str "__weakref__" 416, .ref 167⟩, ⟨PyData.keyHash P "__doc__", .str "__doc__" 417, .none⟩] 3, #[]⟩
def v223 (P : Params) : Obj := ⟨.type "type", none, .cls { name := "GateError", bases := [.type "ValueError"], mro := [.ref 166, .type "ValueError", .type "Exception", .type "BaseException", .type "object"], ns := 165, qualname := "GateError", hasDict := true, slotNames := [], subclasses := [], abstract := false, collection := none, hasDel := false }, #[some (.ref 157), none, some (.str "GateError" 402), some (.str "GateError" 410), some (.builtin "ValueError.__new__"), some (.bool true)]⟩
def v224 (P : Params) : Obj := ⟨.type "getset_descriptor", none, .fields #[.str "__weakref__" 415, .ref 166, .builtin "ExceptionGroup.__weakref__", .none], #[]⟩
def v225 (P : Params) : Obj := ⟨.type "super", none, .fields #[.ref 166, .ref 166, .ref 166], #[]⟩
def v226 (P : Params) : Obj := ⟨.type "builtin_function_or_method", none, .fields #[.builtin "object.__init_subclass__", .ref 166], #[]⟩
def v229 (P : Params) : Obj := ⟨.type "type", none, .cls { name := "GateError", bases := [.type "ValueError"], mro := [.ref 166, .type "ValueError", .type "Exception", .type "BaseException", .type "object"], ns := 165, qualname := "GateError", hasDict := true, slotNames := [], subclasses := [.ref 179], abstract := false, collection := none, hasDel := false }, #[some (.ref 157), none, some (.str "GateError" 402), some (.str "GateError" 410), some (.builtin "ValueError.__new__"), some (.bool true)]⟩
def v230 (P : Params) : Obj := tup [.ref 166]
def v231 (P : Params) : Obj := ⟨.type "builtin_function_or_method", none, .fields #[.builtin "type.__prepare__", .type "type"], #[]⟩
def v232 (P : Params) : Obj := ⟨.type "dict", none, .dict #[⟨PyData.keyHash P "__module__", .str "__module__" 427, .str "lentgate.errors" 400⟩, ⟨PyData.keyHash P "__qualname__", .str "__qualname__" 429, .str "NoRow" 428⟩, ⟨PyData.keyHash P "__firstlineno__", .str "__firstlineno__" 431, .int 83 430⟩, ⟨PyData.keyHash P "__static_attributes__", .str "__static_attributes__" 432, .ref 177⟩] 4, #[]⟩
def v233 (P : Params) : Obj := tup []
def v234 (P : Params) : Obj := ⟨.none, none, .fields #[], #[]⟩
def v235 (P : Params) : Obj := coO [.str "NoRow" 422, .str "NoRow" 423, .str "/claim/cut.py" 424, .int 83 0, .int 0 0, .int 0 0, .int 0 0, .int 0 0, .ref 173, .bool false, .int 181 0, .ref 174, .none, .none, .none, .none, .int 425 0, .int 83 0, .str "/claim/cut.py" 426]
def v236 (P : Params) : Obj := ⟨.type "frame", none, .plain, #[some (.ref 175), some (.ref 3), some (.ref 172), none, some (.str "lentgate.errors" 400), none, some (.ref 0)]⟩
def v237 (P : Params) : Obj := tup []
def v238 (P : Params) : Obj := ⟨.type "dict", none, .dict #[⟨PyData.keyHash P "__module__", .str "__module__" 427, .str "lentgate.errors" 400⟩, ⟨PyData.keyHash P "__firstlineno__", .str "__firstlineno__" 431, .int 83 430⟩, ⟨PyData.keyHash P "__static_attributes__", .str "__static_attributes__" 432, .ref 177⟩, ⟨PyData.keyHash P "__doc__", .str "__doc__" 433, .none⟩] 2, #[]⟩
def v239 (P : Params) : Obj := ⟨.type "type", none, .cls { name := "NoRow", bases := [.ref 166], mro := [.ref 179, .ref 166, .type "ValueError", .type "Exception", .type "BaseException", .type "object"], ns := 178, qualname := "NoRow", hasDict := true, slotNames := [], subclasses := [], abstract := false, collection := none, hasDel := false }, #[some (.ref 170), none, some (.str "NoRow" 420), some (.str "NoRow" 428), some (.builtin "ValueError.__new__"), some (.bool true)]⟩
def v240 (P : Params) : Obj := ⟨.type "super", none, .fields #[.ref 179, .ref 179, .ref 179], #[]⟩
def v241 (P : Params) : Obj := ⟨.type "builtin_function_or_method", none, .fields #[.builtin "object.__init_subclass__", .ref 179], #[]⟩
def v244 (P : Params) : Obj := tup [.str "out" 438, .str "come" 439]
def v249 (P : Params) : Obj := tup []
def v250 (P : Params) : Obj := ⟨.none, none, .fields #[], #[]⟩
def v251 (P : Params) : Obj := tup [.str "part" 448]
def v252 (P : Params) : Obj := tup []
def v253 (P : Params) : Obj := tfO "show_part" "show_part" (top 41)
def v254 (P : Params) : Obj := coO [.str "show_part" 445, .str "show_part" 446, .str "/claim/cut.py" 447, .int 89 0, .int 1 0, .int 0 0, .int 0 0, .int 3 0, .ref 183, .bool true, .int 181 0, .ref 184, .none, .ref 185, .ref 186, .ref 187, .int 449 0, .int 89 0, .str "/claim/cut.py" 450]
def v255 (P : Params) : Obj := fnO "show_part" "show_part" (top 41) (.str "lentgate.texts" 436) (.ref 188)
def v258 (P : Params) : Obj := tup []
def v259 (P : Params) : Obj := ⟨.none, none, .fields #[], #[]⟩
def v260 (P : Params) : Obj := tfO "show_row" "show_row" (top 42)
def v261 (P : Params) : Obj := coO [.str "show_row" 452, .str "show_row" 453, .str "/claim/cut.py" 454, .int 91 0, .int 1 0, .int 0 0, .int 0 0, .int 3 0, .ref 190, .bool true, .int 181 0, .ref 191, .none, .none, .none, .ref 192, .int 455 0, .int 91 0, .str "/claim/cut.py" 456]
def v262 (P : Params) : Obj := fnO "show_row" "show_row" (top 42) (.str "lentgate.texts" 436) (.ref 193)
def v265 (P : Params) : Obj := tup []
def v266 (P : Params) : Obj := ⟨.none, none, .fields #[], #[]⟩
def v267 (P : Params) : Obj := tup [.str "deed" 461]
def v268 (P : Params) : Obj := tup []
def v269 (P : Params) : Obj := tfO "show_deed" "show_deed" (top 43)
def v270 (P : Params) : Obj := coO [.str "show_deed" 458, .str "show_deed" 459, .str "/claim/cut.py" 460, .int 93 0, .int 1 0, .int 0 0, .int 0 0, .int 3 0, .ref 195, .bool true, .int 181 0, .ref 196, .none, .ref 197, .ref 198, .ref 199, .int 462 0, .int 93 0, .str "/claim/cut.py" 463]
def v271 (P : Params) : Obj := fnO "show_deed" "show_deed" (top 43) (.str "lentgate.texts" 436) (.ref 200)
def v274 (P : Params) : Obj := tup []
def v275 (P : Params) : Obj := ⟨.none, none, .fields #[], #[]⟩
def v276 (P : Params) : Obj := tfO "show_answer" "show_answer" (top 44)
def v277 (P : Params) : Obj := coO [.str "show_answer" 465, .str "show_answer" 466, .str "/claim/cut.py" 467, .int 97 0, .int 1 0, .int 0 0, .int 0 0, .int 3 0, .ref 202, .bool true, .int 181 0, .ref 203, .none, .none, .none, .ref 204, .int 468 0, .int 97 0, .str "/claim/cut.py" 469]
def v278 (P : Params) : Obj := fnO "show_answer" "show_answer" (top 44) (.str "lentgate.texts" 436) (.ref 205)
def v281 (P : Params) : Obj := tup []
def v282 (P : Params) : Obj := ⟨.none, none, .fields #[], #[]⟩
def v283 (P : Params) : Obj := tfO "is_number_word" "is_number_word" (top 45)
def v284 (P : Params) : Obj := coO [.str "is_number_word" 471, .str "is_number_word" 472, .str "/claim/cut.py" 473, .int 103 0, .int 1 0, .int 0 0, .int 0 0, .int 3 0, .ref 207, .bool true, .int 181 0, .ref 208, .none, .none, .none, .ref 209, .int 474 0, .int 103 0, .str "/claim/cut.py" 475]
def v285 (P : Params) : Obj := fnO "is_number_word" "is_number_word" (top 45) (.str "lentgate.texts" 436) (.ref 210)
def v288 (P : Params) : Obj := tup []
def v289 (P : Params) : Obj := ⟨.none, none, .fields #[], #[]⟩
def v290 (P : Params) : Obj := tup [.str "word" 480]
def v291 (P : Params) : Obj := tup []
def v292 (P : Params) : Obj := tfO "read_word" "read_word" (top 46)
def v293 (P : Params) : Obj := coO [.str "read_word" 477, .str "read_word" 478, .str "/claim/cut.py" 479, .int 109 0, .int 1 0, .int 0 0, .int 0 0, .int 3 0, .ref 212, .bool true, .int 181 0, .ref 213, .none, .ref 214, .ref 215, .ref 216, .int 481 0, .int 109 0, .str "/claim/cut.py" 482]
def v294 (P : Params) : Obj := fnO "read_word" "read_word" (top 46) (.str "lentgate.texts" 436) (.ref 217)
def v297 (P : Params) : Obj := tup []
def v298 (P : Params) : Obj := ⟨.none, none, .fields #[], #[]⟩
def v299 (P : Params) : Obj := tfO "read_words" "read_words" (top 47)
def v300 (P : Params) : Obj := coO [.str "read_words" 484, .str "read_words" 485, .str "/claim/cut.py" 486, .int 113 0, .int 1 0, .int 0 0, .int 0 0, .int 3 0, .ref 219, .bool true, .int 181 0, .ref 220, .none, .none, .none, .ref 221, .int 487 0, .int 113 0, .str "/claim/cut.py" 488]
def v301 (P : Params) : Obj := fnO "read_words" "read_words" (top 47) (.str "lentgate.texts" 436) (.ref 222)
def v304 (P : Params) : Obj := tup []
def v305 (P : Params) : Obj := ⟨.none, none, .fields #[], #[]⟩
def v306 (P : Params) : Obj := tup [.str "text" 493, .str "name" 494, .str "head" 495, .str "colon" 496, .str "letter" 497]
def v307 (P : Params) : Obj := tup []
def v308 (P : Params) : Obj := tfO "read_parts" "read_parts" (top 48)
def v309 (P : Params) : Obj := coO [.str "read_parts" 490, .str "read_parts" 491, .str "/claim/cut.py" 492, .int 115 0, .int 1 0, .int 0 0, .int 0 0, .int 3 0, .ref 224, .bool true, .int 181 0, .ref 225, .none, .ref 226, .ref 227, .ref 228, .int 498 0, .int 115 0, .str "/claim/cut.py" 499]
def v310 (P : Params) : Obj := fnO "read_parts" "read_parts" (top 48) (.str "lentgate.texts" 436) (.ref 229)
def v313 (P : Params) : Obj := tup []
def v314 (P : Params) : Obj := ⟨.none, none, .fields #[], #[]⟩
def v315 (P : Params) : Obj := tup [.str "text" 504, .str "deed" 505]
def v316 (P : Params) : Obj := tup []
def v317 (P : Params) : Obj := tfO "read_deed" "read_deed" (top 49)
def v318 (P : Params) : Obj := coO [.str "read_deed" 501, .str "read_deed" 502, .str "/claim/cut.py" 503, .int 121 0, .int 1 0, .int 0 0, .int 0 0, .int 3 0, .ref 231, .bool true, .int 181 0, .ref 232, .none, .ref 233, .ref 234, .ref 235, .int 506 0, .int 121 0, .str "/claim/cut.py" 507]
def v319 (P : Params) : Obj := fnO "read_deed" "read_deed" (top 49) (.str "lentgate.texts" 436) (.ref 236)
def v323 (P : Params) : Obj := tup []
def v324 (P : Params) : Obj := ⟨.none, none, .fields #[], #[]⟩
def v325 (P : Params) : Obj := tup [.str "script" 514, .str "k" 515]
def v326 (P : Params) : Obj := tup []
def v327 (P : Params) : Obj := tfO "_law_cell" "_law_cell" (top 51)
def v328 (P : Params) : Obj := coO [.str "_law_cell" 511, .str "_law_cell" 512, .str "/claim/cut.py" 513, .int 127 0, .int 2 0, .int 0 0, .int 0 0, .int 3 0, .ref 238, .bool true, .int 181 0, .ref 239, .none, .ref 240, .ref 241, .ref 242, .int 516 0, .int 127 0, .str "/claim/cut.py" 517]
def v329 (P : Params) : Obj := fnO "_law_cell" "_law_cell" (top 51) (.str "law_lentgate_k25_deeds_written_and_read" 509) (.ref 243)
def v332 (P : Params) : Obj := tup []
def v333 (P : Params) : Obj := ⟨.none, none, .fields #[], #[]⟩
def v334 (P : Params) : Obj := tup [.str "cell" 522, .str "turn" 523]
def v335 (P : Params) : Obj := tup []
def v336 (P : Params) : Obj := tfO "_law_well" "_law_well" (top 52)
def v337 (P : Params) : Obj := coO [.str "_law_well" 519, .str "_law_well" 520, .str "/claim/cut.py" 521, .int 131 0, .int 2 0, .int 0 0, .int 0 0, .int 3 0, .ref 245, .bool true, .int 181 0, .ref 246, .none, .ref 247, .ref 248, .ref 249, .int 524 0, .int 131 0, .str "/claim/cut.py" 525]
def v338 (P : Params) : Obj := fnO "_law_well" "_law_well" (top 52) (.str "law_lentgate_k25_deeds_written_and_read" 509) (.ref 250)
def v341 (P : Params) : Obj := tup []
def v342 (P : Params) : Obj := ⟨.none, none, .fields #[], #[]⟩
def v343 (P : Params) : Obj := tup [.str "bag" 530, .str "many" 531, .str "found" 532, .str "p" 533, .str "n" 534]
def v344 (P : Params) : Obj := tup []
def v345 (P : Params) : Obj := tfO "_law_take" "_law_take" (top 53)
def v346 (P : Params) : Obj := coO [.str "_law_take" 527, .str "_law_take" 528, .str "/claim/cut.py" 529, .int 135 0, .int 2 0, .int 0 0, .int 0 0, .int 3 0, .ref 252, .bool true, .int 181 0, .ref 253, .none, .ref 254, .ref 255, .ref 256, .int 535 0, .int 135 0, .str "/claim/cut.py" 536]
def v347 (P : Params) : Obj := fnO "_law_take" "_law_take" (top 53) (.str "law_lentgate_k25_deeds_written_and_read" 509) (.ref 257)
def v350 (P : Params) : Obj := tup []
def v351 (P : Params) : Obj := ⟨.none, none, .fields #[], #[]⟩
def v352 (P : Params) : Obj := tfO "_law_said" "_law_said" (top 54)
def v353 (P : Params) : Obj := coO [.str "_law_said" 538, .str "_law_said" 539, .str "/claim/cut.py" 540, .int 145 0, .int 1 0, .int 0 0, .int 0 0, .int 3 0, .ref 259, .bool true, .int 181 0, .ref 260, .none, .none, .none, .ref 261, .int 541 0, .int 145 0, .str "/claim/cut.py" 542]
def v354 (P : Params) : Obj := fnO "_law_said" "_law_said" (top 54) (.str "law_lentgate_k25_deeds_written_and_read" 509) (.ref 262)
def v357 (P : Params) : Obj := tup []
def v358 (P : Params) : Obj := ⟨.none, none, .fields #[], #[]⟩
def v359 (P : Params) : Obj := tfO "_law_is" "_law_is" (top 55)
def v360 (P : Params) : Obj := coO [.str "_law_is" 544, .str "_law_is" 545, .str "/claim/cut.py" 546, .int 151 0, .int 2 0, .int 0 0, .int 0 0, .int 3 0, .ref 264, .bool true, .int 181 0, .ref 265, .none, .none, .none, .ref 266, .int 547 0, .int 151 0, .str "/claim/cut.py" 548]
def v361 (P : Params) : Obj := fnO "_law_is" "_law_is" (top 55) (.str "law_lentgate_k25_deeds_written_and_read" 509) (.ref 267)
def v364 (P : Params) : Obj := tup []
def v365 (P : Params) : Obj := ⟨.none, none, .fields #[], #[]⟩
def v366 (P : Params) : Obj := tup [.str "bag" 553, .str "odd" 554]
def v367 (P : Params) : Obj := tup []
def v368 (P : Params) : Obj := tfO "_law_a_text" "_law_a_text" (top 56)
def v369 (P : Params) : Obj := coO [.str "_law_a_text" 550, .str "_law_a_text" 551, .str "/claim/cut.py" 552, .int 157 0, .int 1 0, .int 0 0, .int 0 0, .int 3 0, .ref 269, .bool true, .int 181 0, .ref 270, .none, .ref 271, .ref 272, .ref 273, .int 555 0, .int 157 0, .str "/claim/cut.py" 556]
def v370 (P : Params) : Obj := fnO "_law_a_text" "_law_a_text" (top 56) (.str "law_lentgate_k25_deeds_written_and_read" 509) (.ref 274)
def v373 (P : Params) : Obj := tup []
def v374 (P : Params) : Obj := ⟨.none, none, .fields #[], #[]⟩
def v375 (P : Params) : Obj := tup [.str "bag" 561, .str "low" 562, .str "high" 563]
def v376 (P : Params) : Obj := tup []
def v377 (P : Params) : Obj := tfO "_law_number_for" "_law_number_for" (top 57)
def v378 (P : Params) : Obj := coO [.str "_law_number_for" 558, .str "_law_number_for" 559, .str "/claim/cut.py" 560, .int 160 0, .int 3 0, .int 0 0, .int 0 0, .int 3 0, .ref 276, .bool true, .int 181 0, .ref 277, .none, .ref 278, .ref 279, .ref 280, .int 564 0, .int 160 0, .str "/claim/cut.py" 565]
def v379 (P : Params) : Obj := fnO "_law_number_for" "_law_number_for" (top 57) (.str "law_lentgate_k25_deeds_written_and_read" 509) (.ref 281)
def v382 (P : Params) : Obj := tup []
def v383 (P : Params) : Obj := ⟨.none, none, .fields #[], #[]⟩
def v384 (P : Params) : Obj := tup [.str "bag" 570, .str "kind" 571, .str "said" 572, .str "ends" 573, .str "number" 574, .str "place" 575, .str "far" 576, .str "some" 577]
def v385 (P : Params) : Obj := tup []
def v386 (P : Params) : Obj := tfO "_law_a_deed" "_law_a_deed" (top 58)
def v387 (P : Params) : Obj := coO [.str "_law_a_deed" 567, .str "_law_a_deed" 568, .str "/claim/cut.py" 569, .int 162 0, .int 1 0, .int 0 0, .int 0 0, .int 3 0, .ref 283, .bool true, .int 181 0, .ref 284, .none, .ref 285, .ref 286, .ref 287, .int 578 0, .int 162 0, .str "/claim/cut.py" 579]
def v388 (P : Params) : Obj := fnO "_law_a_deed" "_law_a_deed" (top 58) (.str "law_lentgate_k25_deeds_written_and_read" 509) (.ref 288)
def v391 (P : Params) : Obj := tup []
def v392 (P : Params) : Obj := ⟨.none, none, .fields #[], #[]⟩
def v393 (P : Params) : Obj := tup [.str "deed" 584, .str "words" 585, .str "part" 586]
def v394 (P : Params) : Obj := tup []
def v395 (P : Params) : Obj := tfO "_law_shown" "_law_shown" (top 59)
def v396 (P : Params) : Obj := coO [.str "_law_shown" 581, .str "_law_shown" 582, .str "/claim/cut.py" 583, .int 176 0, .int 1 0, .int 0 0, .int 0 0, .int 3 0, .ref 290, .bool true, .int 181 0, .ref 291, .none, .ref 292, .ref 293, .ref 294, .int 587 0, .int 176 0, .str "/claim/cut.py" 588]
def v397 (P : Params) : Obj := fnO "_law_shown" "_law_shown" (top 59) (.str "law_lentgate_k25_deeds_written_and_read" 509) (.ref 295)
def v400 (P : Params) : Obj := tup []
def v401 (P : Params) : Obj := ⟨.none, none, .fields #[], #[]⟩
def v402 (P : Params) : Obj := tup [.str "bag" 593, .str "number" 594, .str "inside" 595, .str "why" 596, .str "some" 597]
def v403 (P : Params) : Obj := tup []
def v404 (P : Params) : Obj := tfO "_law_an_answer" "_law_an_answer" (top 60)
def v405 (P : Params) : Obj := coO [.str "_law_an_answer" 590, .str "_law_an_answer" 591, .str "/claim/cut.py" 592, .int 183 0, .int 1 0, .int 0 0, .int 0 0, .int 3 0, .ref 297, .bool true, .int 181 0, .ref 298, .none, .ref 299, .ref 300, .ref 301, .int 598 0, .int 183 0, .str "/claim/cut.py" 599]
def v406 (P : Params) : Obj := fnO "_law_an_answer" "_law_an_answer" (top 60) (.str "law_lentgate_k25_deeds_written_and_read" 509) (.ref 302)
def v409 (P : Params) : Obj := tup []
def v410 (P : Params) : Obj := ⟨.none, none, .fields #[], #[]⟩
def v411 (P : Params) : Obj := tfO "_law_answered" "_law_answered" (top 61)
def v412 (P : Params) : Obj := coO [.str "_law_answered" 601, .str "_law_answered" 602, .str "/claim/cut.py" 603, .int 189 0, .int 1 0, .int 0 0, .int 0 0, .int 3 0, .ref 304, .bool true, .int 181 0, .ref 305, .none, .none, .none, .ref 306, .int 604 0, .int 189 0, .str "/claim/cut.py" 605]
def v413 (P : Params) : Obj := fnO "_law_answered" "_law_answered" (top 61) (.str "law_lentgate_k25_deeds_written_and_read" 509) (.ref 307)
def v416 (P : Params) : Obj := tup []
def v417 (P : Params) : Obj := ⟨.none, none, .fields #[], #[]⟩
def v418 (P : Params) : Obj := tup [.str "script" 610, .str "cell" 611, .str "bag" 612, .str "deed" 613, .str "text" 614, .str "turn" 615, .str "answer" 616, .str "found" 617]
def v419 (P : Params) : Obj := tup []
def v420 (P : Params) : Obj := tfO "law" "law" (top 62)
def v421 (P : Params) : Obj := coO [.str "law" 607, .str "law" 608, .str "/claim/cut.py" 609, .int 197 0, .int 1 0, .int 0 0, .int 0 0, .int 3 0, .ref 309, .bool true, .int 181 0, .ref 310, .none, .ref 311, .ref 312, .ref 313, .int 618 0, .int 197 0, .str "/claim/cut.py" 619]
def v422 (P : Params) : Obj := fnO "law" "law" (top 62) (.str "law_lentgate_k25_deeds_written_and_read" 509) (.ref 314)
def fin (P : Params) : List Obj := [boot_o_0 P, boot_o_1 P, boot_o_2 P, nsO ((ns P).take 68) 68, boot_o_4 P, boot_o_5 P, boot_o_6 P, boot_o_7 P, boot_o_8 P, boot_o_9 P, boot_o_10 P, v11 P, tbO (tb.take 129), v13 P, v14 P, v26 P, v28 P, v30 P, v33 P, v34 P, v35 P, v36 P, v37 P, v38 P, v39 P, v42 P, v43 P, v44 P, v45 P, v46 P, v47 P, v48 P, v51 P, v52 P, v53 P, v54 P, v55 P, v56 P, v57 P, v60 P, v61 P, v62 P, v63 P, v64 P, v65 P, v66 P, v69 P, v70 P, v71 P, v72 P, v73 P, v74 P, v75 P, v78 P, v79 P, v80 P, v81 P, v82 P, v83 P, v84 P, v87 P, v88 P, v89 P, v90 P, v91 P, v92 P, v93 P, v96 P, v97 P, v98 P, v99 P, v100 P, v101 P, v102 P, v105 P, v106 P, v107 P, v108 P, v109 P, v110 P, v111 P, v114 P, v115 P, v116 P, v117 P, v118 P, v119 P, v120 P, v123 P, v124 P, v125 P, v126 P, v127 P, v130 P, v131 P, v132 P, v133 P, v134 P, v135 P, v136 P, v139 P, v140 P, v141 P, v142 P, v143 P, v144 P, v145 P, v148 P, v149 P, v150 P, v151 P, v152 P, v153 P, v154 P, v157 P, v158 P, v159 P, v160 P, v161 P, v162 P, v163 P, v166 P, v167 P, v168 P, v169 P, v170 P, v171 P, v172 P, v175 P, v176 P, v177 P, v178 P, v179 P, v180 P, v181 P, v184 P, v185 P, v186 P, v187 P, v188 P, v189 P, v190 P, v192 P, v195 P, v196 P, v197 P, v198 P, v199 P, v200 P, v201 P, v204 P, v205 P, v206 P, v207 P, v208 P, v209 P, v210 P, v214 P, v215 P, v216 P, v217 P, v218 P, v219 P, v220 P, v221 P, v222 P, v229 P, v224 P, v225 P, v226 P, v230 P, v231 P, v232 P, v233 P, v234 P, v235 P, v236 P, v237 P, v238 P, v239 P, v240 P, v241 P, v244 P, v249 P, v250 P, v251 P, v252 P, v253 P, v254 P, v255 P, v258 P, v259 P, v260 P, v261 P, v262 P, v265 P, v266 P, v267 P, v268 P, v269 P, v270 P, v271 P, v274 P, v275 P, v276 P, v277 P, v278 P, v281 P, v282 P, v283 P, v284 P, v285 P, v288 P, v289 P, v290 P, v291 P, v292 P, v293 P, v294 P, v297 P, v298 P, v299 P, v300 P, v301 P, v304 P, v305 P, v306 P, v307 P, v308 P, v309 P, v310 P, v313 P, v314 P, v315 P, v316 P, v317 P, v318 P, v319 P, v323 P, v324 P, v325 P, v326 P, v327 P, v328 P, v329 P, v332 P, v333 P, v334 P, v335 P, v336 P, v337 P, v338 P, v341 P, v342 P, v343 P, v344 P, v345 P, v346 P, v347 P, v350 P, v351 P, v352 P, v353 P, v354 P, v357 P, v358 P, v359 P, v360 P, v361 P, v364 P, v365 P, v366 P, v367 P, v368 P, v369 P, v370 P, v373 P, v374 P, v375 P, v376 P, v377 P, v378 P, v379 P, v382 P, v383 P, v384 P, v385 P, v386 P, v387 P, v388 P, v391 P, v392 P, v393 P, v394 P, v395 P, v396 P, v397 P, v400 P, v401 P, v402 P, v403 P, v404 P, v405 P, v406 P, v409 P, v410 P, v411 P, v412 P, v413 P, v416 P, v417 P, v418 P, v419 P, v420 P, v421 P, v422 P]
def S_A (P : Params) (os : OsState) : SharedT := ⟨treeOf ((((fin P).take 15).set 3 (boot_o_3 P)).set 12 (tbO (tb.take 0))), 15, {}, #[], {}, 187, os⟩
theorem pre_eq (w : World) (os : OsState) : topGo treeTable p w 11 ann 12 ⟨boot_heap w.params, #[], boot_drawn, boot_toks, os⟩ (topStub p) = some ((S_A w.params os).abs, ⟨denote treeTable cd, cd, q0, B⟩) := by kernel_rfl
theorem block_eq (w : World) (os : OsState) : segRun treeTable p w 11 ann 1 1 (S_A w.params os).abs (blockOf body env cd q0 B) = some (.next, (S_A w.params os).abs, cd, q0) := by kernel_rfl
def S_0 (P : Params) (os : OsState) : SharedT := ⟨treeOf ((((fin P).take 142).set 3 (nsO ((e1 P "__name__" 165 (.str "lentgate.ends" 187)) :: ((ns P).drop 1).take 38) 39)).set 12 (tbO (tb.take 54))), 142, {}, #[], {}, 371, os⟩
theorem run0 (w : World) (os : OsState) : segRunT treeTable p w 11 ann 1 676 (S_A w.params os) (piecesOf ((body.drop 0).take 31) env cd q0 B) = some (.next, S_0 w.params os, cd, ⟨67, 0, 68, 74⟩) := by
  rw [PySem.W.Fast.te10110043849684766642, PySem.W.Fast.te14364793385576792824]; kernel_rfl
def S_1 (P : Params) (os : OsState) : SharedT := ⟨treeOf ((((fin P).take 202).set 3 (nsO ((e1 P "__name__" 165 (.str "lentgate.texts" 436)) :: ((ns P).drop 1).take 49) 50)).set 12 (tbO (tb.take 75))), 202, {}, #[], {}, 465, os⟩
theorem run1b (w : World) (os : OsState) (b : Bool) : segRunT treeTable p (wf w b) 11 ann 1 698 (S_0 w.params os) (piecesOf ((body.drop 31).take 13) env cd ⟨67, 0, 68, 74⟩ B) = some (.next, S_1 w.params os, cd, ⟨93, 0, 96, 25⟩) := by
  rw [PySem.W.Fast.te10110043849684766642, PySem.W.Fast.te14364793385576792824]; cases b <;> kernel_rfl
theorem run1 (w : World) (os : OsState) : segRunT treeTable p w 11 ann 1 698 (S_0 w.params os) (piecesOf ((body.drop 31).take 13) env cd ⟨67, 0, 68, 74⟩ B) = some (.next, S_1 w.params os, cd, ⟨93, 0, 96, 25⟩) := by
  have h := run1b w os (w.params.followText "special-get-raises")
  unfold wf at h
  rw [World.withFollow_self] at h
  exact h
def S_2 (P : Params) (os : OsState) : SharedT := ⟨treeOf ((fin P).take 316), 316, {}, #[], {}, 621, os⟩
theorem run2 (w : World) (os : OsState) : segRunT treeTable p w 11 ann 1 548 (S_1 w.params os) (piecesOf ((body.drop 44).take 19) env cd ⟨93, 0, 96, 25⟩ B) = some (.next, S_2 w.params os, cd, ⟨197, 0, 209, 15⟩) := by
  rw [PySem.W.Fast.te10110043849684766642, PySem.W.Fast.te14364793385576792824]; kernel_rfl
def TF (P : Params) : BT := (S_2 P default).tree
def H1 (P : Params) : Heap := absHeap (TF P) 316 {}
theorem body_eq : body = ((body.drop 0).take 31) ++ (((body.drop 31).take 13) ++ (((body.drop 44).take 19) ++ [])) := by kernel_rfl
theorem run_eq (w : World) (os : OsState) : topRun treeTable p w 11 ann (12 + (1 + (676 + (698 + (548 + 2))))) ⟨boot_heap w.params, #[], boot_drawn, boot_toks, os⟩ (topStub p) = some ⟨H1 w.params, #[], {}, 621, os⟩ := by
  refine go_top (pre_eq w os) (piece_block (block_eq w os) ?_)
  show topRun treeTable p w 11 ann _ _ (restOf body env cd q0 B) = _
  rw [body_eq]
  refine piece_app (segRun_of (run0 w os)) ?_
  refine piece_app (segRun_of (run1 w os)) ?_
  refine piece_app (segRun_of (run2 w os)) ?_
  kernel_rfl
def q : Program := view p [1, 2, 3, 4, 5, 6, 7, 8, 9, 10, 11, 12, 13, 14, 15, 16, 17, 18, 19, 20, 21, 22, 23, 24, 25, 26, 27, 28, 29, 30, 31, 32, 33, 35, 36, 38, 39, 40, 41, 42, 43, 44, 45, 46, 47, 48, 49, 51, 52, 53, 54, 55, 56, 57, 58, 59, 60, 61, 62]
def loose : List Str := ["DEEDS"]
def ks : List Addr := [nat_lit 2, nat_lit 3, nat_lit 6, nat_lit 15, nat_lit 16, nat_lit 17, nat_lit 18, nat_lit 20, nat_lit 21, nat_lit 23, nat_lit 24, nat_lit 25, nat_lit 27, nat_lit 28, nat_lit 30, nat_lit 31, nat_lit 32, nat_lit 34, nat_lit 35, nat_lit 37, nat_lit 38, nat_lit 39, nat_lit 41, nat_lit 42, nat_lit 44, nat_lit 45, nat_lit 46, nat_lit 48, nat_lit 49, nat_lit 51, nat_lit 52, nat_lit 53, nat_lit 55, nat_lit 56, nat_lit 58, nat_lit 59, nat_lit 60, nat_lit 62, nat_lit 63, nat_lit 65, nat_lit 66, nat_lit 67, nat_lit 69, nat_lit 70, nat_lit 72, nat_lit 73, nat_lit 74, nat_lit 76, nat_lit 77, nat_lit 79, nat_lit 80, nat_lit 81, nat_lit 83, nat_lit 84, nat_lit 86, nat_lit 87, nat_lit 88, nat_lit 91, nat_lit 92, nat_lit 93, nat_lit 95, nat_lit 96, nat_lit 98, nat_lit 99, nat_lit 100, nat_lit 102, nat_lit 103, nat_lit 105, nat_lit 106, nat_lit 107, nat_lit 109, nat_lit 110, nat_lit 112, nat_lit 113, nat_lit 114, nat_lit 116, nat_lit 117, nat_lit 119, nat_lit 120, nat_lit 121, nat_lit 123, nat_lit 124, nat_lit 126, nat_lit 127, nat_lit 128, nat_lit 130, nat_lit 131, nat_lit 133, nat_lit 134, nat_lit 135, nat_lit 137, nat_lit 138, nat_lit 140, nat_lit 141, nat_lit 142, nat_lit 143, nat_lit 145, nat_lit 146, nat_lit 148, nat_lit 149, nat_lit 150, nat_lit 152, nat_lit 153, nat_lit 155, nat_lit 156, nat_lit 157, nat_lit 158, nat_lit 159, nat_lit 160, nat_lit 162, nat_lit 163, nat_lit 164, nat_lit 165, nat_lit 166, nat_lit 167, nat_lit 168, nat_lit 169, nat_lit 170, nat_lit 171, nat_lit 172, nat_lit 173, nat_lit 175, nat_lit 176, nat_lit 177, nat_lit 178, nat_lit 179, nat_lit 180, nat_lit 181, nat_lit 182, nat_lit 183, nat_lit 185, nat_lit 186, nat_lit 188, nat_lit 189, nat_lit 190, nat_lit 193, nat_lit 194, nat_lit 195, nat_lit 197, nat_lit 198, nat_lit 200, nat_lit 201, nat_lit 202, nat_lit 205, nat_lit 206, nat_lit 207, nat_lit 210, nat_lit 211, nat_lit 212, nat_lit 214, nat_lit 215, nat_lit 217, nat_lit 218, nat_lit 219, nat_lit 222, nat_lit 223, nat_lit 224, nat_lit 226, nat_lit 227, nat_lit 229, nat_lit 230, nat_lit 231, nat_lit 233, nat_lit 234, nat_lit 236, nat_lit 237, nat_lit 238, nat_lit 240, nat_lit 241, nat_lit 243, nat_lit 244, nat_lit 245, nat_lit 247, nat_lit 248, nat_lit 250, nat_lit 251, nat_lit 252, nat_lit 254, nat_lit 255, nat_lit 257, nat_lit 258, nat_lit 259, nat_lit 262, nat_lit 263, nat_lit 264, nat_lit 267, nat_lit 268, nat_lit 269, nat_lit 271, nat_lit 272, nat_lit 274, nat_lit 275, nat_lit 276, nat_lit 278, nat_lit 279, nat_lit 281, nat_lit 282, nat_lit 283, nat_lit 285, nat_lit 286, nat_lit 288, nat_lit 289, nat_lit 290, nat_lit 292, nat_lit 293, nat_lit 295, nat_lit 296, nat_lit 297, nat_lit 299, nat_lit 300, nat_lit 302, nat_lit 303, nat_lit 304, nat_lit 307, nat_lit 308, nat_lit 309, nat_lit 311, nat_lit 312, nat_lit 314, nat_lit 315]
def K (P : Params) : Frag := (nat_lit 2, boot_o_2 P) :: (nat_lit 3, nsO ((ns P).take 68) 68) :: (nat_lit 6, boot_o_6 P) :: (nat_lit 15, v26 P) :: (nat_lit 16, v28 P) :: (nat_lit 17, v30 P) :: (nat_lit 18, v33 P) :: (nat_lit 20, v35 P) :: (nat_lit 21, v36 P) :: (nat_lit 23, v38 P) :: (nat_lit 24, v39 P) :: (nat_lit 25, v42 P) :: (nat_lit 27, v44 P) :: (nat_lit 28, v45 P) :: (nat_lit 30, v47 P) :: (nat_lit 31, v48 P) :: (nat_lit 32, v51 P) :: (nat_lit 34, v53 P) :: (nat_lit 35, v54 P) :: (nat_lit 37, v56 P) :: (nat_lit 38, v57 P) :: (nat_lit 39, v60 P) :: (nat_lit 41, v62 P) :: (nat_lit 42, v63 P) :: (nat_lit 44, v65 P) :: (nat_lit 45, v66 P) :: (nat_lit 46, v69 P) :: (nat_lit 48, v71 P) :: (nat_lit 49, v72 P) :: (nat_lit 51, v74 P) :: (nat_lit 52, v75 P) :: (nat_lit 53, v78 P) :: (nat_lit 55, v80 P) :: (nat_lit 56, v81 P) :: (nat_lit 58, v83 P) :: (nat_lit 59, v84 P) :: (nat_lit 60, v87 P) :: (nat_lit 62, v89 P) :: (nat_lit 63, v90 P) :: (nat_lit 65, v92 P) :: (nat_lit 66, v93 P) :: (nat_lit 67, v96 P) :: (nat_lit 69, v98 P) :: (nat_lit 70, v99 P) :: (nat_lit 72, v101 P) :: (nat_lit 73, v102 P) :: (nat_lit 74, v105 P) :: (nat_lit 76, v107 P) :: (nat_lit 77, v108 P) :: (nat_lit 79, v110 P) :: (nat_lit 80, v111 P) :: (nat_lit 81, v114 P) :: (nat_lit 83, v116 P) :: (nat_lit 84, v117 P) :: (nat_lit 86, v119 P) :: (nat_lit 87, v120 P) :: (nat_lit 88, v123 P) :: (nat_lit 91, v126 P) :: (nat_lit 92, v127 P) :: (nat_lit 93, v130 P) :: (nat_lit 95, v132 P) :: (nat_lit 96, v133 P) :: (nat_lit 98, v135 P) :: (nat_lit 99, v136 P) :: (nat_lit 100, v139 P) :: (nat_lit 102, v141 P) :: (nat_lit 103, v142 P) :: (nat_lit 105, v144 P) :: (nat_lit 106, v145 P) :: (nat_lit 107, v148 P) :: (nat_lit 109, v150 P) :: (nat_lit 110, v151 P) :: (nat_lit 112, v153 P) :: (nat_lit 113, v154 P) :: (nat_lit 114, v157 P) :: (nat_lit 116, v159 P) :: (nat_lit 117, v160 P) :: (nat_lit 119, v162 P) :: (nat_lit 120, v163 P) :: (nat_lit 121, v166 P) :: (nat_lit 123, v168 P) :: (nat_lit 124, v169 P) :: (nat_lit 126, v171 P) :: (nat_lit 127, v172 P) :: (nat_lit 128, v175 P) :: (nat_lit 130, v177 P) :: (nat_lit 131, v178 P) :: (nat_lit 133, v180 P) :: (nat_lit 134, v181 P) :: (nat_lit 135, v184 P) :: (nat_lit 137, v186 P) :: (nat_lit 138, v187 P) :: (nat_lit 140, v189 P) :: (nat_lit 141, v190 P) :: (nat_lit 142, v192 P) :: (nat_lit 143, v195 P) :: (nat_lit 145, v197 P) :: (nat_lit 146, v198 P) :: (nat_lit 148, v200 P) :: (nat_lit 149, v201 P) :: (nat_lit 150, v204 P) :: (nat_lit 152, v206 P) :: (nat_lit 153, v207 P) :: (nat_lit 155, v209 P) :: (nat_lit 156, v210 P) :: (nat_lit 157, v214 P) :: (nat_lit 158, v215 P) :: (nat_lit 159, v216 P) :: (nat_lit 160, v217 P) :: (nat_lit 162, v219 P) :: (nat_lit 163, v220 P) :: (nat_lit 164, v221 P) :: (nat_lit 165, v222 P) :: (nat_lit 166, v229 P) :: (nat_lit 167, v224 P) :: (nat_lit 168, v225 P) :: (nat_lit 169, v226 P) :: (nat_lit 170, v230 P) :: (nat_lit 171, v231 P) :: (nat_lit 172, v232 P) :: (nat_lit 173, v233 P) :: (nat_lit 175, v235 P) :: (nat_lit 176, v236 P) :: (nat_lit 177, v237 P) :: (nat_lit 178, v238 P) :: (nat_lit 179, v239 P) :: (nat_lit 180, v240 P) :: (nat_lit 181, v241 P) :: (nat_lit 182, v244 P) :: (nat_lit 183, v249 P) :: (nat_lit 185, v251 P) :: (nat_lit 186, v252 P) :: (nat_lit 188, v254 P) :: (nat_lit 189, v255 P) :: (nat_lit 190, v258 P) :: (nat_lit 193, v261 P) :: (nat_lit 194, v262 P) :: (nat_lit 195, v265 P) :: (nat_lit 197, v267 P) :: (nat_lit 198, v268 P) :: (nat_lit 200, v270 P) :: (nat_lit 201, v271 P) :: (nat_lit 202, v274 P) :: (nat_lit 205, v277 P) :: (nat_lit 206, v278 P) :: (nat_lit 207, v281 P) :: (nat_lit 210, v284 P) :: (nat_lit 211, v285 P) :: (nat_lit 212, v288 P) :: (nat_lit 214, v290 P) :: (nat_lit 215, v291 P) :: (nat_lit 217, v293 P) :: (nat_lit 218, v294 P) :: (nat_lit 219, v297 P) :: (nat_lit 222, v300 P) :: (nat_lit 223, v301 P) :: (nat_lit 224, v304 P) :: (nat_lit 226, v306 P) :: (nat_lit 227, v307 P) :: (nat_lit 229, v309 P) :: (nat_lit 230, v310 P) :: (nat_lit 231, v313 P) :: (nat_lit 233, v315 P) :: (nat_lit 234, v316 P) :: (nat_lit 236, v318 P) :: (nat_lit 237, v319 P) :: (nat_lit 238, v323 P) :: (nat_lit 240, v325 P) :: (nat_lit 241, v326 P) :: (nat_lit 243, v328 P) :: (nat_lit 244, v329 P) :: (nat_lit 245, v332 P) :: (nat_lit 247, v334 P) :: (nat_lit 248, v335 P) :: (nat_lit 250, v337 P) :: (nat_lit 251, v338 P) :: (nat_lit 252, v341 P) :: (nat_lit 254, v343 P) :: (nat_lit 255, v344 P) :: (nat_lit 257, v346 P) :: (nat_lit 258, v347 P) :: (nat_lit 259, v350 P) :: (nat_lit 262, v353 P) :: (nat_lit 263, v354 P) :: (nat_lit 264, v357 P) :: (nat_lit 267, v360 P) :: (nat_lit 268, v361 P) :: (nat_lit 269, v364 P) :: (nat_lit 271, v366 P) :: (nat_lit 272, v367 P) :: (nat_lit 274, v369 P) :: (nat_lit 275, v370 P) :: (nat_lit 276, v373 P) :: (nat_lit 278, v375 P) :: (nat_lit 279, v376 P) :: (nat_lit 281, v378 P) :: (nat_lit 282, v379 P) :: (nat_lit 283, v382 P) :: (nat_lit 285, v384 P) :: (nat_lit 286, v385 P) :: (nat_lit 288, v387 P) :: (nat_lit 289, v388 P) :: (nat_lit 290, v391 P) :: (nat_lit 292, v393 P) :: (nat_lit 293, v394 P) :: (nat_lit 295, v396 P) :: (nat_lit 296, v397 P) :: (nat_lit 297, v400 P) :: (nat_lit 299, v402 P) :: (nat_lit 300, v403 P) :: (nat_lit 302, v405 P) :: (nat_lit 303, v406 P) :: (nat_lit 304, v409 P) :: (nat_lit 307, v412 P) :: (nat_lit 308, v413 P) :: (nat_lit 309, v416 P) :: (nat_lit 311, v418 P) :: (nat_lit 312, v419 P) :: (nat_lit 314, v421 P) :: (nat_lit 315, v422 P) :: []
theorem ks_eq (P : Params) : ks = (K P).map (·.1) := by kernel_rfl
def Hk : Hook := kHook K ks ks_eq
def Xt (s : Shared) : Bool := xlAt q [] s && recOk [] s
def NN : Nat := 1000000
theorem size_eq (w : World) : ((boot_heap w.params).isNs mainGlobals && (#[] : Array GenState).size == 0, (boot_heap w.params).objs.size, (boot_heap w.params).nsMap mainGlobals "__annotations__") = (true, 11, ann) := by kernel_rfl
theorem op1 : opening p = plainProg p.main.scope.names := by kernel_rfl
theorem op2 (s : Shared) : fenceModules? p s = some s := by kernel_rfl
theorem look1 (w : World) (os : OsState) : (staticsOk (importedModules p.main.body) (boot_heap w.params) (H1 w.params) && namesBound p (H1 w.params) && gensDone ⟨H1 w.params, #[], {}, 621, os⟩ && laidKept (boot_heap w.params) (H1 w.params)) = true := by kernel_rfl
theorem look2 (w : World) (os : OsState) : openSeen q loose (importedModules p.main.body) Xt true ⟨H1 w.params, #[], {}, 621, os⟩ = openGood q loose := by kernel_rfl
theorem look3 (w : World) (os : OsState) : Hk.obs ⟨H1 w.params, #[], {}, 621, os⟩ = Hk.val w := by kernel_rfl
theorem left : LeftO p q loose Xt Hk.obs Hk.val NN :=
  LeftO.of_pieces (H₀ := boot_heap) (H₁ := H1) (gs₀ := #[]) (gs₁ := #[]) (d₀ := boot_drawn) (d₁ := {}) (k₀ := boot_toks) (k₁ := 621) (m₀ := 11) (ann := ann) (M := 12 + (1 + (676 + (698 + (548 + 2))))) (boot_open op1 (by decide) op2) size_eq run_eq (by decide)
    fun w => funext fun os => Prod.ext (look1 w os) (Prod.ext (look2 w os) (look3 w os))
end
end H25
open PySem PySem.W PyProof.Rows
theorem PySem.Challenge.cw_lentgate_k25_deeds_written_and_read_holds : PySem.Challenge.rw_lentgate_k25_deeds_written_and_read.Holds := by
  w_on; o_law
  refine PySem.W.holds_open (r := (PySem.Challenge.rw_lentgate_k25_deeds_written_and_read).row) (q := H25.q) (loose := H25.loose) (Xt := H25.Xt) (XP := PySem.W.XL H25.q [])
    (Yf := (PySem.W.kHook H25.K H25.ks H25.ks_eq).obs) (Ya := (PySem.W.kHook H25.K H25.ks H25.ks_eq).val) (YP := (PySem.W.kHook H25.K H25.ks H25.ks_eq).says) (N := H25.NN)
    H25.left (PySem.W.Hook.of _) (PySem.W.Hook.keeps _) (fun s e => PySem.W.xl_of s (Bool.and_eq_true_iff.mp e).1) PySem.W.XL.keeps (by rfl) (by rfl) (by rfl)
    (fun s e => PySem.W.recFacts_of (Bool.and_eq_true_iff.mp e).2) (by rfl) (by assumption) (by decide +kernel) ⟨rfl, rfl, rfl, rfl, rfl, by decide +kernel⟩ ?hw ?hc
  (case hw => w_witness2)
  k_fill
  refine K25.walk (l := PySem.Challenge.rw_lentgate_k25_deeds_written_and_read) rfl rfl (fun w h Y => PySem.W.kIn_of Y) ?F
  case F =>
    intro w mg fa h KX G hmg
    refine' K25.all_mk KX G hmg ?a0 ?l0 ?c0 ?k0 ?a1 ?l1 ?c1 ?k1 ?a2 ?l2 ?c2 ?k2 ?a3 ?l3 ?c3 ?k3 ?a4 ?l4 ?c4 ?k4 ?a5 ?l5 ?c5 ?k5 ?a6 ?l6 ?c6 ?k6 ?a7 ?l7 ?c7 ?k7 ?a8 ?l8 ?c8 ?k8 ?a9 ?l9 ?c9 ?k9 ?a10 ?l10 ?c10 ?k10 ?a11 ?l11 ?c11 ?k11 ?a12 ?l12 ?c12 ?k12 ?a13 ?l13 ?c13 ?k13 ?a14 ?l14 ?c14 ?k14 ?a15 ?l15 ?c15 ?k15 ?a16 ?l16 ?c16 ?k16 ?a17 ?l17 ?c17 ?k17 ?a18 ?l18 ?c18 ?k18 ?a19 ?l19 ?c19 ?k19 ?a20 ?l20 ?c20 ?k20 ?a21 ?l21 ?c21 ?k21 ?a22 ?l22 ?c22 ?k22 ?a23 ?l23 ?c23 ?k23 ?a24 ?l24 ?c24 ?k24 ?a25 ?l25 ?c25 ?k25 ?a26 ?l26 ?c26 ?k26 ?a27 ?l27 ?c27 ?k27 ?a28 ?l28 ?c28 ?k28 ?a29 ?l29 ?c29 ?k29 ?a30 ?l30 ?c30 ?k30 ?a31 ?l31 ?c31 ?k31 ?a32 ?l32 ?c32 ?k32 ?a33 ?l33 ?c33 ?k33 ?a34 ?l34 ?c34 ?k34 ?a35 ?l35 ?c35 ?k35 ?a36 ?l36 ?c36 ?k36 ?a37 ?l37 ?c37 ?k37 ?a38 ?l38 ?c38 ?k38 ?a39 ?l39 ?c39 ?k39 ?a40 ?l40 ?c40 ?k40 ?z_all ?z_bool ?z_int ?z_isinstance ?z_len ?z_ord ?z_range ?z_str ?z_tuple ?z_zip ?z_GREATEST_HOUSE ?z_GREATEST_DOOR ?z_GREATEST_PLACE ?z_GREATEST_TICKS ?z_GREATEST_RULE ?z_MOST_SIGNS ?z_FIRST_SIGN ?z_LAST_SIGN ?z_PERCENT_SIGN ?z_MOST_FIGURES ?z_KINDS ?l_KINDS ?y_KINDS ?v_KINDS ?z_NOTE_WORDS ?l_NOTE_WORDS ?y_NOTE_WORDS ?v_NOTE_WORDS ?z_LINE_WORDS ?l_LINE_WORDS ?y_LINE_WORDS ?v_LINE_WORDS ?z_WITH_TEXT ?l_WITH_TEXT ?y_WITH_TEXT ?v_WITH_TEXT ?zD ?lD ?nD ?rD ?z_FIGURES
    (case a0 => k_is)
    (case l0 => k_is)
    (case c0 => k_is)
    (case k0 => k_is)
    (case a1 => k_is)
    (case l1 => k_is)
    (case c1 => k_is)
    (case k1 => k_is)
    (case a2 => k_is)
    (case l2 => k_is)
    (case c2 => k_is)
    (case k2 => k_is)
    (case a3 => k_is)
    (case l3 => k_is)
    (case c3 => k_is)
    (case k3 => k_is)
    (case a4 => k_is)
    (case l4 => k_is)
    (case c4 => k_is)
    (case k4 => k_is)
    (case a5 => k_is)
    (case l5 => k_is)
    (case c5 => k_is)
    (case k5 => k_is)
    (case a6 => k_is)
    (case l6 => k_is)
    (case c6 => k_is)
    (case k6 => k_is)
    (case a7 => k_is)
    (case l7 => k_is)
    (case c7 => k_is)
    (case k7 => k_is)
    (case a8 => k_is)
    (case l8 => k_is)
    (case c8 => k_is)
    (case k8 => k_is)
    (case a9 => k_is)
    (case l9 => k_is)
    (case c9 => k_is)
    (case k9 => k_is)
    (case a10 => k_is)
    (case l10 => k_is)
    (case c10 => k_is)
    (case k10 => k_is)
    (case a11 => k_is)
    (case l11 => k_is)
    (case c11 => k_is)
    (case k11 => k_is)
    (case a12 => k_is)
    (case l12 => k_is)
    (case c12 => k_is)
    (case k12 => k_is)
    (case a13 => k_is)
    (case l13 => k_is)
    (case c13 => k_is)
    (case k13 => k_is)
    (case a14 => k_is)
    (case l14 => k_is)
    (case c14 => k_is)
    (case k14 => k_is)
    (case a15 => k_is)
    (case l15 => k_is)
    (case c15 => k_is)
    (case k15 => k_is)
    (case a16 => k_is)
    (case l16 => k_is)
    (case c16 => k_is)
    (case k16 => k_is)
    (case a17 => k_is)
    (case l17 => k_is)
    (case c17 => k_is)
    (case k17 => k_is)
    (case a18 => k_is)
    (case l18 => k_is)
    (case c18 => k_is)
    (case k18 => k_is)
    (case a19 => k_is)
    (case l19 => k_is)
    (case c19 => k_is)
    (case k19 => k_is)
    (case a20 => k_is)
    (case l20 => k_is)
    (case c20 => k_is)
    (case k20 => k_is)
    (case a21 => k_is)
    (case l21 => k_is)
    (case c21 => k_is)
    (case k21 => k_is)
    (case a22 => k_is)
    (case l22 => k_is)
    (case c22 => k_is)
    (case k22 => k_is)
    (case a23 => k_is)
    (case l23 => k_is)
    (case c23 => k_is)
    (case k23 => k_is)
    (case a24 => k_is)
    (case l24 => k_is)
    (case c24 => k_is)
    (case k24 => k_is)
    (case a25 => k_is)
    (case l25 => k_is)
    (case c25 => k_is)
    (case k25 => k_is)
    (case a26 => k_is)
    (case l26 => k_is)
    (case c26 => k_is)
    (case k26 => k_is)
    (case a27 => k_is)
    (case l27 => k_is)
    (case c27 => k_is)
    (case k27 => k_is)
    (case a28 => k_is)
    (case l28 => k_is)
    (case c28 => k_is)
    (case k28 => k_is)
    (case a29 => k_is)
    (case l29 => k_is)
    (case c29 => k_is)
    (case k29 => k_is)
    (case a30 => k_is)
    (case l30 => k_is)
    (case c30 => k_is)
    (case k30 => k_is)
    (case a31 => k_is)
    (case l31 => k_is)
    (case c31 => k_is)
    (case k31 => k_is)
    (case a32 => k_is)
    (case l32 => k_is)
    (case c32 => k_is)
    (case k32 => k_is)
    (case a33 => k_is)
    (case l33 => k_is)
    (case c33 => k_is)
    (case k33 => k_is)
    (case a34 => k_is)
    (case l34 => k_is)
    (case c34 => k_is)
    (case k34 => k_is)
    (case a35 => k_is)
    (case l35 => k_is)
    (case c35 => k_is)
    (case k35 => k_is)
    (case a36 => k_is)
    (case l36 => k_is)
    (case c36 => k_is)
    (case k36 => k_is)
    (case a37 => k_is)
    (case l37 => k_is)
    (case c37 => k_is)
    (case k37 => k_is)
    (case a38 => k_is)
    (case l38 => k_is)
    (case c38 => k_is)
    (case k38 => k_is)
    (case a39 => k_is)
    (case l39 => k_is)
    (case c39 => k_is)
    (case k39 => k_is)
    (case a40 => k_is)
    (case l40 => k_is)
    (case c40 => k_is)
    (case k40 => k_is)
    (case z_all => k_is)
    (case z_bool => k_is)
    (case z_int => k_is)
    (case z_isinstance => k_is)
    (case z_len => k_is)
    (case z_ord => k_is)
    (case z_range => k_is)
    (case z_str => k_is)
    (case z_tuple => k_is)
    (case z_zip => k_is)
    (case z_GREATEST_HOUSE => k_is)
    (case z_GREATEST_DOOR => k_is)
    (case z_GREATEST_PLACE => k_is)
    (case z_GREATEST_TICKS => k_is)
    (case z_GREATEST_RULE => k_is)
    (case z_MOST_SIGNS => k_is)
    (case z_FIRST_SIGN => k_is)
    (case z_LAST_SIGN => k_is)
    (case z_PERCENT_SIGN => k_is)
    (case z_MOST_FIGURES => k_is)
    (case z_KINDS => k_is)
    (case l_KINDS => k_is)
    (case y_KINDS => exact (by decide))
    (case v_KINDS => exact .cons ⟨_, rfl⟩ (.cons ⟨_, rfl⟩ (.nil)))
    (case z_NOTE_WORDS => k_is)
    (case l_NOTE_WORDS => k_is)
    (case y_NOTE_WORDS => exact (by decide))
    (case v_NOTE_WORDS => exact .cons ⟨_, rfl⟩ (.nil))
    (case z_LINE_WORDS => k_is)
    (case l_LINE_WORDS => k_is)
    (case y_LINE_WORDS => exact (by decide))
    (case v_LINE_WORDS => exact .cons ⟨_, rfl⟩ (.cons ⟨_, rfl⟩ (.cons ⟨_, rfl⟩ (.cons ⟨_, rfl⟩ (.nil)))))
    (case z_WITH_TEXT => k_is)
    (case l_WITH_TEXT => k_is)
    (case y_WITH_TEXT => exact (by decide))
    (case v_WITH_TEXT => exact .cons ⟨_, rfl⟩ (.cons ⟨_, rfl⟩ (.nil)))
    (case zD => k_is)
    (case lD => k_is)
    (case nD => rfl)
    (case rD => exact ⟨⟨_, rfl⟩, rfl, rfl, ⟨_, rfl⟩, rfl, rfl, ⟨_, rfl⟩, rfl, rfl, ⟨_, rfl⟩, rfl, rfl, ⟨_, rfl⟩, rfl, rfl, ⟨_, rfl⟩, rfl, rfl, trivial⟩)
    (case z_FIGURES => k_is)
