import PyProof.Rows.All
import Wide.All
import OpenK.AllK
import Wide.FinOn
import Lean
import PyProof.EqAt
import PyProof.EqKinds
import PyProof.TupleCall
import PyProof.NeKinds
import PyProof.ZipIter
import KE.KIntText
import PySem.Challenge.RW_lentgate_k01_words_lead_states
set_option Elab.async false
set_option linter.all false
set_option maxRecDepth 100000
section
set_option Elab.async false
set_option linter.all false
set_option maxRecDepth 100000
namespace L2
open PySem PySem.Spec PyProof.Rows
abbrev Key := Sum Int Str
def keyIs : Key → Value → Bool
  | .inl k, v => Value.isInt k v
  | .inr x, v => Value.isStrOf x v
def keyH (w : World) : Key → Int
  | .inl k => hashInt k
  | .inr x => hashStr w x
theorem keyIs_shape : ∀ {k : Key} {v : Value}, keyIs k v = true → (∃ i t, k = Sum.inl i ∧ v = Value.int i t) ∨ (∃ x t, k = Sum.inr x ∧ v = Value.str x t)
  | .inl i, v, h => by
    obtain ⟨t, e⟩ := Value.isInt_shape (k := i) (v := v) h
    exact .inl ⟨i, t, rfl, e⟩
  | .inr x, v, h => by
    obtain ⟨t, e⟩ := Value.isStrOf_shape (x := x) (v := v) h
    exact .inr ⟨x, t, rfl, e⟩
theorem keyIs_int (i : Int) (t : Tok) : keyIs (.inl i) (.int i t) = true := by simp [keyIs, Value.isInt]
theorem keyIs_str (x : Str) (t : Tok) : keyIs (.inr x) (.str x t) = true := by simp [keyIs, Value.isStrOf]
theorem key_ll (a b : Int) : decide ((Sum.inl a : Key) = Sum.inl b) = (a == b) := by
  by_cases e : a = b
  · subst e; simp
  · have h : ¬ (Sum.inl a : Key) = Sum.inl b := fun q => e (Sum.inl.inj q)
    rw [decide_eq_false h]
    exact (beq_eq_false_iff_ne.mpr e).symm
theorem key_rr (a b : Str) : decide ((Sum.inr a : Key) = Sum.inr b) = decide (a = b) := by
  by_cases e : a = b
  · subst e; simp
  · have h : ¬ (Sum.inr a : Key) = Sum.inr b := fun q => e (Sum.inr.inj q)
    rw [decide_eq_false h, decide_eq_false e]
theorem key_lr (a : Int) (b : Str) : decide ((Sum.inl a : Key) = Sum.inr b) = false := decide_eq_false (fun q => nomatch q)
theorem key_rl (a : Str) (b : Int) : decide ((Sum.inr a : Key) = Sum.inl b) = false := decide_eq_false (fun q => nomatch q)
def mixKind (prog : Program) (w : World) : PySem.KeyKind prog w Key where
  is := keyIs
  hash := keyH w
  inj := fun v a b ha hb => by
    rcases keyIs_shape ha with ⟨i, t, rfl, rfl⟩ | ⟨x, t, rfl, rfl⟩
    · rcases keyIs_shape hb with ⟨j, u, rfl, e⟩ | ⟨y, u, rfl, e⟩
      · injection e with e1 _; rw [e1]
      · exact nomatch e
    · rcases keyIs_shape hb with ⟨j, u, rfl, e⟩ | ⟨y, u, rfl, e⟩
      · exact nomatch e
      · injection e with e1 _; rw [e1]
  byValue := fun k v h => by
    rcases keyIs_shape h with ⟨i, t, rfl, rfl⟩ | ⟨x, t, rfl, rfl⟩ <;> rfl
  pyHash := fun hv h => by
    rcases keyIs_shape hv with ⟨i, t, rfl, rfl⟩ | ⟨x, t, rfl, rfl⟩
    · exact wpAny_pyHash_int h
    · exact wpAny_pyHash_str h
  eqBool := fun hu hv h => by
    rcases keyIs_shape hu with ⟨i, t, rfl, rfl⟩ | ⟨x, t, rfl, rfl⟩
    · rcases keyIs_shape hv with ⟨j, u, rfl, rfl⟩ | ⟨y, u, rfl, rfl⟩
      · rw [key_ll] at h; exact wpAny_eqBool_int h
      · rw [key_lr] at h; exact SeqAt.EqAt.int_str i t y u _ _ _ _ h
    · rcases keyIs_shape hv with ⟨j, u, rfl, rfl⟩ | ⟨y, u, rfl, rfl⟩
      · rw [key_rl] at h; exact SeqAt.EqAt.str_int x t j u _ _ _ _ h
      · rw [key_rr] at h; exact wpAny_eqBool_str h
  «strs» := fun k x t v h => by
    rcases keyIs_shape h with ⟨i, u, rfl, e⟩ | ⟨y, u, rfl, e⟩
    · exact nomatch e
    · injection e with e1 _
      subst e1
      cases v <;> rfl
theorem mixKind_int (prog : Program) (w : World) (i : Int) (t : Tok) : (mixKind prog w).is (.inl i) (.int i t) = true := keyIs_int i t
theorem mixKind_str (prog : Program) (w : World) (x : Str) (t : Tok) : (mixKind prog w).is (.inr x) (.str x t) = true := keyIs_str x t
end L2
namespace L2
open PySem PySem.Spec PyProof.Rows
inductive V where
  | non | bl (b : Bool) | int (i : Int) | str (x : Str) | byt (b : Array UInt8) | flt (b : UInt64) | ref (a : Addr) | ty (n : String)
  deriving DecidableEq
def RelV : V → Value → Prop
  | .non, u => u = Value.none
  | .bl b, u => u = Value.bool b
  | .int i, u => ∃ t, u = Value.int i t
  | .str x, u => ∃ t, u = Value.str x t
  | .byt b, u => ∃ t, u = Value.bytes b t
  | .flt b, u => ∃ t, u = Value.float b t
  | .ref a, u => u = Value.ref a
  | .ty n, u => u = Value.type n
abbrev Vals : List V → List Value → Prop := Paired RelV
theorem Vals.length {xs : List V} {us : List Value} (r : Vals xs us) : xs.length = us.length := Paired.length r
theorem Vals.get : ∀ {xs : List V} {us : List Value} {i : Nat} {x : V}, Vals xs us → xs[i]? = some x → ∃ u, us[i]? = some u ∧ RelV x u
  | _, _, _, _, .nil, e => by simp at e
  | _, _, 0, _, .cons r _, e => by simp at e; subst e; exact ⟨_, rfl, r⟩
  | _, _, i + 1, x, .cons _ t, e => by
    obtain ⟨u, h1, h2⟩ := Vals.get (i := i) (x := x) t (by simpa using e)
    exact ⟨u, by simpa using h1, h2⟩
theorem Vals.set {x : V} {u : Value} (r : RelV x u) : ∀ {xs : List V} {us : List Value} (i : Nat), Vals xs us → Vals (xs.set i x) (us.set i u)
  | _, _, _, .nil => .nil
  | _, _, 0, .cons _ t => .cons r t
  | _, _, i + 1, .cons q t => .cons q (Vals.set r i t)
theorem Vals.append : ∀ {xs ys : List V} {us ws : List Value}, Vals xs us → Vals ys ws → Vals (xs ++ ys) (us ++ ws)
  | _, _, _, _, .nil, s => s
  | _, _, _, _, .cons r t, s => .cons r (Vals.append t s)
theorem Vals.take : ∀ {xs : List V} {us : List Value} (n : Nat), Vals xs us → Vals (xs.take n) (us.take n)
  | _, _, 0, _ => .nil
  | _, _, _ + 1, .nil => .nil
  | _, _, n + 1, .cons r t => .cons r (Vals.take n t)
theorem Vals.drop : ∀ {xs : List V} {us : List Value} (n : Nat), Vals xs us → Vals (xs.drop n) (us.drop n)
  | _, _, 0, r => r
  | _, _, _ + 1, .nil => .nil
  | _, _, n + 1, .cons _ t => Vals.drop n t
def RelO : Option V → Option Value → Prop
  | some v, some u => RelV v u
  | none, none => True
  | _, _ => False
def KV {κ : Type} : List (κ × V) → List (κ × Value) → Prop := Paired fun (p : κ × V) (q : κ × Value) => p.1 = q.1 ∧ RelV p.2 q.2
def kV : Key → V
  | .inl i => .int i
  | .inr x => .str x
inductive HO where
  /-- a list -/
  | lst (xs : List V)
  /-- a tuple (never changes) -/
  | tup (xs : List V)
  /-- a dict whose keys are ints and texts; one whose keys are tuples of ints and texts (the empty one is both) -/
  | dK (kvs : List (Key × V)) | dT (kvs : List (List Key × V))
  /-- a set of ints: its members, its size -/
  | set (S : Int → Bool) (n : Nat)
  /-- an instance of the class at C, its dict at dx, its attributes -/
  | ins (C dx : Addr) (fs : List (Str × V))
  /-- the dict of the instance at x -/
  | own (x : Addr)
  /-- the dict of an exception -/
  | xd (fs : List (Str × V))
  /-- a bound method, f of x -/
  | met (f x : Addr)
  /-- a range object lo, lo + 1, .. below hi -/
  | rng (lo hi : Int)
  /-- a thing that is known to the object (the script; a dict while a loop walks it): read, never written while it is so -/
  | frz (o : Obj) (u : HO)
  /-- a code object's table -/
  | tbl (ps : Array Value)
  /-- any other thing, by what is true of its one object (a def of one's own: SetO a S n := HO.ext fun h => ..) -/
  | ext (φ : Heap → Prop)
abbrev Hp := Addr → Option HO
def upd (H : Hp) (a : Addr) (o : HO) : Hp := fun b => if b = a then some o else H b
theorem upd_same {H : Hp} {a : Addr} {o : HO} : upd H a o a = some o := by unfold upd; rw [if_pos rfl]
theorem upd_ne {H : Hp} {a b : Addr} {o : HO} (h : b ≠ a) : upd H a o b = H b := by unfold upd; rw [if_neg h]
theorem upd_upd {H : Hp} {a : Addr} {o u : HO} : upd (upd H a o) a u = upd H a u := by
  funext b; unfold upd; split <;> rfl
theorem ne_of {H : Hp} {a b : Addr} {o u : HO} (h : H a = some o) (h' : H b = some u) (d : o ≠ u) : a ≠ b := by
  intro e; subst e; rw [h] at h'; exact d (Option.some.inj h')
theorem ne_of_none {H : Hp} {a b : Addr} {o : HO} (h : H a = some o) (h' : H b = none) : a ≠ b := by
  intro e; subst e; rw [h] at h'; cases h'
section
variable (P : Program) (w : World)
def ObjOk (H : Hp) (h : Heap) (a : Addr) : HO → Prop
  | .lst xs => xs.length ≤ sizeLine ∧ ∃ (its : List Value) (n : Nat), Vals xs its ∧ h.get? a = some { cls := .type "list", data := .seq its.toArray n }
  | .tup xs => xs.length ≤ sizeLine ∧ ∃ its : List Value, Vals xs its ∧ IsTup h a its.toArray
  | .dK kvs => kvs.length ≤ sizeLine ∧ (a == sysModules) = false ∧ ∃ vs, KV kvs vs ∧ h.DictOf (mixKind P w) a vs
  | .dT kvs => kvs.length ≤ sizeLine ∧ (a == sysModules) = false ∧ ∃ xs : List (List Key × Addr × Value),
      Paired (fun (p : List Key × V) (q : List Key × Addr × Value) => p.1 = q.1 ∧ H q.2.1 = some (.tup (p.1.map kV)) ∧ RelV p.2 q.2.2) kvs xs ∧
      ∃ o es ep, h.get? a = some o ∧ o.ExactDict ∧ o.data = .dict es ep ∧ es.toList = xs.map (entryOfKey (tupleKind (mixKind P w))) ∧ (xs.map (·.1)).Nodup
  | .set S n => h.SetOf (intKind P w) a S n
  | .ins C dx fs => H dx = some (.own a) ∧ fs.length ≤ 1000 ∧ dx ≠ a ∧ h.get? a = some (PySem.W.instObj C dx) ∧
      ∃ mA, h.Ns1 dx mA ∧ (∀ f, RelO (fs.lookup f) (mA f)) ∧ PySem.Within mA (fs.map (·.1))
  | .own _ => ∃ o, h.get? a = some o
  | .xd fs => ∃ mA, h.Ns1 a mA ∧ ∀ f, RelO (fs.lookup f) (mA f)
  | .rng lo hi => ∃ t u v, h.get? a = some { cls := .type "range", data := .fields #[.int lo t, .int hi u, .int 1 v] }
  | .frz o u => h.get? a = some o ∧ ObjOk H h a u
  | .tbl ps => h.get? a = some { cls := .none, data := .fields ps }
  | .met f x => h.get? a = some (PySem.W.methodObj (.ref f) (.ref x))
  | .ext φ => φ h ∧ (∃ o, h.get? a = some o) ∧ ∀ h1 h2 : Heap, φ h1 → (∀ o, h1.get? a = some o → h2.get? a = some o) → φ h2
def HOk (H : Hp) (h : Heap) : Prop := ∀ a o, H a = some o → ObjOk P w H h a o
end
section
variable {P : Program} {w : World} {H H' : Hp} {h h' : Heap} {a : Addr} {o : HO}
theorem ObjOk.lt (x : ObjOk P w H h a o) : a < h.objs.size := by
  cases o with
  | lst xs => obtain ⟨_, _, _, _, e⟩ := x; exact Heap.lt_size e
  | tup xs => obtain ⟨_, _, _, p⟩ := x; exact p.lt
  | dK kvs => obtain ⟨_, _, _, _, o, _, _, e, _⟩ := x; exact Heap.lt_size e
  | dT kvs => obtain ⟨_, _, _, _, o, _, _, e, _⟩ := x; exact Heap.lt_size e
  | set S n => obtain ⟨o, _, _, _, e, _⟩ := x; exact Heap.lt_size e
  | ins C dx fs => obtain ⟨_, _, _, e, _⟩ := x; exact Heap.lt_size e
  | own y => obtain ⟨_, e⟩ := x; exact Heap.lt_size e
  | xd fs => obtain ⟨_, ⟨_, _, _, e, _⟩, _⟩ := x; exact Heap.lt_size e
  | rng lo hi => obtain ⟨_, _, _, e⟩ := x; exact Heap.lt_size e
  | frz ob u => obtain ⟨e, _⟩ := x; exact Heap.lt_size e
  | tbl ps => exact Heap.lt_size (show h.get? a = some _ from x)
  | met f y => exact Heap.lt_size (show h.get? a = some _ from x)
  | ext φ => obtain ⟨_, ⟨_, e⟩, _⟩ := x; exact Heap.lt_size e
theorem Paired.mapP {α β : Type} {F G : α → β → Prop} : ∀ {l₁ : List α} {l₂ : List β}, Paired F l₁ l₂ → (∀ a b, F a b → G a b) → Paired G l₁ l₂
  | _, _, .nil, _ => .nil
  | _, _, .cons r t, f => .cons (f _ _ r) (Paired.mapP t f)
theorem ObjOk.stay (x : ObjOk P w H h a o) (k : ∀ b u, (b = a ∨ H b = some (.own a)) → h.get? b = some u → h'.get? b = some u)
    (ho : ∀ b, H b = some (.own a) → H' b = some (.own a)) (ht : ∀ b xs, H b = some (.tup xs) → H' b = some (.tup xs)) : ObjOk P w H' h' a o := by
  induction o with
  | lst xs => obtain ⟨z, its, n, r, e⟩ := x; exact ⟨z, its, n, r, k _ _ (.inl rfl) e⟩
  | tup xs => obtain ⟨z, its, r, ob, e, c⟩ := x; exact ⟨z, its, r, ob, k _ _ (.inl rfl) e, c⟩
  | dK kvs => obtain ⟨z, y, vs, r, ob, es, ep, e, c⟩ := x; exact ⟨z, y, vs, r, ob, es, ep, k _ _ (.inl rfl) e, c⟩
  | dT kvs =>
    obtain ⟨z, y, xs, r, ob, es, ep, e, c⟩ := x
    exact ⟨z, y, xs, Paired.mapP r fun p q z => ⟨z.1, ht _ _ z.2.1, z.2.2⟩, ob, es, ep, k _ _ (.inl rfl) e, c⟩
  | set S n => obtain ⟨ob, es, ep, t, e, c⟩ := x; exact ⟨ob, es, ep, t, k _ _ (.inl rfl) e, c⟩
  | ins C dx fs =>
    obtain ⟨d, z, ne, e, mA, ⟨od, es, ep, e2, c⟩, r⟩ := x
    exact ⟨ho _ d, z, ne, k _ _ (.inl rfl) e, mA, ⟨od, es, ep, k _ _ (.inr d) e2, c⟩, r⟩
  | own y => obtain ⟨ob, e⟩ := x; exact ⟨ob, k _ _ (.inl rfl) e⟩
  | xd fs => obtain ⟨mA, ⟨od, es, ep, e, c⟩, r⟩ := x; exact ⟨mA, ⟨od, es, ep, k _ _ (.inl rfl) e, c⟩, r⟩
  | rng lo hi => obtain ⟨t, u, v, e⟩ := x; exact ⟨t, u, v, k _ _ (.inl rfl) e⟩
  | frz ob u ih => obtain ⟨e, q⟩ := x; exact ⟨k _ _ (.inl rfl) e, ih q⟩
  | tbl ps =>
    have e : h.get? a = some { cls := .none, data := .fields ps } := x
    show h'.get? a = some { cls := .none, data := .fields ps }
    exact k a _ (.inl rfl) e
  | met f y =>
    have e : h.get? a = some (PySem.W.methodObj (.ref f) (.ref y)) := x
    show h'.get? a = some (PySem.W.methodObj (.ref f) (.ref y))
    exact k a _ (.inl rfl) e
  | ext φ => obtain ⟨p, ⟨o, e⟩, st⟩ := x; exact ⟨st _ _ p fun o q => k _ _ (.inl rfl) q, ⟨o, k _ _ (.inl rfl) e⟩, st⟩
theorem HOk.lt (x : HOk P w H h) (e : H a = some o) : a < h.objs.size := (x a o e).lt
theorem HOk.fresh (x : HOk P w H h) (e : h.objs.size ≤ a) : H a = none := by
  cases q : H a with
  | none => rfl
  | some u => exact absurd (Nat.lt_of_lt_of_le (x.lt q) e) (Nat.lt_irrefl _)
theorem HOk.kept (x : HOk P w H h) (k : ∀ b u, h.get? b = some u → h'.get? b = some u) : HOk P w H h' := fun a o e =>
  (x a o e).stay (fun b u _ q => k b u q) (fun _ q => q) fun _ _ q => q
theorem HOk.laid (x : HOk P w H h) (k : ∀ b u, h.get? b = some u → h'.get? b = some u) (hp : h.objs.size ≤ a) (new : ObjOk P w (upd H a o) h' a o) : HOk P w (upd H a o) h' := fun b u e => by
  have hn := x.fresh hp
  by_cases hb : b = a
  · subst hb; rw [upd_same] at e; cases e; exact new
  · rw [upd_ne hb] at e
    exact (x b u e).stay (fun c v _ q => k c v q) (fun c q => by rw [upd_ne (ne_of_none q hn)]; exact q) fun c xs q => by rw [upd_ne (ne_of_none q hn)]; exact q
end
def Rd (H : Hp) (a : Addr) (u : HO) : Prop := H a = some u ∨ ∃ o, H a = some (.frz o u)
theorem Rd.of {H : Hp} {a : Addr} {u : HO} (h : H a = some u) : Rd H a u := .inl h
theorem Rd.ok {P : Program} {w : World} {H : Hp} {h : Heap} {a : Addr} {u : HO} (r : Rd H a u) (x : HOk P w H h) : ObjOk P w H h a u := by
  rcases r with r | ⟨o, r⟩
  · exact x a u r
  · obtain ⟨_, q⟩ := x a _ r
    exact q
def Mut : Option HO → Prop
  | some (.lst _) => True
  | some (.dK _) => True
  | some (.dT _) => True
  | some (.set _ _) => True
  | some (.ins _ _ _) => True
  | some (.ext _) => True
  | _ => False
section
variable {P : Program} {w : World} {H : Hp} {h h' : Heap} {x e : Addr} {o' : HO}
theorem HOk.write (ok : HOk P w H h) (mu : Mut (H x)) (he : e = x ∨ H e = some (.own x)) (k : ∀ b u, b ≠ e → h.get? b = some u → h'.get? b = some u) (heo : ∃ u, h'.get? e = some u)
    (new : ObjOk P w (upd H x o') h' x o') : HOk P w (upd H x o') h' := fun b u q => by
  have nown : ∀ c y, H c = some (.own y) → c ≠ x := fun c y r z => by subst z; rw [r] at mu; exact mu
  have ntup : ∀ c xs, H c = some (.tup xs) → c ≠ x := fun c xs r z => by subst z; rw [r] at mu; exact mu
  by_cases hb : b = x
  · subst hb; rw [upd_same] at q; cases q; exact new
  · rw [upd_ne hb] at q
    by_cases hbe : b = e
    · have q' : H b = some (.own x) := by
        rcases he with z | z
        · exact absurd (hbe.trans z) hb
        · rw [hbe]; exact z
      rw [q] at q'; cases q'
      obtain ⟨v, hv⟩ := heo
      exact ⟨v, by rw [hbe]; exact hv⟩
    · refine (ok b u q).stay (fun c v hc r => k c v ?_ r) (fun c r => by rw [upd_ne (nown c b r)]; exact r) fun c xs r => by rw [upd_ne (ntup c xs r)]; exact r
      rcases hc with rfl | hc
      · exact hbe
      · rintro rfl
        rcases he with z | z
        · exact nown c b hc z
        · rw [hc] at z; cases z; exact hb rfl
end
structure Un (fs ex : List Addr) (H H' : Hp) (h h' : Heap) : Prop where
  keep : ∀ b o, h.get? b = some o → H b = none → b ∉ fs → b ∉ ex → h'.get? b = some o
  slot : ∀ b o, h.get? b = some o → H b = none → b ∈ fs → b ∉ ex → ∃ sl, h'.get? b = some { o with slots := sl }
  free : ∀ b o, h.get? b = some o → H b = none → b ∉ ex → H' b = none
  there : ∀ b o, h.get? b = some o → b ∉ ex → ∃ o', h'.get? b = some o'
  tups : ∀ b xs, H b = some (.tup xs) → H' b = some (.tup xs)
  frzs : ∀ b o u, H b = some (.frz o u) → H' b = some (.frz o u)
  tbls : ∀ b ps, H b = some (.tbl ps) → ∃ more, H' b = some (.tbl (ps ++ more))
section
variable {fs fs' ex ex' : List Addr} {H H1 H2 : Hp} {h h1 h2 h' : Heap} {a x e : Addr} {o : HO}
theorem Un.any (u : Un fs ex H H1 h h1) {b : Addr} {ob : Obj} (q : h.get? b = some ob) (n : H b = none) (hx : b ∉ ex) : ∃ sl, h1.get? b = some { ob with slots := sl } := by
  by_cases hb : b ∈ fs
  · exact u.slot b ob q n hb hx
  · exact ⟨ob.slots, u.keep b ob q n hb hx⟩
theorem Un.trans (a : Un fs ex H H1 h h1) (b : Un fs ex H1 H2 h1 h2) : Un fs ex H H2 h h2 where
  keep := fun c ob q n hc hx => b.keep c ob (a.keep c ob q n hc hx) (a.free c ob q n hx) hc hx
  slot := fun c ob q n hc hx => by
    obtain ⟨sl, e1⟩ := a.slot c ob q n hc hx
    obtain ⟨sl', e2⟩ := b.slot c _ e1 (a.free c ob q n hx) hc hx
    exact ⟨sl', e2⟩
  free := fun c ob q n hx => by
    obtain ⟨o', e1⟩ := a.there c ob q hx
    exact b.free c o' e1 (a.free c ob q n hx) hx
  there := fun c ob q hx => by
    obtain ⟨o', e1⟩ := a.there c ob q hx
    exact b.there c o' e1 hx
  tups := fun c xs q => b.tups c xs (a.tups c xs q)
  frzs := fun c ob xs q => b.frzs c ob xs (a.frzs c ob xs q)
  tbls := fun c ps q => by
    obtain ⟨m1, e1⟩ := a.tbls c ps q
    obtain ⟨m2, e2⟩ := b.tbls c _ e1
    exact ⟨m1 ++ m2, by rw [e2, Array.append_assoc]⟩
theorem Un.kept (k : ∀ b u, h.get? b = some u → h'.get? b = some u) : Un fs ex H H h h' :=
  ⟨fun b ob q _ _ _ => k b ob q, fun b ob q _ _ _ => ⟨ob.slots, k b ob q⟩, fun _ _ _ n _ => n, fun b ob q _ => ⟨ob, k b ob q⟩, fun _ _ q => q, fun _ _ _ q => q, fun _ ps q => ⟨#[], by rw [q]; simp⟩⟩
theorem Un.refl : Un fs ex H H h h := Un.kept fun _ _ q => q
theorem Un.laid (k : ∀ b u, h.get? b = some u → h'.get? b = some u) (hp : h.objs.size ≤ a) (hn : H a = none) : Un fs ex H (upd H a o) h h' where
  keep := fun b u q _ _ _ => k b u q
  slot := fun b u q _ _ _ => ⟨u.slots, k b u q⟩
  free := fun b u q n _ => by rw [upd_ne (Nat.ne_of_lt (Nat.lt_of_lt_of_le (Heap.lt_size q) hp))]; exact n
  there := fun b u q _ => ⟨u, k b u q⟩
  tups := fun b xs q => by rw [upd_ne (ne_of_none q hn)]; exact q
  frzs := fun b u xs q => by rw [upd_ne (ne_of_none q hn)]; exact q
  tbls := fun b ps q => ⟨#[], by rw [upd_ne (ne_of_none q hn), q]; simp⟩
theorem Un.write (mu : Mut (H x)) (he : e = x ∨ H e = some (.own x)) (k : ∀ b u, b ≠ e → h.get? b = some u → h'.get? b = some u) (heo : ∃ u, h'.get? e = some u) : Un fs ex H (upd H x o) h h' := by
  have hx : ∀ b, H b = none → b ≠ x := fun b n z => by subst z; rw [n] at mu; exact mu
  have hb : ∀ b, H b = none → b ≠ e := fun b n z => by
    subst z
    rcases he with r | r
    · exact hx b n r
    · rw [n] at r; cases r
  have hm : ∀ b u, H b = some u → ¬ Mut (some u) → b ≠ x := fun b u q nm z => by subst z; rw [q] at mu; exact nm mu
  refine ⟨fun b u q n _ _ => k b u (hb b n) q, fun b u q n _ _ => ⟨u.slots, k b u (hb b n) q⟩, fun b u q n _ => by rw [upd_ne (hx b n)]; exact n, fun b u q _ => ?_,
    fun b xs q => by rw [upd_ne (hm b _ q fun z => z)]; exact q, fun b u xs q => by rw [upd_ne (hm b _ q fun z => z)]; exact q, fun b ps q => ⟨#[], by rw [upd_ne (hm b _ q fun z => z), q]; simp⟩⟩
  by_cases hbe : b = e
  · subst hbe; exact heo
  · exact ⟨u, k b u hbe q⟩
theorem Un.mono (u : Un fs ex H H1 h h1) (hs : ∀ b ∈ fs, b ∈ fs') (hx : ∀ b ∈ ex, b ∈ ex') : Un fs' ex' H H1 h h1 :=
  ⟨fun b ob q n hb he => u.keep b ob q n (fun z => hb (hs b z)) fun z => he (hx b z), fun _ _ q n _ he => u.any q n fun z => he (hx _ z), fun b ob q n he => u.free b ob q n fun z => he (hx b z), fun b ob q he => u.there b ob q fun z => he (hx b z), u.tups, u.frzs, u.tbls⟩
end
def trk (h : Heap) (H : Hp) : List Addr := (List.range h.objs.size).filter fun a => (H a).isSome
def hidT (h : Heap) (H : Hp) : Heap := PySem.W.hideAll h (trk h H)
theorem hidT_size (h : Heap) (H : Hp) : (hidT h H).objs.size = h.objs.size := PySem.W.hideAll_size _ _
theorem hidT_get {h : Heap} {H : Hp} {b : Addr} {o : Obj} (e : h.get? b = some o) (n : H b = none) : (hidT h H).get? b = some o :=
  PySem.W.hideAll_get _ e fun hm => by
    have q : (H b).isSome = true := (List.mem_filter.mp hm).2
    rw [n] at q; simp at q
theorem of_hidT {h : Heap} {H : Hp} {b : Addr} {o : Obj} (e : (hidT h H).get? b = some o) : h.get? b = some o ∧ H b = none := by
  have e' : h.get? b = some o := PySem.W.of_hideAll (trk h H) e
  refine ⟨e', ?_⟩
  cases q : H b with
  | none => rfl
  | some x =>
    have hm : b ∈ trk h H := List.mem_filter.mpr ⟨List.mem_range.mpr (Heap.lt_size e'), by simp [q]⟩
    have z : (hidT h H).get? b = none := PySem.W.hideAll_none (trk h H) hm
    rw [z] at e; cases e
def allNews (g h : Heap) (L : Addr) : List (Addr × Obj) := (List.range h.objs.size).filterMap fun a => if a = L ∨ (g.get? a).isSome = true then none else (h.get? a).map fun o => (a, o)
def rest (g h : Heap) (L d : Addr) : List (Addr × Obj) := (allNews g h L).filter fun p => decide (p.1 ≠ d)
end L2
namespace L2
open PySem PySem.Spec PyProof.Rows
structure Mod (K : PySem.W.Frag) (mg : Str → Option Value) (base : Heap) : Prop where
  kin : K.In base
  glob : base.Ns mainGlobals mg
  blt : ∃ mb, base.Ns builtinsNs mb ∧ ∀ x : Str, x ≠ "__name__" → mb x = bootBuiltins x
  nolimit : base.NoLimit
structure Cx where
  prog : Program
  w : World
  K : PySem.W.Frag
  mg : Str → Option Value
  base : Heap
  A : Around
  N : List Str
  s₀ : Shared
  H₀ : Hp
  env : Env
  outer : List Env
  stack : List Env
  ex : List Addr
  fn : Str → Bool
  calm : Bool
  pn : List (Addr × Obj)
  xe : Value → Shared → Prop
def frs (l : List Env) : List Addr := l.filterMap (·.frame)
abbrev Cx.fs (X : Cx) : List Addr := frs X.outer
def Vis (sc : Scope) (x : Str) : Prop := sc.names.lookup x = some .local ∨ sc.names.lookup x = some .cell ∨ sc.names.lookup x = some .free
def Loc (sc : Scope) (x : Str) : Prop := sc.names.lookup x = some .local ∨ sc.names.lookup x = some .cell
def Look (env : Env) (h : Heap) (m : Str → Option Value) (x : Str) (u : Value) : Prop :=
  (env.kindOf x = some .local ∧ m x = some u) ∨ ((env.kindOf x = some .cell ∨ env.kindOf x = some .free) ∧ ∃ c, env.cells.lookup x = some c ∧ h.IsCell c (some u))
structure Cx.Ok (X : Cx) : Prop where
  mod : Mod X.K X.mg X.base
  kind : X.env.scope.kind = .function
  glob : X.env.globals = mainGlobals
  blt : X.env.builtins = builtinsNs
  above : X.s₀.heap.objs.size ≤ X.env.locals
  inj : ∀ x y c, X.env.cells.lookup x = some c → X.env.cells.lookup y = some c → x = y
  has : ∀ x, (X.env.kindOf x = some .cell ∨ X.env.kindOf x = some .free) → ∃ c, X.env.cells.lookup x = some c
  cab : ∀ x c, X.fn x = true → X.env.cells.lookup x = some c → X.s₀.heap.objs.size ≤ c
  hd : X.calm = true → X.A.handled = none
  frames : X.A.frames = some X.stack
  stk : X.stack = X.outer ∨ (X.stack = X.env :: X.outer ∧ X.env.frame = some X.env.locals)
  exf : ∀ b ∈ X.ex, b ≠ X.env.locals ∧ ∀ x c, X.env.cells.lookup x = some c → c ≠ b
  bs : ∀ b o, X.base.get? b = some o → X.s₀.heap.get? b = some o ∧ X.H₀ b = none
  bsz : X.base.objs.size ≤ X.s₀.heap.objs.size
  noex : ∀ b o, X.base.get? b = some o → b ∉ X.ex
  exfs : ∀ b ∈ X.ex, b ∉ X.fs
  funs : X.s₀.heap.FunFrames X.base X.outer
  frf : ∀ b ∈ X.fs, X.H₀ b = none
structure Inv (X : Cx) (pins : List (Addr × Obj)) (σ : List (Option V)) (H : Hp) (s : Shared) : Prop where
  ok : X.Ok
  os : s.os = X.s₀.os
  bare : AllBare s.gens
  base : Un X.fs X.ex X.H₀ H X.s₀.heap s.heap
  loc : ∃ m, s.heap.Ns X.env.locals m ∧ ∀ (i : Nat) (x : Str) (v : V), X.N[i]? = some x → σ[i]? = some (some v) → Vis X.env.scope x → ∃ u, RelV v u ∧ Look X.env s.heap m x u
  cell : ∀ x c, X.env.cells.lookup x = some c → ∃ v, s.heap.IsCell c v
  free : H X.env.locals = none
  freeC : ∀ x c, X.env.cells.lookup x = some c → H c = none
  pin : ∀ p ∈ X.pn ++ pins, s.heap.get? p.1 = some p.2 ∧ H p.1 = none ∧ p.1 ≠ X.env.locals ∧ p.1 ∉ X.fs ∧ ∀ v, p.2.data ≠ .cell v
  hok : HOk X.prog X.w H s.heap
  len : σ.length = X.N.length
section
variable {X : Cx} {pins : List (Addr × Obj)} {σ : List (Option V)} {H H' : Hp} {s : Shared} {h' : Heap}
theorem Cx.Ok.nofr (ok : X.Ok) {b : Addr} {o : Obj} (e : X.base.get? b = some o) : b ∉ X.fs := fun hb => by
  have := (ok.funs.mem hb).1
  rw [e] at this; cases this
theorem Inv.bs (I : Inv X pins σ H s) : ∀ b o, X.base.get? b = some o → s.heap.get? b = some o ∧ H b = none := fun b o e =>
  ⟨I.base.keep b o (I.ok.bs b o e).1 (I.ok.bs b o e).2 (I.ok.nofr e) (I.ok.noex b o e), I.base.free b o (I.ok.bs b o e).1 (I.ok.bs b o e).2 (I.ok.noex b o e)⟩
theorem Inv.bk (I : Inv X pins σ H s) : ∀ b o, X.base.get? b = some o → s.heap.get? b = some o := fun b o e => (I.bs b o e).1
theorem Inv.mod (I : Inv X pins σ H s) : Mod X.K X.mg X.base := I.ok.mod
theorem Inv.kIn (I : Inv X pins σ H s) : X.K.In s.heap := I.ok.mod.kin.keeps I.bk
theorem Inv.nolimit (I : Inv X pins σ H s) : s.heap.NoLimit := I.ok.mod.nolimit.keeps I.bk
theorem Inv.lt (I : Inv X pins σ H s) : X.env.locals < s.heap.objs.size := let ⟨_, hn, _⟩ := I.loc; hn.lt
theorem Inv.sz (I : Inv X pins σ H s) : X.s₀.heap.objs.size ≤ s.heap.objs.size := Nat.le_trans I.ok.above (Nat.le_of_lt I.lt)
theorem Inv.nofs (I : Inv X pins σ H s) {a : Addr} (h : s.heap.objs.size ≤ a) : a ∉ X.fs := fun hb => by
  obtain ⟨_, o, ho, _⟩ := I.ok.funs.mem hb
  exact absurd (Nat.lt_of_lt_of_le (Heap.lt_size ho) (Nat.le_trans I.sz h)) (Nat.lt_irrefl _)
theorem Inv.cne (I : Inv X pins σ H s) : ∀ x c, X.env.cells.lookup x = some c → c ≠ X.env.locals := fun x c e z => by
  obtain ⟨v, o, ho, hd⟩ := I.cell x c e
  obtain ⟨m, ⟨o', es, ep, ho', hd', _⟩, _⟩ := I.loc
  rw [z, ho'] at ho; cases ho; rw [hd'] at hd; cases hd
theorem Inv.funs (I : Inv X pins σ H s) : s.heap.FunFrames X.base X.outer := by
  have all : ∀ (l : List Env), (∀ b ∈ frs l, b ∈ X.fs) → X.s₀.heap.FunFrames X.base l → s.heap.FunFrames X.base l := by
    intro l
    induction l with
    | nil => intro _ _; trivial
    | cons env r ih =>
      intro hs hl
      obtain ⟨hk, ⟨L, o, hf, hn, ho, hd⟩, hr⟩ := hl
      have hL : L ∈ X.fs := hs L (by unfold frs; rw [List.filterMap_cons, hf]; exact List.mem_cons_self)
      obtain ⟨sl, e⟩ := I.base.slot L o ho (I.ok.frf L hL) hL fun z => I.ok.exfs L z hL
      exact ⟨hk, ⟨L, _, hf, hn, e, hd⟩, ih (fun b hb => hs b (by unfold frs; rw [List.filterMap_cons, hf]; exact List.mem_cons_of_mem _ hb)) hr⟩
  exact all X.outer (fun _ hb => hb) I.ok.funs
theorem Inv.stack (I : Inv X pins σ H s) : s.heap.FunFrames X.base X.stack := by
  rcases I.ok.stk with e | ⟨e, hf⟩
  · rw [e]; exact I.funs
  · rw [e]
    obtain ⟨m, hn, _⟩ := I.loc
    refine .cons (by rw [I.ok.kind]; decide) hf hn ?_ I.funs
    exact Heap.get?_none_of_le (Nat.le_trans I.ok.bsz I.ok.above)
theorem Inv.stkSub (I : Inv X pins σ H s) : ∀ b ∈ frs X.stack, b ∈ X.env.locals :: X.fs := fun b hb => by
  rcases I.ok.stk with e | ⟨e, hf⟩
  · rw [e] at hb; exact List.mem_cons_of_mem _ hb
  · rw [e] at hb
    unfold frs at hb
    rw [List.filterMap_cons, hf] at hb
    exact hb
theorem Inv.stkFree (I : Inv X pins σ H s) : ∀ b ∈ frs X.stack, H b = none := fun b hb => by
  rcases List.mem_cons.mp (I.stkSub b hb) with e | hb
  · rw [e]; exact I.free
  · obtain ⟨_, o, ho, _⟩ := I.ok.funs.mem hb
    exact I.base.free b o ho (I.ok.frf b hb) fun z => I.ok.exfs b z hb
theorem Inv.step {g' : Array GenState} {t' : Nat} {d' : Drawn} {ch : List Addr} (I : Inv X pins σ H s)
    (hch : ∀ b ∈ ch, (b ∈ X.ex ∨ X.s₀.heap.objs.size ≤ b) ∧ b ≠ X.env.locals ∧ (∀ x c, X.env.cells.lookup x = some c → c ≠ b) ∧ ∀ p ∈ X.pn ++ pins, p.1 ≠ b)
    (keep : ∀ b o, b ≠ X.env.locals → b ∉ X.fs → b ∉ ch → s.heap.get? b = some o → H b = none → h'.get? b = some o)
    (slot : ∀ b o, b ≠ X.env.locals → b ∈ X.fs → b ∉ ch → s.heap.get? b = some o → H b = none → ∃ sl, h'.get? b = some { o with slots := sl }) (free : ∀ b o, b ∉ ch → s.heap.get? b = some o → H b = none → H' b = none)
    (there : ∀ b o, b ∉ ch → s.heap.get? b = some o → ∃ o', h'.get? b = some o')
    (tups : ∀ b xs, H b = some (.tup xs) → H' b = some (.tup xs)) (frzs : ∀ b o u, H b = some (.frz o u) → H' b = some (.frz o u)) (tbls : ∀ b ps, H b = some (.tbl ps) → ∃ more, H' b = some (.tbl (ps ++ more)))
    (ns : ∀ m, s.heap.Ns X.env.locals m → h'.Ns X.env.locals m) (hok : HOk X.prog X.w H' h') (hg : AllBare g') :
    Inv X pins σ H' { s with heap := h', gens := g', drawn := d', toks := t' } := by
  have neL : ∀ b o, X.s₀.heap.get? b = some o → b ≠ X.env.locals := fun b o e => Nat.ne_of_lt (Nat.lt_of_lt_of_le (Heap.lt_size e) I.ok.above)
  have neC : ∀ b o, X.s₀.heap.get? b = some o → b ∉ X.ex → b ∉ ch := fun b o e hx hb => by
    rcases (hch b hb).1 with z | z
    · exact hx z
    · exact absurd (Nat.lt_of_lt_of_le (Heap.lt_size e) z) (Nat.lt_irrefl _)
  have cellK : ∀ x c, X.env.cells.lookup x = some c → ∀ v, s.heap.IsCell c v → h'.IsCell c v := fun x c e v ⟨o, ho, hd⟩ => by
    have nch : c ∉ ch := fun z => (hch c z).2.2.1 x c e rfl
    by_cases hc : c ∈ X.fs
    · obtain ⟨sl, q⟩ := slot c o (I.cne x c e) hc nch ho (I.freeC x c e)
      exact ⟨_, q, hd⟩
    · exact ⟨o, keep c o (I.cne x c e) hc nch ho (I.freeC x c e), hd⟩
  refine ⟨I.ok, I.os, hg, ⟨fun b o e n hb hx => ?_, fun b o e n hb hx => ?_, fun b o e n hx => ?_, fun b o e hx => ?_, fun b xs e => tups b xs (I.base.tups b xs e), fun b o xs e => frzs b o xs (I.base.frzs b o xs e), fun b ps e => ?_⟩, ?_, fun x c e => ?_, ?_, fun x c e => ?_, fun p hp => ?_, hok, I.len⟩
  · exact keep b o (neL b o e) hb (neC b o e hx) (I.base.keep b o e n hb hx) (I.base.free b o e n hx)
  · obtain ⟨sl, e1⟩ := I.base.slot b o e n hb hx
    obtain ⟨sl', e2⟩ := slot b _ (neL b o e) hb (neC b o e hx) e1 (I.base.free b o e n hx)
    exact ⟨sl', e2⟩
  · obtain ⟨o', e1⟩ := I.base.there b o e hx
    exact free b o' (neC b o e hx) e1 (I.base.free b o e n hx)
  · obtain ⟨o', e1⟩ := I.base.there b o e hx
    exact there b o' (neC b o e hx) e1
  · obtain ⟨m1, e1⟩ := I.base.tbls b ps e
    obtain ⟨m2, e2⟩ := tbls b _ e1
    exact ⟨m1 ++ m2, by rw [e2, Array.append_assoc]⟩
  · obtain ⟨m, hn, hl⟩ := I.loc
    refine ⟨m, ns m hn, fun i x v e1 e2 e3 => ?_⟩
    obtain ⟨u, r, l⟩ := hl i x v e1 e2 e3
    refine ⟨u, r, ?_⟩
    rcases l with l | ⟨k, c, e, z⟩
    · exact .inl l
    · exact .inr ⟨k, c, e, cellK x c e _ z⟩
  · obtain ⟨v, z⟩ := I.cell x c e
    exact ⟨v, cellK x c e v z⟩
  · obtain ⟨m, ⟨o, _, _, ho, _⟩, _⟩ := I.loc
    exact free _ o (fun z => (hch _ z).2.1 rfl) ho I.free
  · obtain ⟨v, o, ho, hd⟩ := I.cell x c e
    exact free c o (fun z => (hch c z).2.2.1 x c e rfl) ho (I.freeC x c e)
  · obtain ⟨e, n, ne, nf, d⟩ := I.pin p hp
    have nch : p.1 ∉ ch := fun z => (hch p.1 z).2.2.2 p hp rfl
    exact ⟨keep p.1 p.2 ne nf nch e n, free p.1 p.2 nch e n, ne, nf, d⟩
theorem Inv.un {t' : Nat} (I : Inv X pins σ H s) (u : Un X.fs [] H H' s.heap h') (hok : HOk X.prog X.w H' h') : Inv X pins σ H' { s with heap := h', toks := t' } := by
  obtain ⟨m, ⟨o, es, ep, ho, r⟩, _⟩ := id I.loc
  obtain ⟨sl, hL⟩ := u.any ho I.free (by simp)
  exact I.step (g' := s.gens) (d' := s.drawn) (ch := []) (fun _ z => nomatch z) (fun b o _ hb _ e n => u.keep b o e n hb (by simp)) (fun b o _ hb _ e n => u.slot b o e n hb (by simp)) (fun b o _ e n => u.free b o e n (by simp)) (fun b o _ e => u.there b o e (by simp)) u.tups u.frzs u.tbls (fun m' hm => by
    obtain ⟨o', es', ep', ho', r'⟩ := hm
    rw [ho] at ho'; cases ho'
    exact ⟨_, es', ep', hL, r'⟩) hok I.bare
theorem Inv.call {g' : Array GenState} {t' : Nat} {d' : Drawn} {ch : List Addr} (I : Inv X pins σ H s) (u : Un (frs X.stack) ch H H' s.heap h') (hok : HOk X.prog X.w H' h') (hg : AllBare g')
    (hch : ∀ b ∈ ch, (b ∈ X.ex ∨ X.s₀.heap.objs.size ≤ b) ∧ b ≠ X.env.locals ∧ (∀ x c, X.env.cells.lookup x = some c → c ≠ b) ∧ ∀ p ∈ X.pn ++ pins, p.1 ≠ b) :
    Inv X pins σ H' { s with heap := h', gens := g', drawn := d', toks := t' } := by
  obtain ⟨m, ⟨o, es, ep, ho, r⟩, _⟩ := id I.loc
  obtain ⟨sl, hL⟩ := u.any ho I.free fun z => (hch _ z).2.1 rfl
  exact I.step (ch := ch) hch (fun b o hL hb hc e n => u.keep b o e n (fun z => (List.mem_cons.mp (I.stkSub b z)).elim hL hb) hc) (fun b o _ _ hc e n => u.any e n hc) (fun b o hc e n => u.free b o e n hc) (fun b o hc e => u.there b o e hc) u.tups u.frzs u.tbls (fun m' hm => by
    obtain ⟨o', es', ep', ho', r'⟩ := hm
    rw [ho] at ho'; cases ho'
    exact ⟨_, es', ep', hL, r'⟩) hok hg
theorem Inv.turned {t' : Nat} {it : Addr} (I : Inv X pins σ H s) (k : ∀ b o, b ≠ it → s.heap.get? b = some o → h'.get? b = some o) (hn : H it = none) (hL : it ≠ X.env.locals)
    (h1 : it ∈ X.ex ∨ X.s₀.heap.objs.size ≤ it) (h2 : ∀ x c, X.env.cells.lookup x = some c → c ≠ it) (h3 : ∀ p ∈ X.pn ++ pins, p.1 ≠ it) : Inv X pins σ H { s with heap := h', toks := t' } := by
  have nit : ∀ b u, H b = some u → b ≠ it := fun b u e z => by rw [z, hn] at e; cases e
  refine I.step (g' := s.gens) (d' := s.drawn) (ch := [it]) (fun b hb => ?_) (fun b o _ _ hc e _ => k b o (fun z => hc (by simp [z])) e) (fun b o _ _ hc e _ => ⟨o.slots, k b o (fun z => hc (by simp [z])) e⟩) (fun _ _ _ _ n => n)
    (fun b o hc e => ⟨o, k b o (fun z => hc (by simp [z])) e⟩) (fun _ _ e => e) (fun _ _ _ e => e) (fun b ps e => ⟨#[], by rw [e]; simp⟩) (fun m hm => ?_) (fun b u e => ?_) I.bare
  · have e : b = it := by simpa using hb
    subst e
    exact ⟨h1, hL, h2, h3⟩
  · obtain ⟨o, es, ep, ho, r⟩ := hm
    exact ⟨o, es, ep, k _ o (Ne.symm hL) ho, r⟩
  · refine (I.hok b u e).stay (fun c v hc q => k c v ?_ q) (fun _ q => q) fun _ _ q => q
    rcases hc with z | z
    · rw [z]; exact nit b u e
    · exact nit c _ z
theorem Inv.tok (I : Inv X pins σ H s) (t : Nat) : Inv X pins σ H { s with toks := t } := I.un (h' := s.heap) (t' := t) Un.refl I.hok
theorem Inv.kept {t' : Nat} (I : Inv X pins σ H s) (k : ∀ b u, s.heap.get? b = some u → h'.get? b = some u) : Inv X pins σ H { s with heap := h', toks := t' } := I.un (Un.kept k) (I.hok.kept k)
theorem Inv.laid {a : Addr} {o : HO} {t' : Nat} (I : Inv X pins σ H s) (k : ∀ b u, s.heap.get? b = some u → h'.get? b = some u) (hp : s.heap.objs.size ≤ a) (new : ObjOk X.prog X.w (upd H a o) h' a o) :
    Inv X pins σ (upd H a o) { s with heap := h', toks := t' } := I.un (Un.laid k hp (I.hok.fresh hp)) (I.hok.laid k hp new)
theorem Inv.write {x e : Addr} {o : HO} {t' : Nat} (I : Inv X pins σ H s) (mu : Mut (H x)) (he : e = x ∨ H e = some (.own x)) (k : ∀ b u, b ≠ e → s.heap.get? b = some u → h'.get? b = some u) (heo : ∃ u, h'.get? e = some u)
    (new : ObjOk X.prog X.w (upd H x o) h' x o) : Inv X pins σ (upd H x o) { s with heap := h', toks := t' } := I.un (Un.write mu he k heo) (I.hok.write mu he k heo new)
theorem Inv.pins_of {pins' : List (Addr × Obj)} (I : Inv X pins σ H s) (h : ∀ p ∈ pins', s.heap.get? p.1 = some p.2 ∧ H p.1 = none ∧ p.1 ≠ X.env.locals ∧ p.1 ∉ X.fs ∧ ∀ v, p.2.data ≠ .cell v) : Inv X pins' σ H s :=
  ⟨I.ok, I.os, I.bare, I.base, I.loc, I.cell, I.free, I.freeC, fun p hp => (List.mem_append.mp hp).elim (fun z => I.pin p (List.mem_append_left _ z)) (h p), I.hok, I.len⟩
theorem nodup_ix {N : List Str} (hN : N.Nodup) {i j : Nat} {x : Str} (a : N[i]? = some x) (b : N[j]? = some x) : i = j := by
  obtain ⟨h1, e1⟩ := List.getElem?_eq_some_iff.mp a
  obtain ⟨h2, e2⟩ := List.getElem?_eq_some_iff.mp b
  exact (List.getElem_inj hN).mp (e1.trans e2.symm)
theorem store_ok2 {M : Model} {A : Around} {E : Value → Shared → Prop} {i : Nat} {x : Str} {v : V} {u : Value} {Q : Unit → Shared → Prop} (I : Inv X pins σ H s) (hN : X.N.Nodup) (hi : X.N[i]? = some x) (hx : Loc X.env.scope x) (r : RelV v u)
    (h : ∀ s', Inv X pins (σ.set i (some v)) H s' → (∃ a, Heap.SameBut a s.heap s'.heap ∧ (a = X.env.locals ∨ X.env.cells.lookup x = some a)) → Q () s') (hf : X.fn x = true ∨ X.env.scope.names.lookup x = some .local := by first | exact .inl rfl | exact .inr rfl | assumption) : wpAny M A (storeName X.env x u) Q E s := by
  obtain ⟨m, hn, hl⟩ := id I.loc
  have hcls : (X.env.scope.kind == .class || (X.env.scope.kind == .module && X.env.locals != X.env.globals)) = false := by rw [I.ok.kind]; rfl
  have hiσ : i < σ.length := by rw [I.len]; exact (List.getElem?_eq_some_iff.mp hi).1
  have cne := I.cne
  have tracked : ∀ {a : Addr} {h' : Heap}, (∃ o, s.heap.get? a = some o ∧ H a = none) → Heap.SameBut a s.heap h' → HOk X.prog X.w H h' := fun {a h'} ha hs b ob e => by
    obtain ⟨_, _, hfree⟩ := ha
    refine (I.hok b ob e).stay (fun c w' hc q => (hs.2 c ?_).trans q) (fun _ q => q) fun _ _ q => q
    rintro rfl
    rcases hc with rfl | hc
    · rw [hfree] at e; cases e
    · rw [hfree] at hc; cases hc
  rcases hx with hk | hk
  · refine wpAny_storeName_local hk hn (fun h' hn' hs => ?_) hcls
    obtain ⟨oL, _, _, hoL, _⟩ := id hn
    refine h _ ⟨I.ok, I.os, I.bare, ⟨fun b o e n hb hx => ?_, fun b o e n hb hx => ?_, I.base.free, fun b o e hx => ?_, I.base.tups, I.base.frzs, I.base.tbls⟩, ⟨_, hn', fun j y v' e1 e2 e3 => ?_⟩, fun y c e => ?_, I.free, I.freeC, fun p hp => ?_, tracked ⟨oL, hoL, I.free⟩ hs, by simpa using I.len⟩ ⟨_, hs, .inl rfl⟩
    · exact (hs.2 b (Nat.ne_of_lt (Nat.lt_of_lt_of_le (Heap.lt_size e) I.ok.above))).trans (I.base.keep b o e n hb hx)
    · obtain ⟨sl, e1⟩ := I.base.slot b o e n hb hx
      exact ⟨sl, (hs.2 b (Nat.ne_of_lt (Nat.lt_of_lt_of_le (Heap.lt_size e) I.ok.above))).trans e1⟩
    · obtain ⟨o', e1⟩ := I.base.there b o e hx
      exact ⟨o', (hs.2 b (Nat.ne_of_lt (Nat.lt_of_lt_of_le (Heap.lt_size e) I.ok.above))).trans e1⟩
    · by_cases hj : j = i
      · subst hj
        rw [hi] at e1; cases e1
        rw [List.getElem?_set_self hiσ] at e2
        cases e2
        exact ⟨u, r, .inl ⟨hk, by simp⟩⟩
      · rw [List.getElem?_set_ne (Ne.symm hj)] at e2
        obtain ⟨u', r', q⟩ := hl j y v' e1 e2 e3
        refine ⟨u', r', ?_⟩
        rcases q with ⟨k, e⟩ | ⟨k, c, e, z⟩
        · refine .inl ⟨k, ?_⟩
          have : y ≠ x := fun e => hj (nodup_ix hN e1 (e ▸ hi))
          simp [this, e]
        · exact .inr ⟨k, c, e, z.sameBut hs (cne y c e)⟩
    · obtain ⟨w', z⟩ := I.cell y c e
      exact ⟨w', z.sameBut hs (cne y c e)⟩
    · obtain ⟨e, n, ne, nf, d⟩ := I.pin p hp
      exact ⟨(hs.2 p.1 ne).trans e, n, ne, nf, d⟩
  · have hfn : X.fn x = true := by
      rcases hf with z | z
      · exact z
      · rw [z] at hk; cases hk
    obtain ⟨c, hc⟩ := I.ok.has x (.inl hk)
    obtain ⟨w', z⟩ := I.cell x c hc
    refine wpAny_storeName_cell I.ok.kind hk hc z (fun h' hc' hs => ?_)
    obtain ⟨oc, hoc, hocd⟩ := id z
    refine h { s with heap := h' } ⟨I.ok, I.os, I.bare, ⟨fun b o e n hb hx => ?_, fun b o e n hb hx => ?_, I.base.free, fun b o e hx => ?_, I.base.tups, I.base.frzs, I.base.tbls⟩, ⟨m, hn.sameBut hs (Ne.symm (cne x c hc)), fun j y v' e1 e2 e3 => ?_⟩, fun y c' e => ?_, I.free, I.freeC, fun p hp => ?_, tracked ⟨oc, hoc, I.freeC x c hc⟩ hs, by simpa using I.len⟩ ⟨c, hs, .inr hc⟩
    · exact (hs.2 b (Nat.ne_of_lt (Nat.lt_of_lt_of_le (Heap.lt_size e) (I.ok.cab x c hfn hc)))).trans (I.base.keep b o e n hb hx)
    · obtain ⟨sl, e1⟩ := I.base.slot b o e n hb hx
      exact ⟨sl, (hs.2 b (Nat.ne_of_lt (Nat.lt_of_lt_of_le (Heap.lt_size e) (I.ok.cab x c hfn hc)))).trans e1⟩
    · obtain ⟨o', e1⟩ := I.base.there b o e hx
      exact ⟨o', (hs.2 b (Nat.ne_of_lt (Nat.lt_of_lt_of_le (Heap.lt_size e) (I.ok.cab x c hfn hc)))).trans e1⟩
    · by_cases hj : j = i
      · subst hj
        rw [hi] at e1; cases e1
        rw [List.getElem?_set_self hiσ] at e2
        cases e2
        exact ⟨u, r, .inr ⟨.inl hk, c, hc, hc'⟩⟩
      · rw [List.getElem?_set_ne (Ne.symm hj)] at e2
        obtain ⟨u', r', q⟩ := hl j y v' e1 e2 e3
        refine ⟨u', r', ?_⟩
        rcases q with q | ⟨k, c', e, z'⟩
        · exact .inl q
        · refine .inr ⟨k, c', e, z'.sameBut hs ?_⟩
          rintro rfl
          exact hj (nodup_ix hN e1 (I.ok.inj _ _ _ e hc ▸ hi))
    · by_cases hcc : c' = c
      · subst hcc; exact ⟨_, hc'⟩
      · obtain ⟨w2, z2⟩ := I.cell y c' e
        exact ⟨w2, z2.sameBut hs hcc⟩
    · obtain ⟨e, n, ne, nf, d⟩ := I.pin p hp
      refine ⟨(hs.2 p.1 ?_).trans e, n, ne, nf, d⟩
      intro q
      rw [q, hoc] at e
      have q' : oc = p.2 := Option.some.inj e
      exact d w' (by rw [← q']; exact hocd)
theorem store_ok {M : Model} {A : Around} {E : Value → Shared → Prop} {i : Nat} {x : Str} {v : V} {u : Value} {Q : Unit → Shared → Prop} (I : Inv X pins σ H s) (hN : X.N.Nodup) (hi : X.N[i]? = some x) (hx : Loc X.env.scope x) (r : RelV v u)
    (h : ∀ s', Inv X pins (σ.set i (some v)) H s' → Q () s') (hf : X.fn x = true ∨ X.env.scope.names.lookup x = some .local := by first | exact .inl rfl | exact .inr rfl | assumption) : wpAny M A (storeName X.env x u) Q E s :=
  store_ok2 I hN hi hx r (fun s' I' _ => h s' I') hf
end
abbrev XK := Value → Option Addr → Hp → Prop
abbrev St := List (Option V)
abbrev VK := V → Hp → Prop
abbrev TE := St → Hp → VK → Prop
abbrev TT := St → Hp → (Bool → Hp → Prop) → Prop
abbrev TA := St → Hp → (List V → Hp → Prop) → Prop
structure Ends where
  nx : St → Hp → Prop
  rt : VK
  bk : St → Hp → Prop := fun _ _ => False
  ct : St → Hp → Prop := fun _ _ => False
abbrev TS := Ends → St → Hp → Prop
def EP (X : Cx) (pins : List (Addr × Obj)) (σ : St) (Q : VK) (u : Value) (s' : Shared) : Prop := ∃ v H', Inv X pins σ H' s' ∧ RelV v u ∧ Q v H'
def TP (X : Cx) (pins : List (Addr × Obj)) (σ : St) (Q : Bool → Hp → Prop) (b : Bool) (s' : Shared) : Prop := ∃ H', Inv X pins σ H' s' ∧ Q b H'
def AP (X : Cx) (pins : List (Addr × Obj)) (σ : St) (Q : List V → Hp → Prop) (us : List Value) (s' : Shared) : Prop := ∃ vs H', Inv X pins σ H' s' ∧ Vals vs us ∧ Q vs H'
def SP (X : Cx) (pins : List (Addr × Obj)) (D : Ends) (f : Flow) (s' : Shared) : Prop :=
  match f with
  | .next => ∃ σ' H', Inv X pins σ' H' s' ∧ D.nx σ' H'
  | .brk => ∃ σ' H', Inv X pins σ' H' s' ∧ D.bk σ' H'
  | .cont => ∃ σ' H', Inv X pins σ' H' s' ∧ D.ct σ' H'
  | .ret u => ∃ v σ' H', Inv X pins σ' H' s' ∧ RelV v u ∧ D.rt v H'
def PE (X : Cx) (e : Expr) (t : TE) : Prop :=
  ∀ (pins : List (Addr × Obj)) (s : Shared) (σ : St) (H : Hp) (Q : VK), Inv X pins σ H s → t σ H Q → wpAny (model X.prog X.w) X.A (eval e X.env) (EP X pins σ Q) X.xe s
def PT (X : Cx) (e : Expr) (t : TT) : Prop :=
  ∀ (pins : List (Addr × Obj)) (s : Shared) (σ : St) (H : Hp) (Q : Bool → Hp → Prop), Inv X pins σ H s → t σ H Q → wpAny (model X.prog X.w) X.A (isTrue e X.env (eval e X.env)) (TP X pins σ Q) X.xe s
def PW (X : Cx) (e : Expr) (t : TT) : Prop :=
  ∀ (whole : Sem Value) (pins : List (Addr × Obj)) (s : Shared) (σ : St) (H : Hp) (Q : Bool → Hp → Prop), Inv X pins σ H s → t σ H Q → wpAny (model X.prog X.w) X.A (isTrue e X.env whole) (TP X pins σ Q) X.xe s
theorem PW.pt {X : Cx} {e : Expr} {t : TT} (h : PW X e t) : PT X e t := h _
def PA (X : Cx) (es : List Expr) (t : TA) : Prop :=
  ∀ (pos : Pos) (pins : List (Addr × Obj)) (s : Shared) (σ : St) (H : Hp) (Q : List V → Hp → Prop), Inv X pins σ H s → t σ H Q → wpAny (model X.prog X.w) X.A (spliced (backTo pos (starEach es X.env))) (AP X pins σ Q) X.xe s
def PS (X : Cx) (st : Stmt) (t : TS) : Prop :=
  ∀ (pins : List (Addr × Obj)) (s : Shared) (σ : St) (H : Hp) (D : Ends), Inv X pins σ H s → t D σ H → wpAny (model X.prog X.w) X.A (exec st X.env) (SP X pins D) X.xe s
def PSs (X : Cx) (st : List Stmt) (t : TS) : Prop :=
  ∀ (pins : List (Addr × Obj)) (s : Shared) (σ : St) (H : Hp) (D : Ends), Inv X pins σ H s → t D σ H → wpAny (model X.prog X.w) X.A (execs st X.env) (SP X pins D) X.xe s
theorem thn {α : Type} {t : Sem α} {Q Q' : α → Shared → Prop} {M : Model} {A : Around} {E : Value → Shared → Prop} {s : Shared} (h : wpAny M A t Q E s) (hQ : ∀ a s, Q a s → Q' a s) : wpAny M A t Q' E s := wpAny_mono h hQ fun _ _ x => x
end L2
namespace L2
open PySem PySem.Spec PyProof.Rows
section
variable {X : Cx}
def tVar (i : Nat) : TE := fun σ H Q => ∃ v, σ[i]? = some (some v) ∧ Q v H
def tC (v : V) : TE := fun _ H Q => Q v H
theorem pe_var {i : Nat} {x : Str} {pos : Pos} (hN : X.N[i]? = some x) (hv : Vis X.env.scope x) (hd : (x == ("__debug__" : Str)) = false := by decide) (hcd : (x == ("__classdict__" : Str)) = false := by decide) : PE X (.Name x pos) (tVar i) := by
  intro pins s σ H Q I h
  obtain ⟨v, e, h⟩ := h
  obtain ⟨m, hn, hl⟩ := I.loc
  obtain ⟨u, r, l⟩ := hl i x v hN e hv
  have fin : EP X pins σ Q u s := ⟨v, H, I, r, h⟩
  rcases l with ⟨hk, hm⟩ | ⟨hk, c, hc, hcell⟩
  · exact wpAny_Name (wpAny_loadName_local I.ok.kind hk hn hm fin) hd
  · rcases hk with hk | hk
    · exact wpAny_Name (wpAny_loadName_cell I.ok.kind hk hc hcell fin) hd
    · exact wpAny_Name (wpAny_loadName_free I.ok.kind hk hc hcell fin hcd) hd
theorem pe_int {i j pos} : PE X (.Constant (.int i) j pos) (tC (.int i)) := fun _ _ _ H _ I h => wpAny_Constant_int ⟨.int i, H, I.tok _, ⟨_, rfl⟩, h⟩
theorem pe_bl {b j pos} : PE X (.Constant (.bool b) j pos) (tC (.bl b)) := fun _ _ _ H _ I h => Constant_bool ⟨.bl b, H, I, rfl, h⟩
theorem pe_non {j pos} : PE X (.Constant .none j pos) (tC .non) := fun _ _ _ H _ I h => Constant_none ⟨.non, H, I, rfl, h⟩
theorem pe_str {x j pos} : PE X (.Constant (.str x) j pos) (tC (.str x)) := fun _ _ _ H _ I h => Calls.Constant_str ⟨.str x, H, I.tok _, ⟨_, rfl⟩, h⟩
def Gl (X : Cx) (x : Str) : Prop := X.env.kindOf x = some .globalImplicit
theorem ld_glob {E : Value → Shared → Prop} {pins : List (Addr × Obj)} {s : Shared} {σ : St} {H : Hp} {x : Str} {u : Value} {pos : Pos} {Q : Value → Shared → Prop} (I : Inv X pins σ H s) (hg : Gl X x) (hm : X.mg x = some u) (h : Q u s)
    (hd : (x == ("__debug__" : Str)) = false := by decide) : wpAny (model X.prog X.w) X.A (eval (.Name x pos) X.env) Q E s :=
  Calls.Name_function_global I.ok.kind hg (Calls.loadGlobal_global (by rw [I.ok.glob]; exact I.mod.glob.keeps I.bk) hm h) hd
theorem ld_blt {E : Value → Shared → Prop} {pins : List (Addr × Obj)} {s : Shared} {σ : St} {H : Hp} {x : Str} {u : Value} {pos : Pos} {Q : Value → Shared → Prop} (I : Inv X pins σ H s) (hg : Gl X x) (hm : X.mg x = none) (hv : bootBuiltins x = some u) (h : Q u s)
    (hn : x ≠ "__name__" := by decide) (hd : (x == ("__debug__" : Str)) = false := by decide) : wpAny (model X.prog X.w) X.A (eval (.Name x pos) X.env) Q E s := by
  obtain ⟨mb, h1, h2⟩ := I.mod.blt
  exact Calls.Name_function_global I.ok.kind hg (Calls.loadGlobal_builtin (by rw [I.ok.glob]; exact I.mod.glob.keeps I.bk) hm (by rw [I.ok.blt]; exact h1.keeps I.bk) ((h2 x hn).trans hv) h) hd
theorem pe_glob {x : Str} {v : V} {u : Value} {pos : Pos} (hg : Gl X x) (hm : X.mg x = some u) (r : RelV v u) (hd : (x == ("__debug__" : Str)) = false := by decide) : PE X (.Name x pos) (tC v) :=
  fun _ _ _ H _ I h => ld_glob I hg hm ⟨v, H, I, r, h⟩ hd
theorem pe_bltn {x : Str} {v : V} {u : Value} {pos : Pos} (hg : Gl X x) (hm : X.mg x = none) (hv : bootBuiltins x = some u) (r : RelV v u) (hn : x ≠ "__name__" := by decide) (hd : (x == ("__debug__" : Str)) = false := by decide) : PE X (.Name x pos) (tC v) :=
  fun _ _ _ H _ I h => ld_blt I hg hm hv ⟨v, H, I, r, h⟩ hn hd
variable {a b : Expr} {ta tb : TE} {pos : Pos}
def tB (t : TE) : TT := fun σ H Q => t σ H fun x H1 => ∃ c, x = .bl c ∧ Q c H1
theorem pt_val {e : Expr} {t : TE} (h : PE X e t) (he : ∀ whole, isTrue e X.env whole = (do let v ← whole; standAt e.pos; holding [v] (truthy v)) := by intro _; rfl) : PT X e (tB t) := by
  intro pins s σ H Q I hw
  refine isTrue_plain (thn (h pins s σ H _ I hw) fun v s1 ⟨x, H1, I1, r1, q1⟩ => ?_) (he _)
  obtain ⟨d, rfl, q⟩ := q1
  cases r1
  exact wpAny_truthy_bool ⟨H1, I1, q⟩
variable {tA tB' : TT} {rest : List Expr}
def tAnd (t u : TT) : TT := fun σ H Q => t σ H fun c H1 => if c = true then u σ H1 Q else Q false H1
def tOr (t u : TT) : TT := fun σ H Q => t σ H fun c H1 => if c = true then Q true H1 else u σ H1 Q
def tNot (t : TT) : TT := fun σ H Q => t σ H fun c H1 => Q (!c) H1
theorem pw_and1 (ha : PT X a tA) : PW X (.BoolOp .And [a] pos) tA := by
  intro wh pins s σ H Q I h
  refine isTrue_and (thn (ha pins s σ H Q I h) fun c s1 e => ?_)
  cases c with
  | true => exact isTrue_and_nil e
  | false => exact e
theorem pw_or1 (ha : PT X a tA) : PW X (.BoolOp .Or [a] pos) tA := by
  intro wh pins s σ H Q I h
  refine isTrue_or (thn (ha pins s σ H Q I h) fun c s1 e => ?_)
  cases c with
  | false => exact isTrue_or_nil e
  | true => exact e
theorem pw_and (ha : PT X a tA) (hb : PW X (.BoolOp .And (b :: rest) pos) tB') : PW X (.BoolOp .And (a :: b :: rest) pos) (tAnd tA tB') := by
  intro wh pins s σ H Q I h
  refine isTrue_and (thn (ha pins s σ H _ I h) fun c s1 ⟨H1, I1, q1⟩ => ?_)
  cases c with
  | true => exact hb wh pins s1 σ H1 Q I1 q1
  | false => exact ⟨H1, I1, q1⟩
theorem pw_or (ha : PT X a tA) (hb : PW X (.BoolOp .Or (b :: rest) pos) tB') : PW X (.BoolOp .Or (a :: b :: rest) pos) (tOr tA tB') := by
  intro wh pins s σ H Q I h
  refine isTrue_or (thn (ha pins s σ H _ I h) fun c s1 ⟨H1, I1, q1⟩ => ?_)
  cases c with
  | true => exact ⟨H1, I1, q1⟩
  | false => exact hb wh pins s1 σ H1 Q I1 q1
theorem pt_not (ha : PT X a tA) : PT X (.UnaryOp .Not a pos) (tNot tA) := by
  intro pins s σ H Q I h
  exact isTrue_not (ha pins s σ H (fun c H1 => Q (!c) H1) I h)
def tIf (t : TT) (ta tb : TE) : TE := fun σ H Q => t σ H fun c H1 => if c = true then ta σ H1 Q else tb σ H1 Q
theorem pe_ifExp {c : Expr} (hc : PT X c tA) (ha : PE X a ta) (hb : PE X b tb) : PE X (.IfExp c a b pos) (tIf tA ta tb) := by
  intro pins s σ H Q I h
  refine wpAny_IfExp (thn (hc pins s σ H _ I h) fun d s1 ⟨H1, I1, q1⟩ => ?_)
  cases d with
  | true => exact ha pins s1 σ H1 Q I1 q1
  | false => exact hb pins s1 σ H1 Q I1 q1
end
end L2
namespace L2
open PySem PySem.Spec PyProof.Rows
def SqL (K : PySem.W.Frag) (H : Hp) (a : Addr) (xs : List V) : Prop :=
  Rd H a (.lst xs) ∨
    ∃ (o : Obj) (its : Array Value) (n : Nat), K.lookup a = some o ∧ o.cls = .type "list" ∧ o.dict = none ∧ o.data = .seq its n ∧ its.size ≤ sizeLine ∧ Vals xs its.toList
def SqT (K : PySem.W.Frag) (H : Hp) (a : Addr) (xs : List V) : Prop :=
  Rd H a (.tup xs) ∨
    ∃ (o : Obj) (its : Array Value) (n : Nat), K.lookup a = some o ∧ o.cls = .type "tuple" ∧ o.data = .seq its n ∧ its.size ≤ sizeLine ∧ Vals xs its.toList
def absV : Value → Option V
  | .none => some .non
  | .bool b => some (.bl b)
  | .int i _ => some (.int i)
  | .str x _ => some (.str x)
  | .bytes b _ => some (.byt b)
  | .float b _ => some (.flt b)
  | .ref a => some (.ref a)
  | .type n => some (.ty n)
  | _ => none
theorem RelV.abs {x : V} {u : Value} (r : RelV x u) : absV u = some x := by
  cases x with
  | non => cases r; rfl
  | bl _ => cases r; rfl
  | int _ => obtain ⟨t, rfl⟩ := r; rfl
  | str _ => obtain ⟨t, rfl⟩ := r; rfl
  | byt _ => obtain ⟨t, rfl⟩ := r; rfl
  | flt _ => obtain ⟨t, rfl⟩ := r; rfl
  | ref _ => cases r; rfl
  | ty _ => cases r; rfl
theorem RelV.inj {x y : V} {u : Value} (r : RelV x u) (q : RelV y u) : x = y := Option.some.inj (r.abs.symm.trans q.abs)
theorem Vals.inj : ∀ {xs ys : List V} {us : List Value}, Vals xs us → Vals ys us → xs = ys
  | _, _, _, .nil, .nil => rfl
  | _, _, _, .cons r t, .cons r' t' => by rw [r.inj r', Vals.inj t t']
section
variable {X : Cx} {pins : List (Addr × Obj)} {σ : St} {H : Hp} {s : Shared} {a : Addr} {xs ys : List V}
theorem SqL.of {K : PySem.W.Frag} (h : H a = some (.lst xs)) : SqL K H a xs := .inl (.inl h)
theorem SqT.of {K : PySem.W.Frag} (h : H a = some (.tup xs)) : SqT K H a xs := .inl (.inl h)
theorem Inv.list (I : Inv X pins σ H s) (h : SqL X.K H a xs) : ∃ its : List Value, Vals xs its ∧ PlainL s.heap a its.toArray ∧ xs.length ≤ sizeLine := by
  rcases h with h | ⟨o, its, n, hk, hc, hd, hs, hz, r⟩
  · obtain ⟨z, its, n, r, e⟩ := h.ok I.hok
    exact ⟨its, r, ⟨_, n, e, rfl, rfl, rfl⟩, z⟩
  · refine ⟨its.toList, r, ⟨o, n, I.kIn a o hk, hc, hd, by simpa using hs⟩, ?_⟩
    have e := r.length
    simp only [Array.length_toList] at e
    omega
theorem Inv.tuple (I : Inv X pins σ H s) (h : SqT X.K H a xs) : ∃ its : List Value, Vals xs its ∧ IsTup s.heap a its.toArray ∧ xs.length ≤ sizeLine := by
  rcases h with h | ⟨o, its, n, hk, hc, hs, hz, r⟩
  · obtain ⟨z, its, r, p⟩ := h.ok I.hok
    exact ⟨its, r, p, z⟩
  · refine ⟨its.toList, r, ⟨o, I.kIn a o hk, hc, n, by simpa using hs⟩, ?_⟩
    have e := r.length
    simp only [Array.length_toList] at e
    omega
theorem Inv.list_inj (I : Inv X pins σ H s) (h : SqL X.K H a xs) (h' : SqL X.K H a ys) : xs = ys := by
  obtain ⟨its, r, ⟨o, n, e, _, _, d⟩, _⟩ := I.list h
  obtain ⟨its', r', ⟨o', n', e', _, _, d'⟩, _⟩ := I.list h'
  rw [e] at e'; cases e'
  rw [d] at d'
  injection d' with d1 _
  have : its = its' := by simpa using congrArg Array.toList d1
  subst this
  exact r.inj r'
theorem Inv.tuple_inj (I : Inv X pins σ H s) (h : SqT X.K H a xs) (h' : SqT X.K H a ys) : xs = ys := by
  obtain ⟨its, r, ⟨o, e, _, n, d⟩, _⟩ := I.tuple h
  obtain ⟨its', r', ⟨o', e', _, n', d'⟩, _⟩ := I.tuple h'
  rw [e] at e'; cases e'
  rw [d] at d'
  injection d' with d1 _
  have : its = its' := by simpa using congrArg Array.toList d1
  subst this
  exact r.inj r'
end
abbrev Cx.wish (X : Cx) (E : Value → Shared → Prop) : Cx := { X with xe := E }
abbrev Cx.nox (X : Cx) : Cx := X.wish fun _ _ => False
theorem Cx.Ok.wish {X : Cx} (ok : X.Ok) (E : Value → Shared → Prop) : (X.wish E).Ok :=
  ⟨ok.mod, ok.kind, ok.glob, ok.blt, ok.above, ok.inj, ok.has, ok.cab, ok.hd, ok.frames, ok.stk, ok.exf, ok.bs, ok.bsz, ok.noex, ok.exfs, ok.funs, ok.frf⟩
theorem Cx.Ok.unwish {X : Cx} {E : Value → Shared → Prop} (ok : (X.wish E).Ok) : X.Ok :=
  ⟨ok.mod, ok.kind, ok.glob, ok.blt, ok.above, ok.inj, ok.has, ok.cab, ok.hd, ok.frames, ok.stk, ok.exf, ok.bs, ok.bsz, ok.noex, ok.exfs, ok.funs, ok.frf⟩
section
variable {X : Cx} {pins : List (Addr × Obj)} {σ : St} {H : Hp} {s : Shared} {E : Value → Shared → Prop}
theorem Inv.wish (I : Inv X pins σ H s) (E : Value → Shared → Prop) : Inv (X.wish E) pins σ H s := ⟨I.ok.wish E, I.os, I.bare, I.base, I.loc, I.cell, I.free, I.freeC, I.pin, I.hok, I.len⟩
theorem Inv.unwish (I : Inv (X.wish E) pins σ H s) : Inv X pins σ H s := ⟨I.ok.unwish, I.os, I.bare, I.base, I.loc, I.cell, I.free, I.freeC, I.pin, I.hok, I.len⟩
theorem SP.unwish {D : Ends} {f : Flow} {s' : Shared} (h : SP (X.wish E) pins D f s') : SP X pins D f s' := by
  cases f with
  | next => obtain ⟨σ', H', I, q⟩ := h; exact ⟨σ', H', I.unwish, q⟩
  | brk => obtain ⟨σ', H', I, q⟩ := h; exact ⟨σ', H', I.unwish, q⟩
  | cont => obtain ⟨σ', H', I, q⟩ := h; exact ⟨σ', H', I.unwish, q⟩
  | ret u => obtain ⟨v, σ', H', I, r, q⟩ := h; exact ⟨v, σ', H', I.unwish, r, q⟩
theorem PE.nox {e : Expr} {t : TE} (h : PE X.nox e t) : PE X e t := fun pins s σ H Q I hw =>
  wpAny_mono (h pins s σ H Q (I.wish _) hw) (fun _ _ ⟨v, H', I', r, q⟩ => ⟨v, H', I'.unwish, r, q⟩) fun _ _ z => False.elim z
theorem PT.nox {e : Expr} {t : TT} (h : PT X.nox e t) : PT X e t := fun pins s σ H Q I hw =>
  wpAny_mono (h pins s σ H Q (I.wish _) hw) (fun _ _ ⟨H', I', q⟩ => ⟨H', I'.unwish, q⟩) fun _ _ z => False.elim z
theorem PSs.nox {st : List Stmt} {t : TS} (h : PSs X.nox st t) : PSs X st t := fun pins s σ H D I hw =>
  wpAny_mono (h pins s σ H D (I.wish _) hw) (fun _ _ q => q.unwish) fun _ _ z => False.elim z
end
section
variable {X : Cx} {st : Stmt} {rest : List Stmt} {t u : TS} {e : Expr} {te : TE} {pos : Pos}
def tNext : TS := fun D σ H => D.nx σ H
def tSeq (t u : TS) : TS := fun D σ H => t { D with nx := u D } σ H
theorem pss_nil : PSs X [] tNext := fun _ _ σ H _ I h => wpAny_execs_nil ⟨σ, H, I, h⟩
theorem pss_cons (h1 : PS X st t) (h2 : PSs X rest u) : PSs X (st :: rest) (tSeq t u) := by
  intro pins s σ H D I h
  refine wpAny_execs_cons (thn (h1 pins s σ H { D with nx := u D } I h) fun f s1 q => ?_)
  cases f with
  | next =>
    obtain ⟨σ', H', I', q⟩ := q
    exact h2 pins s1 σ' H' D I' q
  | ret v => exact q
  | brk => exact q
  | cont => exact q
theorem pss_one (h1 : PS X st t) : PSs X [st] t := by
  intro pins s σ H D I h
  refine wpAny_execs_cons (thn (h1 pins s σ H D I h) fun f s1 q => ?_)
  cases f with
  | next => exact wpAny_execs_nil q
  | ret v => exact q
  | brk => exact q
  | cont => exact q
def tRet (te : TE) : TS := fun D σ H => te σ H D.rt
theorem ps_ret (he : PE X e te) : PS X (.Return (some e) pos) (tRet te) := by
  intro pins s σ H D I h
  exact wpAny_Return_some (thn (he pins s σ H _ I h) fun v s1 ⟨x, H1, I1, r1, q1⟩ => ⟨x, σ, H1, I1, r1, q1⟩)
def tIfS (c : TT) (t u : TS) : TS := fun D σ H => c σ H fun b H1 => if b = true then t D σ H1 else u D σ H1
theorem ps_if {c : Expr} {a b : List Stmt} {tc : TT} (hc : PT X c tc) (ha : PSs X a t) (hb : PSs X b u) : PS X (.If c a b pos) (tIfS tc t u) := by
  intro pins s σ H D I h
  refine wpAny_If (thn (hc pins s σ H _ I h) fun d s1 ⟨H1, I1, q1⟩ => ?_)
  cases d with
  | true => exact ha pins s1 σ H1 D I1 q1
  | false => exact hb pins s1 σ H1 D I1 q1
end
abbrev TG := V → St → Hp → (St → Hp → Prop) → Prop
def PG (X : Cx) (target : Expr) (t : TG) : Prop :=
  ∀ (pins : List (Addr × Obj)) (s : Shared) (σ : St) (H : Hp) (v : V) (u : Value) (Q : St → Hp → Prop), Inv X pins σ H s → RelV v u → t v σ H Q →
    wpAny (model X.prog X.w) X.A (assign target X.env u) (fun _ s' => ∃ σ' H', Inv X pins σ' H' s' ∧ Q σ' H') X.xe s
abbrev TSet := V → V → V → Hp → (Hp → Prop) → Prop
def PSet (X : Cx) (t : TSet) : Prop :=
  ∀ (pins : List (Addr × Obj)) (s : Shared) (σ : St) (H : Hp) (o i v : V) (ov iv u : Value) (Q : Hp → Prop), Inv X pins σ H s → RelV o ov → RelV i iv → RelV v u → t o i v H Q →
    wpAny (model X.prog X.w) X.A (setItem ov iv u) (fun _ s' => ∃ H', Inv X pins σ H' s' ∧ Q H') X.xe s
section
variable {X : Cx} {pos : Pos}
def gName (i : Nat) : TG := fun v σ H Q => Q (σ.set i (some v)) H
theorem pg_name {i : Nat} {x : Str} (hN : X.N.Nodup) (hi : X.N[i]? = some x) (hx : Loc X.env.scope x) (hf : X.fn x = true ∨ X.env.scope.names.lookup x = some .local := by first | exact .inl rfl | exact .inr rfl | assumption) : PG X (.Name x pos) (gName i) := by
  intro pins s σ H v u Q I r h
  exact wpAny_assign_Name (store_ok I hN hi hx r (fun s' I' => ⟨_, H, I', h⟩) hf)
def gSub (to ti : TE) (t : TSet) : TG := fun v σ H Q => to σ H fun o H1 => ti σ H1 fun i H2 => t o i v H2 fun H3 => Q σ H3
theorem pg_sub {o i : Expr} {to ti : TE} {t : TSet} (ho : PE X o to) (hi : PE X i ti) (hs : PSet X t)
    (ha : ∀ v, assign (.Subscript o i pos) X.env v = (do
      let ov ← holding [v] (eval o X.env)
      let iv ← holding [v, ov] (eval i X.env)
      standAt pos
      holding [v, ov, iv] (setItem ov iv v)
      release [v, ov, iv] []) := by intro _; rfl) : PG X (.Subscript o i pos) (gSub to ti t) := by
  intro pins s σ H v u Q I r h
  rw [ha]
  refine wpAny_bind (wpAny_holding (thn (ho pins s σ H _ I h) fun ov s1 ⟨x, H1, I1, r1, q1⟩ => ?_))
  refine wpAny_bind (wpAny_holding (thn (hi pins s1 σ H1 _ I1 q1) fun iv s2 ⟨y, H2, I2, r2, q2⟩ => ?_))
  refine wpAny_bind (wpAny_standAt (wpAny_bind (wpAny_holding (thn (hs pins s2 σ H2 x y v ov iv u _ I2 r1 r2 r q2) fun _ s3 ⟨H3, I3, q3⟩ => ?_))))
  exact wpAny_release ⟨σ, H3, I3, q3⟩
def tAsg (te : TE) (g : TG) : TS := fun D σ H => te σ H fun x H1 => g x σ H1 D.nx
theorem ps_asg {tg e : Expr} {te : TE} {g : TG} (he : PE X e te) (hg : PG X tg g) (hs : swapsWithSole [tg] e pos.line X.env = pure false := by rfl) (hw : swappedStores [tg] e X.env = pure none := by rfl)
    (h1 : (assignEach [tg] X.env).map (·.2) = [assign tg X.env] := by rfl) : PS X (.Assign [tg] e pos) (tAsg te g) := by
  intro pins s σ H D I h
  refine wpAny_Assign_stores (thn (he pins s σ H _ I h) fun v s1 ⟨x, H1, I1, r1, q1⟩ => ?_) hs hw
  rw [h1]
  exact thn (hg pins s1 σ H1 x v _ I1 r1 q1) fun _ s2 q => q
theorem ps_set {i : Nat} {x : Str} {e : Expr} {te : TE} {pos' : Pos} (hN : X.N.Nodup) (hi : X.N[i]? = some x) (hx : Loc X.env.scope x) (he : PE X e te) (hs : swapsWith e (some (.Name x pos')) pos.line X.env = pure false := by rfl) (hf : X.fn x = true ∨ X.env.scope.names.lookup x = some .local := by first | exact .inl rfl | exact .inr rfl | assumption) :
    PS X (.Assign [.Name x pos'] e pos) (tAsg te (gName i)) := by
  intro pins s σ H D I h
  refine wpAny_Assign_Name (thn (he pins s σ H _ I h) fun v s1 ⟨y, H1, I1, r1, q1⟩ => ?_) hs
  exact store_ok I1 hN hi hx r1 (fun s2 I2 => ⟨_, H1, I2, q1⟩) hf
end
section
variable {X : Cx} {pos : Pos}
end
structure It where
  go : Nat → Hp → Prop
  yld : Nat → Hp → V → Hp → Prop
  stop : Nat → Hp → Prop
def FpOk (X : Cx) (pins : List (Addr × Obj)) (H : Hp) (b : Addr) : Prop :=
  H b = none ∧ b ≠ X.env.locals ∧ b ∉ X.fs ∧ (b ∈ X.ex ∨ X.s₀.heap.objs.size ≤ b) ∧ (∀ x c, X.env.cells.lookup x = some c → c ≠ b) ∧ ∀ p ∈ X.pn ++ pins, p.1 ≠ b
theorem Inv.fpOk {X : Cx} {pins : List (Addr × Obj)} {σ : St} {H H' : Hp} {s : Shared} {b : Addr} (I : Inv X pins σ H s) (hb : s.heap.objs.size ≤ b) (hn : H' b = none) : FpOk X pins H' b := by
  refine ⟨hn, Nat.ne_of_gt (Nat.lt_of_lt_of_le I.lt hb), I.nofs hb, .inr (Nat.le_trans I.sz hb), fun x c e z => ?_, fun p hp z => ?_⟩
  · obtain ⟨v, q⟩ := I.cell x c e
    exact absurd (Nat.lt_of_lt_of_le q.lt (by rw [z]; exact hb)) (Nat.lt_irrefl _)
  · exact absurd (Nat.lt_of_lt_of_le (Heap.lt_size (I.pin p hp).1) (by rw [z]; exact hb)) (Nat.lt_irrefl _)
structure Turn (P : Program) (w : World) (K : PySem.W.Frag) (tg : Expr) (J : It) (fp : List Addr) (it : Addr) (tn : Nat → Heap → Prop) : Prop where
  mem : it ∈ fp
  obj : ∀ i h, tn i h → ∀ b ∈ fp, ∃ o, h.get? b = some o ∧ ∀ v, o.data ≠ .cell v
  keep : ∀ i h h', tn i h → (∀ b ∈ fp, ∀ o, h.get? b = some o → h'.get? b = some o) → tn i h'
  item : ∀ (X : Cx), X.prog = P → X.w = w → X.K = K → X.calm = true → ∀ (i : Nat) (pins : List (Addr × Obj)) (s : Shared) (σ : St) (H : Hp) (E : Value → Shared → Prop), Inv X pins σ H s → (∀ b ∈ fp, FpOk X pins H b) → tn i s.heap → J.go i H →
    wpAny (model P w) X.A (pyNext (.ref it)) (fun r s1 => ∃ u, r = some u ∧
      wpAny (model P w) X.A (letOwnedTupleGo tg (.ref it) u) (fun _ s2 => ∃ x H', Inv X pins σ H' s2 ∧ RelV x u ∧ J.yld i H x H' ∧ tn (i + 1) s2.heap ∧ ∀ b ∈ fp, H' b = none) E s1) E s
  done : ∀ (X : Cx), X.prog = P → X.w = w → X.K = K → X.calm = true → ∀ (i : Nat) (pins : List (Addr × Obj)) (s : Shared) (σ : St) (H : Hp) (E : Value → Shared → Prop), Inv X pins σ H s → (∀ b ∈ fp, FpOk X pins H b) → tn i s.heap → J.stop i H →
    wpAny (model P w) X.A (pyNext (.ref it)) (fun r s1 => r = none ∧ Inv X pins σ H s1) E s
  self : ∀ (A : Around) (i : Nat) (s : Shared) (Q : Value → Shared → Prop) (E : Value → Shared → Prop), tn i s.heap → Q (.ref it) s → wpAny (model P w) A (pyIter (.ref it)) Q E s
abbrev TI := St → Hp → (It → Hp → Prop) → Prop
def PIE (X : Cx) (pins : List (Addr × Obj)) (σ : St) (tg : Expr) (R : It → Hp → Prop) (itv : Value) (s2 : Shared) : Prop :=
  ∃ (it : Addr) (fp : List Addr) (tn : Nat → Heap → Prop) (J : It) (H' : Hp), itv = .ref it ∧ Inv X pins σ H' s2 ∧ Turn X.prog X.w X.K tg J fp it tn ∧ tn 0 s2.heap ∧ (∀ b ∈ fp, FpOk X pins H' b) ∧ R J H'
def PI (X : Cx) (tg iter : Expr) (wi : TI) : Prop :=
  ∀ (pins : List (Addr × Obj)) (s : Shared) (σ : St) (H : Hp) (R : It → Hp → Prop), Inv X pins σ H s → wi σ H R →
    wpAny (model X.prog X.w) X.A (eval iter X.env) (fun v s1 => wpAny (model X.prog X.w) X.A (pyIter v) (PIE X pins σ tg R) X.xe s1) X.xe s
theorem go_of {M : Model} {A : Around} {E : Value → Shared → Prop} {s : Shared} {tg : Expr} {it : Addr} {u : Value} {o : Obj} {n : String} {vs : Array Value} {Q : Unit → Shared → Prop} (ho : s.heap.get? it = some o) (hc : o.cls = .type n) (hd : o.data = .fields vs)
    (hn : ["enumerate", "zip", "dict_itemiterator", "dict_reverseitemiterator", "odict_iterator", "itertools.zip_longest", "itertools.pairwise"].contains n = false) (hQ : Q () s) : wpAny M A (letOwnedTupleGo tg (.ref it) u) Q E s := by
  unfold letOwnedTupleGo
  cases tg <;> first
    | exact wpAny_pure hQ
    | (cases u <;> first
        | exact wpAny_pure hQ
        | (refine wpAny_bind (wpAny_load ho ?_)
           rw [hc, hd]
           show wpAny M A (if (["enumerate", "zip", "dict_itemiterator", "dict_reverseitemiterator", "odict_iterator", "itertools.zip_longest", "itertools.pairwise"].contains n && vs[0]? == some (rawInt _)) = true then _ else _) Q E s
           rw [if_neg (by intro h; rw [hn, Bool.false_and] at h; cases h)]
           exact wpAny_pure hQ))
def Itl (K : PySem.W.Frag) (a : Addr) : It :=
  ⟨fun i H => ∃ xs x, SqL K H a xs ∧ xs[i]? = some x, fun i H x H' => H' = H ∧ ∀ xs, SqL K H a xs → xs[i]? = some x, fun i H => ∃ xs, SqL K H a xs ∧ xs.length ≤ i⟩
def Itt (K : PySem.W.Frag) (a : Addr) : It :=
  ⟨fun i H => ∃ xs x, SqT K H a xs ∧ xs[i]? = some x, fun i H x H' => H' = H ∧ ∀ xs, SqT K H a xs → xs[i]? = some x, fun i H => ∃ xs, SqT K H a xs ∧ xs.length ≤ i⟩
def Itr (lo : Int) (n : Nat) : It := ⟨fun i _ => i < n, fun i H x H' => H' = H ∧ x = .int (lo + i), fun i _ => n ≤ i⟩
theorem turn_list {P : Program} {w : World} {K : PySem.W.Frag} {tg : Expr} (a it : Addr) : Turn P w K tg (Itl K a) [it] it (fun i h => h.IsListIter it a i) where
  mem := by simp
  obj := fun i h st b hb => by
    have e : b = it := by simpa using hb
    subst e
    obtain ⟨o, e, c, d⟩ := st
    exact ⟨o, e, fun v z => by rw [d] at z; cases z⟩
  keep := fun i h h' st k => st.at fun o e => k it (by simp) o e
  item := by
    intro X hP hw hK hc i pins s σ H E I hf st hg
    subst hP hw hK
    obtain ⟨xs, x, hq, hx⟩ := hg
    obtain ⟨its, rv, p, hz⟩ := I.list hq
    obtain ⟨u, hu, ru⟩ := rv.get hx
    obtain ⟨f0, f1, f2, f3, f4, f5⟩ := hf it (by simp)
    refine wpAny_pyNext_list_item st p.isList (x := u) (by simpa using hu) fun h' st' sb => ?_
    have I1 : Inv X pins σ H { s with heap := h' } := I.turned (t' := s.toks) (fun b o hb e => (sb.2 b hb).trans e) f0 f1 f3 f4 f5
    obtain ⟨o, e, c, d⟩ := id st'
    exact ⟨u, rfl, go_of (s := { s with heap := h' }) e c d (by decide) ⟨x, H, I1, ru, ⟨rfl, fun ys hy => by rw [I.list_inj hy hq]; exact hx⟩, st', fun b hb => (hf b hb).1⟩⟩
  done := by
    intro X hP hw hK hc i pins s σ H E I hf st hg
    subst hP hw hK
    obtain ⟨xs, hq, hx⟩ := hg
    obtain ⟨its, rv, p, hz⟩ := I.list hq
    obtain ⟨f0, f1, f2, f3, f4, f5⟩ := hf it (by simp)
    have hl := rv.length
    exact wpAny_pyNext_list_end (I.ok.hd hc) st p.isList (by simp; omega) fun h' eb => ⟨rfl, I.turned (t' := s.toks) (fun b o hb e => eb b o hb e) f0 f1 f3 f4 f5⟩
  self := fun _ _ _ _ _ st h => wpAny_pyIter_listiter st h
theorem turn_tuple {P : Program} {w : World} {K : PySem.W.Frag} {tg : Expr} (a it : Addr) : Turn P w K tg (Itt K a) [it] it (fun i h => h.IsTupleIter it a i) where
  mem := by simp
  obj := fun i h st b hb => by
    have e : b = it := by simpa using hb
    subst e
    obtain ⟨o, e, c, d⟩ := st
    exact ⟨o, e, fun v z => by rw [d] at z; cases z⟩
  keep := fun i h h' st k => st.at fun o e => k it (by simp) o e
  item := by
    intro X hP hw hK hc i pins s σ H E I hf st hg
    subst hP hw hK
    obtain ⟨xs, x, hq, hx⟩ := hg
    obtain ⟨its, rv, p, hz⟩ := I.tuple hq
    obtain ⟨u, hu, ru⟩ := rv.get hx
    obtain ⟨f0, f1, f2, f3, f4, f5⟩ := hf it (by simp)
    refine wpAny_pyNext_tuple_item st (show s.heap.IsTuple a its.toArray from p) (x := u) (by simpa using hu) fun h' st' sb => ?_
    have I1 : Inv X pins σ H { s with heap := h' } := I.turned (t' := s.toks) (fun b o hb e => (sb.2 b hb).trans e) f0 f1 f3 f4 f5
    obtain ⟨o, e, c, d⟩ := id st'
    exact ⟨u, rfl, go_of (s := { s with heap := h' }) e c d (by decide) ⟨x, H, I1, ru, ⟨rfl, fun ys hy => by rw [I.tuple_inj hy hq]; exact hx⟩, st', fun b hb => (hf b hb).1⟩⟩
  done := by
    intro X hP hw hK hc i pins s σ H E I hf st hg
    subst hP hw hK
    obtain ⟨xs, hq, hx⟩ := hg
    obtain ⟨its, rv, p, hz⟩ := I.tuple hq
    obtain ⟨f0, f1, f2, f3, f4, f5⟩ := hf it (by simp)
    have hl := rv.length
    exact wpAny_pyNext_tuple_end (I.ok.hd hc) st (show s.heap.IsTuple a its.toArray from p) (by simp; omega) fun h' eb => ⟨rfl, I.turned (t' := s.toks) (fun b o hb e => eb b o hb e) f0 f1 f3 f4 f5⟩
  self := fun _ _ _ _ _ st h => wpAny_pyIter_tupleiter st h
theorem turn_range {P : Program} {w : World} {K : PySem.W.Frag} {tg : Expr} (it : Addr) (lo : Int) (n : Nat) : Turn P w K tg (Itr lo n) [it] it (fun i h => IsRangeIter h it (lo + (i : Nat) * 1) ((n : Int) - (i : Nat)) 1) where
  mem := by simp
  obj := fun i h st b hb => by
    have e : b = it := by simpa using hb
    subst e
    exact ⟨_, st, fun v z => by
      have z' : Data.fields _ = Data.cell v := z
      cases z'⟩
  keep := fun i h h' st k => k it (by simp) _ st
  item := by
    intro X hP hw hK hc i pins s σ H E I hf st hg
    subst hP hw hK
    obtain ⟨f0, f1, f2, f3, f4, f5⟩ := hf it (by simp)
    have W := Walks.range (prog := X.prog) (w := X.w) (I.ok.hd hc) it lo 1 n
    refine W.item i s _ _ hg st fun v h' tk hv st' kk => ?_
    obtain ⟨t, rfl⟩ := hv
    have I1 : Inv X pins σ H { s with heap := h', toks := tk } := I.turned (fun b o hb e => kk b o (by simpa using hb) e) f0 f1 f3 f4 f5
    refine ⟨_, rfl, go_of (s := { s with heap := h', toks := tk }) (n := "range_iterator") st' rfl rfl (by decide) ⟨.int (lo + i), H, I1, ⟨t, ?_⟩, ⟨rfl, rfl⟩, st', fun b hb => (hf b hb).1⟩⟩
    rw [Int.mul_one]
  done := by
    intro X hP hw hK hc i pins s σ H E I hf st hg
    subst hP hw hK
    obtain ⟨f0, f1, f2, f3, f4, f5⟩ := hf it (by simp)
    exact wpAny_pyNext_range_end (I.ok.hd hc) st (by have : n ≤ i := hg; omega) fun h' eb => ⟨rfl, I.turned (t' := s.toks) (fun b o hb e => eb b o hb e) f0 f1 f3 f4 f5⟩
  self := fun _ _ _ _ _ st h => wpAny_pyIter_rangeiter st h
end L2
namespace L2
open PySem PySem.Spec PyProof.Rows
section
variable {X : Cx} {tg : Expr}
theorem range_it {pins : List (Addr × Obj)} {σ : St} {H : Hp} {s : Shared} {R : It → Hp → Prop} {E : Value → Shared → Prop} {lo hi : Int} {t u v : Tok} {tk : Nat} (I : Inv X pins σ H s) (h1 : -(2 ^ 62) ≤ lo) (h2 : lo < 2 ^ 62) (h3 : -(2 ^ 62) ≤ hi) (h4 : hi < 2 ^ 62)
    (q : R (Itr lo (hi - lo).toNat) H) : wpAny (model X.prog X.w) X.A (pyIter (.ref s.heap.objs.size)) (PIE X pins σ tg R) E { s with heap := s.heap.push { cls := .type "range", data := .fields #[.int lo t, .int hi u, .int 1 v] }, toks := tk } := by
  refine wpAny_pyIter_range (IsRange.new ..) (small_one h1 h2 h3 h4) ?_
  have I1 : Inv X pins σ H { s with heap := s.heap.push { cls := .type "range", data := .fields #[.int lo t, .int hi u, .int 1 v] }, toks := tk } := I.kept fun b o e => Heap.get?_push_of_some _ e
  refine ⟨(s.heap.push { cls := .type "range", data := .fields #[.int lo t, .int hi u, .int 1 v] }).objs.size, [(s.heap.push { cls := .type "range", data := .fields #[.int lo t, .int hi u, .int 1 v] }).objs.size], _, _, H, rfl,
    I1.kept (t' := tk) fun b o e => Heap.get?_push_of_some _ e, turn_range _ lo (hi - lo).toNat, ?_, fun b hb => ?_, q⟩
  · have e1 : lo + ((0 : Nat) : Int) * 1 = lo := by simp
    have e2 : (((hi - lo).toNat : Nat) : Int) - ((0 : Nat) : Int) = Builtin.Range.rangeSize lo hi 1 := by rw [rangeSize_one]; split <;> omega
    show IsRangeIter _ _ (lo + ((0 : Nat) : Int) * 1) ((((hi - lo).toNat : Nat) : Int) - ((0 : Nat) : Int)) 1
    rw [e1, e2]
    exact Heap.get?_push_size _ rfl
  · have e : b = (s.heap.push { cls := .type "range", data := .fields #[.int lo t, .int hi u, .int 1 v] }).objs.size := by simpa using hb
    subst e
    exact I1.fpOk (Nat.le_refl _) (I1.hok.fresh (Nat.le_refl _))
def iRng1 (ta : TA) : TI := fun σ H R => ta σ H fun vs H1 => ∃ j : Int, vs = [.int j] ∧ -(2 ^ 62) ≤ j ∧ j < 2 ^ 62 ∧ R (Itr 0 j.toNat) H1
theorem pi_range1 {a : Expr} {ta : TA} {p pos : Pos} (hg : Gl X "range") (hm : X.mg "range" = none) (ha : PA X [a] ta) (hs : starEach [a] X.env = [(false, eval a X.env)] := by rfl) : PI X tg (.Call (.Name "range" p) [a] [] pos) (iRng1 ta) := by
  intro pins s σ H R I h
  refine Call_ (ld_blt I hg hm boot_range (PyProof.Rows.callWith_type1 (thn (ha pos pins s σ H _ I h) fun us s1 ⟨vs, H1, I1, r1, q1⟩ => ?_) hs rfl))
  obtain ⟨j, e, q1, q2, q⟩ := q1
  subst e
  cases r1 with
  | cons r rr =>
    cases rr
    obtain ⟨t, rfl⟩ := r
    exact call_range_1 (range_it I1 (by omega) (by omega) q1 q2 (by simpa using q))
def tFor (wi : TI) (g : TG) (tb : TS) : TS := fun D σ H => wi σ H fun J H1 => ∃ W : Nat → Nat → St → Hp → Prop, (∃ m, W 0 m σ H1) ∧ ∀ i m σ H, W i m σ H →
  (J.stop i H ∧ D.nx σ H) ∨ (J.go i H ∧ ∃ N : St → Hp → Prop, (∀ σ' H', N σ' H' → ∃ m', m' < m ∧ W (i + 1) m' σ' H') ∧ ∀ x H', J.yld i H x H' → g x σ H' fun σ2 H2 => tb { D with nx := N, ct := N, bk := D.nx } σ2 H2)
def pinsAt (fp : List Addr) (h : Heap) : List (Addr × Obj) := fp.filterMap fun b => (h.get? b).map fun o => (b, o)
theorem mem_pinsAt {fp : List Addr} {h : Heap} {b : Addr} {o : Obj} (hb : b ∈ fp) (e : h.get? b = some o) : (b, o) ∈ pinsAt fp h := List.mem_filterMap.mpr ⟨b, hb, by rw [e]; rfl⟩
theorem of_pinsAt {fp : List Addr} {h : Heap} {p : Addr × Obj} (hp : p ∈ pinsAt fp h) : p.1 ∈ fp ∧ h.get? p.1 = some p.2 := by
  obtain ⟨b, hb, e⟩ := List.mem_filterMap.mp hp
  cases q : h.get? b with
  | none => rw [q] at e; cases e
  | some o =>
    rw [q] at e
    have e' : (b, o) = p := Option.some.inj e
    subst e'
    exact ⟨hb, q⟩
theorem Inv.pinned {pins : List (Addr × Obj)} {σ : St} {H : Hp} {s : Shared} {fp : List Addr} (I : Inv X pins σ H s) (hf : ∀ b ∈ fp, FpOk X pins H b) (ho : ∀ b ∈ fp, ∃ o, s.heap.get? b = some o ∧ ∀ v, o.data ≠ .cell v) : Inv X (pins ++ pinsAt fp s.heap) σ H s :=
  I.pins_of fun p hp => (List.mem_append.mp hp).elim (fun z => I.pin p (List.mem_append_right _ z)) fun z => by
    obtain ⟨hb, e⟩ := of_pinsAt z
    obtain ⟨f0, f1, f2, _⟩ := hf p.1 hb
    obtain ⟨o, e', d⟩ := ho p.1 hb
    rw [e] at e'; cases e'
    exact ⟨e, f0, f1, f2, d⟩
theorem Inv.unpinned {pins pl : List (Addr × Obj)} {σ : St} {H : Hp} {s : Shared} (I : Inv X (pins ++ pl) σ H s) : Inv X pins σ H s := I.pins_of fun p hp => I.pin p (List.mem_append_right _ (List.mem_append_left _ hp))
theorem ps_for {iter : Expr} {body : List Stmt} {wi : TI} {g : TG} {tb : TS} {pos : Pos} (hp : PassesOwn (model X.prog X.w) X.A X.env X.xe) (hc : X.calm = true) (hi : PI X tg iter wi) (hg : PG X tg g) (hb : PSs X body tb)
    (hs : ∀ x, foldedSetIterable iter X.env x = pure x := by intro _; rfl) : PS X (.For tg iter body [] pos) (tFor wi g tb) := by
  intro pins s σ H D I h
  refine wpAny_For (thn (hi pins s σ H _ I h) fun v s1 h1 => thn h1 fun itv s2 h2 => ?_) hs
  obtain ⟨it, fp, tn, J, H2, e, I2, T, st2, f2, W, ⟨m0, w0⟩, turn⟩ := h2
  subst e
  -- what stays true of the iterator's objects through the loop
  have stat : ∀ {H' : Hp}, (∀ b ∈ fp, H' b = none) → ∀ b ∈ fp, FpOk X pins H' b := fun hn b hb => ⟨hn b hb, (f2 b hb).2⟩
  refine codeAny_forLoop_any (fun n s' => ∃ i σ' H', Inv X pins σ' H' s' ∧ tn i s'.heap ∧ (∀ b ∈ fp, H' b = none) ∧ W i n σ' H') ?_ m0 ⟨0, σ, H2, I2, st2, fun b hb => (f2 b hb).1, w0⟩
  rintro n s3 ⟨i, σ3, H3, I3, st3, fr3, w3⟩
  rcases turn i n σ3 H3 w3 with ⟨stop, qn⟩ | ⟨go, N, hN, step⟩
  · refine wpAny_passesOwn hp (thn (T.done X rfl rfl rfl hc i pins s3 σ3 H3 X.xe I3 (stat fr3) st3 stop) fun r s4 ⟨hr, I4⟩ => ?_)
    subst hr
    exact wpAny_execs_nil ⟨σ3, H3, I4, qn⟩
  · refine wpAny_passesOwn hp (thn (T.item X rfl rfl rfl hc i pins s3 σ3 H3 X.xe I3 (stat fr3) st3 go) fun r s4 ⟨u, hr, h4⟩ => ?_)
    subst hr
    refine wpAny_passesOwn hp (thn h4 fun _ s5 ⟨x, H5, I5, r5, y5, st5, fr5⟩ => ?_)
    have I5' := I5.pinned (stat fr5) (T.obj _ _ st5)
    refine wpAny_passesOwn hp (thn (hg _ s5 σ3 H5 x u _ I5' r5 (step x H5 y5)) fun _ s6 ⟨σ6, H6, I6, q6⟩ => ?_)
    refine wpAny_passesOwn hp (thn (hb _ s6 σ6 H6 _ I6 q6) fun f s7 q7 => ?_)
    have again : ∀ {σ7 : St} {H7 : Hp}, Inv X (pins ++ pinsAt fp s5.heap) σ7 H7 s7 → N σ7 H7 → ∃ m, m < n ∧ ∃ i σ' H', Inv X pins σ' H' s7 ∧ tn i s7.heap ∧ (∀ b ∈ fp, H' b = none) ∧ W i m σ' H' := fun {σ7 H7} I7 n7 => by
      obtain ⟨m', hm, w7⟩ := hN σ7 H7 n7
      refine ⟨m', hm, i + 1, σ7, H7, I7.unpinned, T.keep _ _ _ st5 fun b hb o e => (I7.pin (b, o) (List.mem_append_right _ (List.mem_append_right _ (mem_pinsAt hb e)))).1, fun b hb => ?_, w7⟩
      obtain ⟨o, e, d⟩ := T.obj _ _ st5 b hb
      exact (I7.pin (b, o) (List.mem_append_right _ (List.mem_append_right _ (mem_pinsAt hb e)))).2.1
    cases f with
    | next => obtain ⟨σ7, H7, I7, n7⟩ := q7; exact again I7 n7
    | cont => obtain ⟨σ7, H7, I7, n7⟩ := q7; exact again I7 n7
    | brk => obtain ⟨σ7, H7, I7, q7⟩ := q7; exact ⟨σ7, H7, I7.unpinned, q7⟩
    | ret v => obtain ⟨x7, σ7, H7, I7, r7, q7⟩ := q7; exact ⟨x7, σ7, H7, I7.unpinned, r7, q7⟩
end
end L2
namespace L2
open PySem PySem.Spec PyProof.Rows
abbrev R2 := V → V → Hp → VK → Prop
def OpR (X : Cx) (f : Value → Value → Sem Value) (r : R2) : Prop :=
  ∀ (pins : List (Addr × Obj)) (s : Shared) (σ : St) (H : Hp) (x y : V) (v u : Value) (Q : VK), Inv X pins σ H s → RelV x v → RelV y u → r x y H Q →
    wpAny (model X.prog X.w) X.A (f v u) (EP X pins σ Q) X.xe s
def UnR (X : Cx) (f : Value → Sem Value) (r : V → Hp → VK → Prop) : Prop :=
  ∀ (pins : List (Addr × Obj)) (s : Shared) (σ : St) (H : Hp) (x : V) (v : Value) (Q : VK), Inv X pins σ H s → RelV x v → r x H Q →
    wpAny (model X.prog X.w) X.A (f v) (EP X pins σ Q) X.xe s
def CallR (X : Cx) (f : Value) (r : List V → Hp → VK → Prop) : Prop :=
  ∀ (pins : List (Addr × Obj)) (s : Shared) (σ : St) (H : Hp) (xs : List V) (us : List Value) (Q : VK), Inv X pins σ H s → Vals xs us → r xs H Q →
    wpAny (model X.prog X.w) X.A (call f us) (EP X pins σ Q) X.xe s
def tOp (r : R2) (ta tb : TE) : TE := fun σ H Q => ta σ H fun x H1 => tb σ H1 fun y H2 => r x y H2 Q
def tUn (r : V → Hp → VK → Prop) (ta : TE) : TE := fun σ H Q => ta σ H fun x H1 => r x H1 Q
def rI (C : Int → Int → Prop) (g : Int → Int → V) : R2 := fun x y H Q => ∃ i j, x = .int i ∧ y = .int j ∧ C i j ∧ Q (g i j) H
def rI0 (g : Int → Int → V) : R2 := fun x y H Q => ∃ i j, x = .int i ∧ y = .int j ∧ Q (g i j) H
section
variable {X : Cx} {a b c : Expr} {ta tb tc : TE} {pos : Pos}
theorem binT (ha : PE X a ta) (hb : PE X b tb) {pins : List (Addr × Obj)} {s : Shared} {σ : St} {H : Hp} {R : V → V → Hp → Prop} (I : Inv X pins σ H s)
    (h : ta σ H fun x H1 => tb σ H1 fun y H2 => R x y H2) {Q : Value → Shared → Prop} {f : Value → Value → Sem Value}
    (hf : ∀ v u s2 x y H2, Inv X pins σ H2 s2 → RelV x v → RelV y u → R x y H2 → wpAny (model X.prog X.w) X.A (f v u) Q X.xe s2) :
    wpAny (model X.prog X.w) X.A (eval a X.env) (fun v s₁ => wpAny (model X.prog X.w) X.A (eval b X.env) (fun u s₂ => wpAny (model X.prog X.w) X.A (f v u) Q X.xe s₂) X.xe s₁) X.xe s := by
  refine thn (ha pins s σ H _ I h) fun v s1 ⟨x, H1, I1, r1, q1⟩ => ?_
  refine thn (hb pins s1 σ H1 _ I1 q1) fun u s2 ⟨y, H2, I2, r2, q2⟩ => ?_
  exact hf v u s2 x y H2 I2 r1 r2 q2
theorem pe_op {op : Operator} {r : R2} (ho : OpR X (binaryOp op) r) (ha : PE X a ta) (hb : PE X b tb) : PE X (.BinOp a op b pos) (tOp r ta tb) := by
  intro pins s σ H Q I h
  exact wpAny_BinOp (binT ha hb I h fun v u s2 x y H2 I2 rx ry q => ho pins s2 σ H2 x y v u Q I2 rx ry q)
theorem pe_un {op : UnaryOp} {r : V → Hp → VK → Prop} (ho : UnR X (unaryOp op) r) (ha : PE X a ta) : PE X (.UnaryOp op a pos) (tUn r ta) := by
  intro pins s σ H Q I h
  exact UnaryOp_ (thn (ha pins s σ H _ I h) fun v s1 ⟨x, H1, I1, r1, q1⟩ => ho pins s1 σ H1 x v Q I1 r1 q1)
theorem opI {f : Value → Value → Sem Value} {C : Int → Int → Prop} {g : Int → Int → Int}
    (rule : ∀ (i j : Int) (t u : Tok) (s : Shared) (Q : Value → Shared → Prop) (E : Value → Shared → Prop), C i j → Q (.int (g i j) s.toks) { s with toks := s.toks + 1 } → wpAny (model X.prog X.w) X.A (f (.int i t) (.int j u)) Q E s) :
    OpR X f (rI C fun i j => .int (g i j)) := by
  intro pins s σ H x y v u Q I rx ry h
  obtain ⟨i, j, rfl, rfl, hc, q⟩ := h
  obtain ⟨t, rfl⟩ := rx
  obtain ⟨t', rfl⟩ := ry
  exact rule i j t t' s _ _ hc ⟨.int (g i j), H, I.tok _, ⟨_, rfl⟩, q⟩
theorem opI0 {f : Value → Value → Sem Value} {g : Int → Int → Int}
    (rule : ∀ (i j : Int) (t u : Tok) (s : Shared) (Q : Value → Shared → Prop) (E : Value → Shared → Prop), Q (.int (g i j) s.toks) { s with toks := s.toks + 1 } → wpAny (model X.prog X.w) X.A (f (.int i t) (.int j u)) Q E s) :
    OpR X f (rI0 fun i j => .int (g i j)) := by
  intro pins s σ H x y v u Q I rx ry h
  obtain ⟨i, j, rfl, rfl, q⟩ := h
  obtain ⟨t, rfl⟩ := rx
  obtain ⟨t', rfl⟩ := ry
  exact rule i j t t' s _ _ ⟨.int (g i j), H, I.tok _, ⟨_, rfl⟩, q⟩
theorem opB0 {f : Value → Value → Sem Value} {g : Int → Int → Bool}
    (rule : ∀ (i j : Int) (t u : Tok) (s : Shared) (Q : Value → Shared → Prop) (E : Value → Shared → Prop), Q (.bool (g i j)) s → wpAny (model X.prog X.w) X.A (f (.int i t) (.int j u)) Q E s) :
    OpR X f (rI0 fun i j => .bl (g i j)) := by
  intro pins s σ H x y v u Q I rx ry h
  obtain ⟨i, j, rfl, rfl, q⟩ := h
  obtain ⟨t, rfl⟩ := rx
  obtain ⟨t', rfl⟩ := ry
  exact rule i j t t' s _ _ ⟨.bl (g i j), H, I, rfl, q⟩
def CDiv (i j : Int) : Prop := 0 < j ∧ j < 1073741824
def CPow (i j : Int) : Prop := 0 ≤ j ∧ j ≤ 1000000 ∧ i.natAbs < 2 ^ 64
def CMul (i j : Int) : Prop := (-(2 ^ 64) < i ∧ i < 2 ^ 64) ∨ (-(2 ^ 64) < j ∧ j < 2 ^ 64)
theorem CMul.ok {i j : Int} (h : CMul i j) : IntMulOk i j := by
  rcases h with ⟨h1, h2⟩ | ⟨h1, h2⟩
  · exact .of_left (intBits_le_64 h1 h2)
  · exact .of_right (intBits_le_64 h1 h2)
theorem op_add : OpR X (binaryOp .Add) (rI0 fun i j => .int (i + j)) := opI0 fun _ _ _ _ _ _ _ q => add_int q
theorem op_sub : OpR X (binaryOp .Sub) (rI0 fun i j => .int (i - j)) := opI0 fun _ _ _ _ _ _ _ q => sub_int q
theorem op_mul : OpR X (binaryOp .Mult) (rI CMul fun i j => .int (i * j)) := opI fun _ _ _ _ _ _ _ hc q => mul_int q hc.ok
theorem op_fdiv : OpR X (binaryOp .FloorDiv) (rI CDiv fun i j => .int (i / j)) := opI fun i j _ _ _ _ _ hc q => by
  have h1 : (0 : Int) < j := hc.1
  have h2 : j < 1073741824 := hc.2
  exact floordiv_int (by omega) (by rw [Int.fdiv_eq_ediv_of_nonneg i (by omega)]; exact q) (.inl (PyProof.noPylong_small (by omega)))
theorem op_mod : OpR X (binaryOp .Mod) (rI (fun _ j => 0 < j) fun i j => .int (i % j)) := opI fun i j _ _ _ _ _ hc q => by
  have h1 : (0 : Int) < j := hc
  exact mod_int' (by omega) (by rw [Int.fmod_eq_emod_of_nonneg i (by omega)]; exact q)
theorem op_pow : OpR X (binaryOp .Pow) (rI CPow fun i j => .int (i ^ j.toNat)) := opI fun _ _ _ _ _ _ _ hc q => pow_int_small hc.1 hc.2.1 hc.2.2 q
end
section
variable {X : Cx} {a b c : Expr} {ta tb tc : TE} {pos : Pos}
theorem fin_bl {pins : List (Addr × Obj)} {σ : St} {H : Hp} {s : Shared} {Q : VK} {k k' : Bool} (I : Inv X pins σ H s) (q : Q (.bl k) H) (e : k = k') : EP X pins σ Q (.bool k') s := by
  subst e
  exact ⟨.bl k, H, I, rfl, q⟩
theorem op_lt : OpR X (compareOp .Lt) (rI0 fun i j => .bl (decide (i < j))) := opB0 fun _ _ _ _ _ _ _ q => lt_int q
theorem op_gt : OpR X (compareOp .Gt) (rI0 fun i j => .bl (decide (j < i))) := opB0 fun _ _ _ _ _ _ _ q => gt_int q
theorem op_ge : OpR X (compareOp .GtE) (rI0 fun i j => .bl (decide (j ≤ i))) := opB0 fun _ _ _ _ _ _ _ q => ge_int q
theorem op_isN : OpR X (compareOp .Is) (fun x y H Q => y = .non ∧ Q (.bl (decide (x = .non))) H) := by
  intro pins s σ H x y v u Q I rx ry h
  obtain ⟨rfl, q⟩ := h
  cases ry
  refine is_none_gen (fin_bl I q ?_)
  cases x <;> first
    | (cases rx; rfl)
    | (obtain ⟨t, rfl⟩ := rx; rfl)
theorem op_notN : OpR X (compareOp .IsNot) (fun x y H Q => y = .non ∧ Q (.bl (!decide (x = .non))) H) := by
  intro pins s σ H x y v u Q I rx ry h
  obtain ⟨rfl, q⟩ := h
  cases ry
  refine isnot_none_gen (fin_bl I q ?_)
  cases x <;> first
    | (cases rx; rfl)
    | (obtain ⟨t, rfl⟩ := rx; rfl)
theorem nomark (b : Expr) {op : CmpOp} (h : op ≠ .In := by decide) (h2 : op ≠ .NotIn := by decide) : behindInMarks op b = false := by
  have e1 : (op == CmpOp.In) = false := by cases op <;> first | rfl | exact absurd rfl h
  have e2 : (op == CmpOp.NotIn) = false := by cases op <;> first | rfl | exact absurd rfl h2
  cases b <;> simp [behindInMarks, e1, e2]
def tTest (t : TE) : TT := fun σ H Q => t σ H fun x H' => ∃ k, x = .bl k ∧ Q k H'
theorem pt_cmpR {op : CmpOp} {r : R2} (ho : OpR X (compareOp op) r) (ha : PE X a ta) (hb : PE X b tb) (hm : behindInMarks op b = false) : PT X (.Compare a [op] [b] pos) (tTest (tOp r ta tb)) := by
  intro pins s σ H Q I h
  refine wpAny_isTrue_Compare1 (thn (ha pins s σ H _ I h) fun v s1 ⟨x, H1, I1, r1, q1⟩ => thn (hb pins s1 σ H1 _ I1 q1) fun u s2 ⟨y, H2, I2, r2, q2⟩ =>
    thn (ho pins s2 σ H2 x y v u _ I2 r1 r2 q2) fun c s3 ⟨z, H3, I3, r3, k, e, q3⟩ => ?_) hm
  subst e
  cases r3
  exact wpAny_truthy_bool ⟨H3, I3, q3⟩
theorem line63 : (sizeLine : Nat) < 2 ^ 63 := by rw [sizeLine_eq]; decide
theorem op_add_str : OpR X (binaryOp .Add) (fun x y H Q => ∃ i j, x = .str i ∧ y = .str j ∧ i.length + j.length ≤ sizeLine ∧ Q (.str (i ++ j)) H) := by
  intro pins s σ H x y v u Q I rx ry h
  obtain ⟨i, j, rfl, rfl, hz, q⟩ := h
  obtain ⟨t, rfl⟩ := rx
  obtain ⟨t', rfl⟩ := ry
  exact add_str (fun t' tk => ⟨.str (i ++ j), H, I.tok _, ⟨_, rfl⟩, q⟩) hz
theorem vals1 {x : V} {us : List Value} (r : Vals [x] us) : ∃ u, us = [u] ∧ RelV x u := by
  cases r with
  | cons r1 r2 => cases r2; exact ⟨_, rfl, r1⟩
theorem vals2 {x y : V} {us : List Value} (r : Vals [x, y] us) : ∃ u w', us = [u, w'] ∧ RelV x u ∧ RelV y w' := by
  cases r with
  | cons r1 r2 =>
    cases r2 with
    | cons r3 r4 => cases r4; exact ⟨_, _, rfl, r1, r3⟩
end
end L2
namespace L2
open PySem PySem.Spec PyProof.Rows
structure ObjM (h : Heap) (x dx C : Addr) (mA : Str → Option Value) : Prop where
  obj : h.get? x = some (PySem.W.instObj C dx)
  ns : h.Ns1 dx mA
  ne : dx ≠ x
section
variable {prog : Program} {w : World} {A : Around} {E : Value → Shared → Prop} {s : Shared} {K : PySem.W.Frag} {x dx C f : Addr} {mA : Str → Option Value} {name : Str} {v : Value}
end
section
variable {P : Program} {w : World} {H H' : Hp} {h h' : Heap} {a C dx : Addr} {fs fs' : List (Str × V)}
end
structure Cls (K : PySem.W.Frag) (C : Addr) : Prop where
  pg : PySem.W.plainGet K C Str.empty = true
  hd : PySem.W.hasDictIn K C = true
  po : PySem.W.plainOver K C = true
  sa : PySem.W.findIn K (.ref C) "__setattr__" = some (some (.builtin "object.__setattr__"))
theorem Cls.get {K : PySem.W.Frag} {C : Addr} (c : Cls K C) (f : Str) : PySem.W.plainGet K C f = true := c.pg
structure Con (K : PySem.W.Frag) (C : Addr) (f : Str) (v : V) (u : Value) : Prop where
  at_ : PySem.W.findIn K (.ref C) f = some (some u)
  rel : RelV v u
  get : PySem.W.specialIn K u "__get__" = some none
  cp : PySem.W.copiedNames.contains f = false
structure Meth (K : PySem.W.Frag) (C : Addr) (m : Str) (f : Addr) : Prop where
  at_ : PySem.W.findIn K (.ref C) m = some (some (.ref f))
  fn : PySem.W.isFn K (.ref f) = true
  kp : PySem.W.keepIn K (.ref f) = true
section
variable {X : Cx} {pins : List (Addr × Obj)} {σ : St} {H : Hp} {s : Shared} {a C dx : Addr} {fs : List (Str × V)} {f : Str} {v : V} {A : Around} {E : Value → Shared → Prop}
end
section
variable {X : Cx} {o e value : Expr} {f : Str} {pos pos' tpos : Pos} {ta tv : TE}
def rAdd : V → V → Hp → VK → Prop := fun x y H Q => ∃ i j, x = .int i ∧ y = .int j ∧ Q (.int (i + j)) H
def rSub : V → V → Hp → VK → Prop := fun x y H Q => ∃ i j, x = .int i ∧ y = .int j ∧ Q (.int (i - j)) H
end
section
variable {X : Cx} {pins : List (Addr × Obj)} {σ : St} {H : Hp} {s : Shared} {A : Around} {E : Value → Shared → Prop} {Q : Value → Shared → Prop} {c : Value} {b : Bool}
inductive TyOf (K : PySem.W.Frag) (H : Hp) : V → Value → Prop where
  | non : TyOf K H .non (.type "NoneType")
  | bl (x : Bool) : TyOf K H (.bl x) (.type "bool")
  | int (i : Int) : TyOf K H (.int i) (.type "int")
  | str (x : Str) : TyOf K H (.str x) (.type "str")
  | flt (x : UInt64) : TyOf K H (.flt x) (.type "float")
  | lst {a : Addr} {xs : List V} (e : H a = some (.lst xs)) : TyOf K H (.ref a) (.type "list")
  | frz {a : Addr} {o : Obj} {xs : List V} (e : H a = some (.frz o (.lst xs))) : TyOf K H (.ref a) (.type "list")
  | tup {a : Addr} {xs : List V} (e : H a = some (.tup xs)) : TyOf K H (.ref a) (.type "tuple")
  | dK {a : Addr} {kvs : List (Key × V)} (e : H a = some (.dK kvs)) : TyOf K H (.ref a) (.type "dict")
  | dT {a : Addr} {kvs : List (List Key × V)} (e : H a = some (.dT kvs)) : TyOf K H (.ref a) (.type "dict")
  | ins {a C dx : Addr} {fs : List (Str × V)} (e : H a = some (.ins C dx fs)) (cl : Cls K C) (ha : PySem.W.findIn K (.ref C) "__class__" = some (some (.builtin "object.__class__")))
      (hn : PySem.W.specialIn K (.builtin "object.__class__") "__get__" = some (some (.builtin "getset_descriptor.__get__"))) (htk : PySem.W.takesIn K (.builtin "object.__class__") = some true)
      (hm : PySem.W.mroIn K C (.type "object") = some true) : TyOf K H (.ref a) (.ref C)
end
end L2
namespace L2
open PySem PySem.Spec PyProof.Rows
structure Room (k : Nat) (A : Around) : Prop where
  hd : A.handled = none
  dp : A.depth + 3 * k + 5 < recursionLimit
  un : A.units + 16 * k + 200 < cLine
theorem Room.mono {j k : Nat} {A : Around} (r : Room k A) (h : j ≤ k) : Room j A := ⟨r.hd, by have := r.dp; omega, by have := r.un; omega⟩
theorem Room.deeper {k : Nat} {A : Around} (r : Room (k + 1) A) (env : Env) : Room k (A.deeper env) :=
  ⟨r.hd, by have := r.dp; show A.depth + 1 + 3 * k + 5 < _; omega, by have := r.un; show A.units + 3 + 16 * k + 200 < _; omega⟩
theorem Room.in1 {k : Nat} {A : Around} (r : Room (k + 1) A) : Room k A.in1 :=
  ⟨r.hd, by have := r.dp; show A.depth + 3 * k + 5 < _; omega, by have := r.un; show A.units + 1 + 16 * k + 200 < _; omega⟩
theorem Room.depth {k : Nat} {A : Around} (r : Room k A) : A.depth < recursionLimit := by have := r.dp; omega
theorem Room.units {k : Nat} {A : Around} (r : Room k A) : A.units + 64 < cLine := by have := r.un; omega
def tNil : TA := fun _ H Q => Q [] H
def tCons (ta : TE) (tr : TA) : TA := fun σ H Q => ta σ H fun x H1 => tr σ H1 fun xs H2 => Q (x :: xs) H2
section
variable {X : Cx} {e : Expr} {es : List Expr} {te : TE} {t : TA} {pos : Pos}
theorem pa_nil : PA X [] tNil := fun _ _ _ _ H Q I h => Calls.spliced_nil ⟨[], H, I, .nil, h⟩
theorem pa_cons (ha : PE X e te) (hr : PA X es t) (hs : starEach (e :: es) X.env = (false, eval e X.env) :: starEach es X.env := by rfl) : PA X (e :: es) (tCons te t) := by
  intro pos pins s σ H Q I h
  rw [hs]
  show wpAny _ _ (spliced ((false, eval e X.env) :: backTo pos (starEach es X.env))) _ _ s
  refine Calls.spliced_cons (thn (ha pins s σ H _ I h) fun u s1 ⟨x, H1, I1, r1, q1⟩ => ?_)
  exact thn (hr pos pins s1 σ H1 _ I1 q1) fun us s2 ⟨xs, H2, I2, r2, q2⟩ => ⟨x :: xs, H2, I2, .cons r1 r2, q2⟩
def tTup (t : TA) : TE := fun σ H Q => t σ H fun xs H1 => xs.length ≤ sizeLine ∧ ∀ p, H1 p = none → Q (.ref p) (upd H1 p (.tup xs))
def tLst (t : TA) : TE := fun σ H Q => t σ H fun xs H1 => xs.length ≤ sizeLine ∧ ∀ p, H1 p = none → Q (.ref p) (upd H1 p (.lst xs))
theorem pe_tup {x1} (h : PA X es t) : PE X (.Tuple es x1 pos) (tTup t) := by
  intro pins s σ H Q I hq
  refine wpAny_Tuple_spliced (thn (h pos pins s σ H _ I hq) fun us s1 ⟨xs, H1, I1, r, z, q⟩ => ⟨by rw [← r.length]; exact z, ?_⟩)
  have hf : H1 s1.heap.objs.size = none := I1.hok.fresh (Nat.le_refl _)
  refine ⟨.ref s1.heap.objs.size, upd H1 s1.heap.objs.size (.tup xs), I1.laid (t' := s1.toks) (fun b u e => Heap.get?_push_of_some _ e) (Nat.le_refl _) ?_, rfl, q _ hf⟩
  exact ⟨z, us, r, ⟨_, Heap.get?_push_size _ rfl, rfl, _, rfl⟩⟩
theorem pe_lst (h : PA X es t) : PE X (.List es pos) (tLst t) := by
  intro pins s σ H Q I hq
  refine wpAny_List_spliced (thn (h pos pins s σ H _ I hq) fun us s1 ⟨xs, H1, I1, r, z, q⟩ => ⟨by rw [← r.length]; exact z, ?_⟩)
  have hf : H1 s1.heap.objs.size = none := I1.hok.fresh (Nat.le_refl _)
  refine ⟨.ref s1.heap.objs.size, upd H1 s1.heap.objs.size (.lst xs), I1.laid (t' := s1.toks) (fun b u e => Heap.get?_push_of_some _ e) (Nat.le_refl _) ?_, rfl, q _ hf⟩
  exact ⟨z, us, 0, r, Heap.get?_push_size _ rfl⟩
end
abbrev Sp := List V → Hp → VK → XK → Prop
abbrev CXT := List Env → Hp → Shared → XK → Value → Shared → Prop
structure Env0 (P : Program) (w : World) (K : PySem.W.Frag) (mg : Str → Option Value) (base : Heap) (A : Around) (outer : List Env) (s : Shared) (H : Hp) : Prop where
  frames : A.frames = some outer
  mod : Mod K mg base
  bs : ∀ b o, base.get? b = some o → s.heap.get? b = some o ∧ H b = none
  bsz : base.objs.size ≤ s.heap.objs.size
  funs : s.heap.FunFrames base outer
  frf : ∀ b ∈ frs outer, H b = none
  hok : HOk P w H s.heap
  bare : AllBare s.gens
def CE (outer : List Env) (P : Program) (w : World) (H : Hp) (s : Shared) (Q : VK) (u : Value) (s' : Shared) : Prop :=
  ∃ v H', s'.os = s.os ∧ AllBare s'.gens ∧ Un (frs outer) [] H H' s.heap s'.heap ∧ HOk P w H' s'.heap ∧ RelV v u ∧ Q v H'
def CR (CX : CXT) (outer : List Env) (P : Program) (w : World) (H : Hp) (s : Shared) (Q : VK) (E : XK) (r : Result) (s' : Shared) : Prop :=
  match r with
  | .ok (.ret u) => CE outer P w H s Q u s'
  | .ok _ => False
  | .error e => CX outer H s E e s'
structure FnOk (P : Program) (w : World) (K : PySem.W.Frag) (mg : Str → Option Value) (base : Heap) (CX : CXT) (k : Nat) (f : Addr) (fd : FuncData) (ps : List Str) (sp : Sp) : Prop where
  len : ∀ vs H Q E, sp vs H Q E → vs.length = ps.length
  run : ∀ (A : Around) (outer : List Env) (s : Shared) (H : Hp) (args : Args) (us : List Value) (vs : List V) (Q : VK) (E : XK), Room k A → Env0 P w K mg base A outer s H → BindsTo s fd args (ps.zip us) → Vals vs us → sp vs H Q E →
    codeAny (model P w) A (.call (.ref f) args) (CR CX outer P w H s Q E) s
theorem FnOk.mono {P : Program} {w : World} {K : PySem.W.Frag} {mg : Str → Option Value} {base : Heap} {CX : CXT} {j k : Nat} {f : Addr} {fd : FuncData} {ps : List Str} {sp : Sp} (F : FnOk P w K mg base CX j f fd ps sp) (h : j ≤ k) :
    FnOk P w K mg base CX k f fd ps sp := ⟨F.len, fun A outer s H args us vs Q E hr => F.run A outer s H args us vs Q E (hr.mono h)⟩
theorem FnOk.imp {P : Program} {w : World} {K : PySem.W.Frag} {mg : Str → Option Value} {base : Heap} {CX : CXT} {k : Nat} {f : Addr} {fd : FuncData} {ps : List Str} {sp sp' : Sp} (F : FnOk P w K mg base CX k f fd ps sp)
    (h : ∀ vs H Q E, sp' vs H Q E → sp vs H Q E) : FnOk P w K mg base CX k f fd ps sp' :=
  ⟨fun vs H Q E q => F.len vs H Q E (h _ _ _ _ q), fun A outer s H args us vs Q E hr he hb hv hs => F.run A outer s H args us vs Q E hr he hb hv (h _ _ _ _ hs)⟩
theorem Env0.in1 {P : Program} {w : World} {K : PySem.W.Frag} {mg : Str → Option Value} {base : Heap} {A : Around} {outer : List Env} {s : Shared} {H : Hp} (e : Env0 P w K mg base A outer s H) :
    Env0 P w K mg base A.in1 outer s H := ⟨e.frames, e.mod, e.bs, e.bsz, e.funs, e.frf, e.hok, e.bare⟩
section
variable {X : Cx} {pins : List (Addr × Obj)} {σ : St} {H : Hp} {s s' : Shared}
theorem Inv.env0 (I : Inv X pins σ H s) : Env0 X.prog X.w X.K X.mg X.base X.A X.stack s H :=
  ⟨I.ok.frames, I.ok.mod, I.bs, Nat.le_trans I.ok.bsz I.sz, I.stack, I.stkFree, I.hok, I.bare⟩
theorem Inv.after {Q : VK} {u : Value} (I : Inv X pins σ H s) (h : CE X.stack X.prog X.w H s Q u s') : EP X pins σ Q u s' := by
  obtain ⟨v, H', os, bare, un, hok, r, q⟩ := h
  obtain ⟨hh, g, d, t, os'⟩ := s'
  obtain rfl : os' = s.os := os
  exact ⟨v, H', I.call (h' := hh) (g' := g) (d' := d) (t' := t) (ch := []) un hok bare (fun b z => absurd z (by simp)), r, q⟩
end
def tCall (sp : Sp) (dvs : List V) (E : XK) (t : TA) : TE := fun σ H Q => t σ H fun vs H1 => sp (vs ++ dvs) H1 Q E
def Binds (K : PySem.W.Frag) (fd : FuncData) (ps : List Str) (ds : List Value) : Prop :=
  ∀ (s : Shared) (us : List Value), K.In s.heap → (us ++ ds).length = ps.length → BindsTo s fd ⟨us, []⟩ (ps.zip (us ++ ds))
theorem Binds.all {K : PySem.W.Frag} {fd : FuncData} {ps : List Str} (h : ∀ us : List Value, us.length = ps.length → bindArgs fd ⟨us, []⟩ = pure (ps.zip us)) : Binds K fd ps [] := fun s us _ hl => by
  rw [List.append_nil] at hl ⊢
  exact .of_eq (h us hl)
def Passes (CX : CXT) (X : Cx) (E : XK) : Prop := ∀ (pins : List (Addr × Obj)) (σ : St) (H : Hp) (s : Shared) (e : Value) (s' : Shared), Inv X pins σ H s → CX X.stack H s E e s' → X.xe e s'
section
variable {X : Cx} {CX : CXT} {k : Nat} {f C : Addr} {fd : FuncData} {ps : List Str} {sp : Sp} {dvs : List V} {ds : List Value} {E : XK} {x m : Str} {p pos apos : Pos} {e o : Expr} {es : List Expr} {ta : TE} {t : TA}
theorem run_fn {pins : List (Addr × Obj)} {σ : St} {H : Hp} {s : Shared} {Q : VK} {us : List Value} {vs : List V} (F : FnOk X.prog X.w X.K X.mg X.base CX k f fd ps sp) (hr : Room k X.A) (hb : Binds X.K fd ps ds) (hd : Vals dvs ds) (hx : Passes CX X E)
    (I : Inv X pins σ H s) (r : Vals vs us) (h : sp (vs ++ dvs) H Q E) : wpAny (model X.prog X.w) X.A (call (.ref f) us) (EP X pins σ Q) X.xe s := by
  have r2 : Vals (vs ++ dvs) (us ++ ds) := r.append hd
  have hl : (us ++ ds).length = ps.length := by rw [← r2.length]; exact F.len _ _ _ _ h
  refine wpAny_call (codeAny_mono (F.run X.A X.stack s H ⟨us, []⟩ (us ++ ds) (vs ++ dvs) Q E hr I.env0 (hb s us I.kIn hl) r2 h) fun r s' hq => ?_)
  cases r with
  | error e => exact hx pins σ H s e s' I hq
  | ok fl =>
    cases fl with
    | ret u => exact I.after hq
    | next => exact False.elim hq
    | brk => exact False.elim hq
    | cont => exact False.elim hq
theorem pe_call (F : FnOk X.prog X.w X.K X.mg X.base CX k f fd ps sp) (hr : Room k X.A) (hg : Gl X x) (hm : X.mg x = some (.ref f)) (hk : PySem.W.keepIn X.K (.ref f) = true) (hb : Binds X.K fd ps ds) (hd : Vals dvs ds) (hx : Passes CX X E)
    (ha : PA X (e :: es) t) (hdb : (x == ("__debug__" : Str)) = false := by decide) (he : starEach (e :: es) X.env = (false, eval e X.env) :: starEach es X.env := by rfl) (hpl : (backTo pos (starEach es X.env)).any (·.1) = false := by rfl) :
    PE X (.Call (.Name x p) (e :: es) [] pos) (tCall sp dvs E t) := by
  intro pins s σ H Q I h
  refine wpAny_Call_Name_kw (ld_glob I hg hm ?_ hdb)
  refine PySem.W.callWith_K (h₀ := X.base) I.ok.mod.kin hk (thn (ha pos pins s σ H _ I h) fun us s1 ⟨vs, H1, I1, r, q⟩ => ⟨I1.kIn, ?_⟩) he hpl
  exact run_fn F hr hb hd hx I1 r q
structure Mk (K : PySem.W.Frag) (C f : Addr) : Prop where
  makes : PySem.W.makesIn K C = true
  init : PySem.W.findIn K (.ref C) "__init__" = some (some (.ref f))
  fn : PySem.W.isFn K (.ref f) = true
  kp : PySem.W.keepIn K (.ref C) = true
end
section
variable {X : Cx} {CX : CXT} {k : Nat} {f C : Addr} {fd : FuncData} {ps ks : List Str} {sp : Sp} {E : XK} {x m : Str} {p pos apos kpos : Pos} {e o : Expr} {es : List Expr} {kws : List Keyword} {te ta : TE} {t tk : TA} {nm : Option Str}
structure KBinds (K : PySem.W.Frag) (fd : FuncData) (ps ks : List Str) (g : List Value → List Value → List Value) (gV : List V → List V → List V) : Prop where
  to : ∀ (s : Shared) (us ws : List Value), K.In s.heap → (g us ws).length = ps.length → BindsTo s fd ⟨us, ks.zip ws⟩ (ps.zip (g us ws))
  rel : ∀ {vs : List V} {us : List Value} {zs : List V} {ws : List Value}, Vals vs us → Vals zs ws → Vals (gV vs zs) (g us ws)
variable {g : List Value → List Value → List Value} {gV : List V → List V → List V}
end
structure FnScope (N P : List Str) (sc : Scope) : Prop where
  kind : sc.kind = .function
  co : sc.isCoroutine = false
  gen : sc.isGenerator = false
  nd : N.Nodup
  pre : N.take P.length = P
  par : ∀ x ∈ P, sc.names.lookup x = some .local ∨ sc.names.lookup x = some .cell
  nofree : ∀ y ∈ sc.names, y.2 ≠ .free
theorem bindL_out {kindOf : Str → Option NameKind} {x : Str} : ∀ {binds : List (Str × Value)} {m : Str → Option Value}, (∀ v, (x, v) ∉ binds) → bindL kindOf binds m x = m x
  | [], _, _ => rfl
  | (n, v) :: r, m, h => by
    unfold bindL
    rw [bindL_out fun w hw => h w (List.mem_cons_of_mem _ hw)]
    split
    · have : x ≠ n := by rintro rfl; exact h v List.mem_cons_self
      simp [this]
    · rfl
theorem bindC_out {kindOf : Str → Option NameKind} {x : Str} : ∀ {binds : List (Str × Value)} {m : Str → Option Value}, (∀ v, (x, v) ∉ binds) → bindC kindOf binds m x = m x
  | [], _, _ => rfl
  | (n, v) :: r, m, h => by
    unfold bindC
    rw [bindC_out fun w hw => h w (List.mem_cons_of_mem _ hw)]
    split
    · rfl
    · have : x ≠ n := by rintro rfl; exact h v List.mem_cons_self
      simp [this]
theorem bindL_get {kindOf : Str → Option NameKind} {x : Str} {v : Value} : ∀ {P : List Str} {vs : List Value} {i : Nat} {m : Str → Option Value}, P.Nodup → P[i]? = some x → vs[i]? = some v → kindOf x = some .local →
    bindL kindOf (P.zip vs) m x = some v
  | [], _, _, _, _, h, _, _ => by simp at h
  | _ :: _, [], _, _, _, _, h, _ => by simp at h
  | p :: P, w :: vs, 0, m, nd, h1, h2, hk => by
    simp at h1 h2; subst h1; subst h2
    show bindL kindOf ((p, w) :: P.zip vs) m p = _
    unfold bindL
    rw [bindL_out fun v hv => (List.nodup_cons.mp nd).1 (List.of_mem_zip hv).1, if_pos hk]
    simp
  | p :: P, w :: vs, i + 1, m, nd, h1, h2, hk => by
    show bindL kindOf ((p, w) :: P.zip vs) m x = _
    unfold bindL
    exact bindL_get (i := i) (List.nodup_cons.mp nd).2 (by simpa using h1) (by simpa using h2) hk
theorem bindC_get {kindOf : Str → Option NameKind} {x : Str} {v : Value} : ∀ {P : List Str} {vs : List Value} {i : Nat} {m : Str → Option Value}, P.Nodup → P[i]? = some x → vs[i]? = some v → kindOf x ≠ some .local →
    bindC kindOf (P.zip vs) m x = some v
  | [], _, _, _, _, h, _, _ => by simp at h
  | _ :: _, [], _, _, _, _, h, _ => by simp at h
  | p :: P, w :: vs, 0, m, nd, h1, h2, hk => by
    simp at h1 h2; subst h1; subst h2
    show bindC kindOf ((p, w) :: P.zip vs) m p = _
    unfold bindC
    rw [bindC_out fun v hv => (List.nodup_cons.mp nd).1 (List.of_mem_zip hv).1, if_neg hk]
    simp
  | p :: P, w :: vs, i + 1, m, nd, h1, h2, hk => by
    show bindC kindOf ((p, w) :: P.zip vs) m x = _
    unfold bindC
    exact bindC_get (i := i) (List.nodup_cons.mp nd).2 (by simpa using h1) (by simpa using h2) hk
def start (N : List Str) (vs : List V) : St := vs.map some ++ List.replicate (N.length - vs.length) none
def cxOf (CX : CXT) (P : Program) (w : World) (K : PySem.W.Frag) (mg : Str → Option Value) (base : Heap) (N : List Str) (qual : Str) (scope : Scope) (f : Addr) (cd : Value) (A : Around) (outer : List Env) (s : Shared) (H : Hp) (E : XK) : Cx where
  prog := P
  w := w
  K := K
  mg := mg
  base := base
  A := A.deeper (envOfC qual scope s.heap.objs.size f cd)
  N := N
  s₀ := s
  H₀ := H
  env := envOfC qual scope s.heap.objs.size f cd
  outer := outer
  stack := envOfC qual scope s.heap.objs.size f cd :: outer
  ex := []
  calm := true
  fn := fun _ => true
  pn := []
  xe := fun e s' => wpAny (model P w) (A.deeper (envOfC qual scope s.heap.objs.size f cd)) (leaving (envOfC qual scope s.heap.objs.size f cd) e) (fun _ s'' => CX outer H s E e s'') (fun e' s'' => CX outer H s E e' s'') s'
theorem cell_has {sc : Scope} {n : Nat} {x : Str} (h : sc.names.lookup x = some .cell) : ∃ c, (cellsFrom n sc.names []).lookup x = some c := by
  have q := PySem.W.cellsFrom_some sc.names n [] (.inl h)
  exact Option.isSome_iff_exists.mp q
theorem inv_start {CX : CXT} {P : Program} {w : World} {K : PySem.W.Frag} {mg : Str → Option Value} {base : Heap} {N ps : List Str} {qual : Str} {scope : Scope} {f : Addr} {cd : Value} {A : Around} {outer : List Env} {s s1 : Shared} {H : Hp} {E : XK} {us : List Value} {vs : List V}
    (S : FnScope N ps scope) (hd : A.handled = none) (e0 : Env0 P w K mg base A outer s H) (hl : vs.length = ps.length) (r : Vals vs us)
    (x : InCallC s s.heap.objs.size (bindL (envOfC qual scope s.heap.objs.size f cd).kindOf (ps.zip us) fun _ => none) (cellsFrom (s.heap.objs.size + 1) scope.names []) (bindC (envOfC qual scope s.heap.objs.size f cd).kindOf (ps.zip us) fun _ => none) s1) :
    Inv (cxOf CX P w K mg base N qual scope f cd A outer s H E) [] (start N vs) H s1 := by
  have hpl : ps.length ≤ N.length := by have := congrArg List.length S.pre; rw [List.length_take] at this; omega
  obtain ⟨h1, tk, rfl, hk⟩ := x.done
  have noA : ∀ b : Addr, b ∉ (cxOf CX P w K mg base N qual scope f cd A outer s H E).ex := fun b z => absurd (show b ∈ ([] : List Addr) from z) (by simp)
  refine ⟨⟨e0.mod, S.kind, rfl, rfl, Nat.le_refl _, fun y z c h1 h2 => ?_, fun y hy => ?_, fun y c _ h => ?_, fun _ => hd, Around.frames_deeper e0.frames, .inr ⟨rfl, rfl⟩, fun b z => absurd z (noA b), e0.bs, e0.bsz, fun b _ _ => noA b, fun b z => absurd z (noA b), e0.funs, e0.frf⟩,
    rfl, e0.bare, Un.kept hk, ⟨_, x.toInCall.ns, fun i y v h1 h2 h3 => ?_⟩, fun y c h => ⟨_, x.cell y c h⟩, e0.hok.fresh (Nat.le_refl _), fun y c h => ?_, fun p hp => absurd (show p ∈ ([] : List (Addr × Obj)) from hp) (by simp), e0.hok.kept hk, ?_⟩
  · exact name_of_addr x.apart (PySem.mem_of_lookup h1) (PySem.mem_of_lookup h2)
  · have hy : scope.names.lookup y = some .cell ∨ scope.names.lookup y = some .free := hy
    rcases hy with hy | hy
    · exact cell_has hy
    · exact absurd rfl (S.nofree _ (PySem.mem_of_lookup hy))
  · exact Nat.le_of_lt (x.above y c (PySem.mem_of_lookup h))
  · have hi : i < vs.length := by
      unfold start at h2
      by_cases hi : i < vs.length
      · exact hi
      · rw [List.getElem?_append_right (by simpa using hi)] at h2
        rw [List.getElem?_replicate] at h2
        split at h2 <;> cases h2
    have ha : vs[i]? = some v := by
      unfold start at h2
      rw [List.getElem?_append_left (by simpa using hi), List.getElem?_map] at h2
      cases e : vs[i]? with
      | none => rw [e] at h2; cases h2
      | some a => rw [e] at h2; cases h2; rfl
    obtain ⟨u, hu, rv⟩ := r.get ha
    have hp : ps[i]? = some y := by
      rw [← S.pre, List.getElem?_take_of_lt (by omega)]; exact h1
    have ndP : ps.Nodup := by rw [← S.pre]; exact S.nd.sublist (List.take_sublist _ _)
    refine ⟨u, rv, ?_⟩
    rcases S.par y (List.mem_of_getElem? hp) with k | k
    · exact .inl ⟨k, bindL_get ndP hp hu k⟩
    · obtain ⟨c, e⟩ := cell_has (n := s.heap.objs.size + 1) k
      refine .inr ⟨.inl k, c, e, ?_⟩
      have q := x.cell y c e
      rw [bindC_get ndP hp hu (by show scope.names.lookup y ≠ _; rw [k]; decide)] at q
      exact q
  · exact e0.hok.fresh (Nat.le_of_lt (x.above y c (PySem.mem_of_lookup h)))
  · unfold start
    show _ = N.length
    rw [List.length_append, List.length_map, List.length_replicate]
    omega
theorem fn_of {CX : CXT} {P : Program} {w : World} {K : PySem.W.Frag} {mg : Str → Option Value} {base : Heap} {k : Nat} {f : Addr} {name qual : Str} {params : Arguments} {body : List Stmt} {scope : Scope} {dV kV doc pm cdv ct oc : Value} {an od : Option Addr}
    {osl : Array (Option Value)} {N ps : List Str} {sp : Sp} (lk : K.lookup f = some ⟨oc, od, .func (PySem.W.fnOf name qual params body scope dV kV doc pm an cdv ct), osl⟩) (hcd : PySem.W.codeIn K cdv qual = true) (S : FnScope N ps scope)
    (len : ∀ vs H Q E, sp vs H Q E → vs.length = ps.length)
    (hbody : ∀ (A : Around) (outer : List Env) (s : Shared) (H : Hp) (vs : List V) (Q : VK) (E : XK), Room k (A.deeper (envOfC qual scope s.heap.objs.size f cdv)) → sp vs H Q E →
      ∃ t, PSs (cxOf CX P w K mg base N qual scope f cdv A outer s H E) body t ∧ t { nx := fun _ H' => Q .non H', rt := Q } (start N vs) H) :
    FnOk P w K mg base CX (k + 1) f (PySem.W.fnOf name qual params body scope dV kV doc pm an cdv ct) ps sp := by
  refine ⟨len, fun A outer s H args us vs Q E hr e0 hb r hsp => ?_⟩
  have hl := len _ _ _ _ hsp
  have KX : K.In s.heap := e0.mod.kin.keeps fun b o e => (e0.bs b o e).1
  have lim : s.heap.NoLimit := e0.mod.nolimit.keeps fun b o e => (e0.bs b o e).1
  have hkind : ∀ y ∈ ps.zip us, scope.names.lookup y.1 = some .local ∨ (scope.names.lookup y.1 = some .cell ∧ ((cellsFrom (s.heap.objs.size + 1) scope.names []).lookup y.1).isSome = true) := fun ⟨n, v⟩ hy => by
    rcases S.par n (List.of_mem_zip hy).1 with q | q
    · exact .inl q
    · exact .inr ⟨q, PySem.W.cellsFrom_some _ _ _ (.inl q)⟩
  refine codeAny_call_function hr.depth (KX _ _ lk) rfl S.co S.gen rfl (PySem.W.codeRec_of KX hcd) (hb _ _ _ _ ?_)
  refine wpAny_newFunctionEnv_cells S.kind hkind fun env he s1 x => ?_
  subst he
  refine ⟨lim.keeps x.toInCall.keep, codeAny_func ?_⟩
  obtain ⟨t, ht, hq⟩ := hbody A outer s H vs Q E (hr.deeper _) hsp
  have I : Inv (cxOf CX P w K mg base N qual scope f cdv A outer s H E) [] (start N vs) H s1 := inv_start S hr.hd e0 hl r x
  refine wpAny_mono (ht [] s1 (start N vs) H _ I hq) (fun fl s' hs => ?_) fun e s' hs => hs
  have fin : ∀ {σ' : St} {H' : Hp} {v : V} {u : Value}, Inv (cxOf CX P w K mg base N qual scope f cdv A outer s H E) [] σ' H' s' → RelV v u → Q v H' → CE outer P w H s Q u s' :=
    fun {σ' H' v u} J rv q => ⟨v, H', J.os, J.bare, J.base, J.hok, rv, q⟩
  cases fl with
  | ret u =>
    obtain ⟨v, σ', H', J, rv, q⟩ := hs
    exact fin J rv q
  | next =>
    obtain ⟨σ', H', J, q⟩ := hs
    exact fin (v := V.non) (u := Value.none) J rfl q
  | brk =>
    obtain ⟨_, _, _, q⟩ := hs
    exact False.elim q
  | cont =>
    obtain ⟨_, _, _, q⟩ := hs
    exact False.elim q
end L2
namespace L2
open PySem PySem.Spec PyProof.Rows
section
variable {X : Cx} {x : Str} {p pos : Pos} {e : Expr} {es : List Expr} {t : TA} {id T : String} {r : List V → Hp → VK → Prop}
def tCB (r : List V → Hp → VK → Prop) (t : TA) : TE := fun σ H Q => t σ H fun vs H1 => r vs H1 Q
theorem pe_callB (hc : CallR X (.builtin id) r) (hg : Gl X x) (hm : X.mg x = none) (hv : bootBuiltins x = some (.builtin id)) (ha : PA X (e :: es) t) (hn : x ≠ "__name__" := by decide) (hdb : (x == ("__debug__" : Str)) = false := by decide)
    (he : starEach (e :: es) X.env = (false, eval e X.env) :: starEach es X.env := by rfl) (hpl : (backTo pos (starEach es X.env)).any (·.1) = false := by rfl) : PE X (.Call (.Name x p) (e :: es) [] pos) (tCB r t) := by
  intro pins s σ H Q I h
  refine wpAny_Call_Name_kw (ld_blt I hg hm hv ?_ hn hdb)
  exact PyProof.Rows.callWith_builtin1 (thn (ha pos pins s σ H _ I h) fun us s1 ⟨vs, H1, I1, r1, q1⟩ => hc pins s1 σ H1 vs us Q I1 r1 q1) he hpl
end
end L2
namespace HT
open PySem PyProof.Rows
section
open PySem.SeqAt
open PySem.AutoSeq1 (wpAny_loadPart')
open PySem.MeetsSeq PySem.MeetsSeq2 PySem.MeetsSeq3
end
section
variable {prog : Program} {w : World} {A : Around} {E : Value → Shared → Prop} {s : Shared}
theorem cat_tup {t b : Addr} {vs ws : List Value} {Q : Value → Shared → Prop} (ht : IsTup s.heap t vs.toArray) (hb : IsTup s.heap b ws.toArray) (hv : vs ≠ [])
    (h1 : ws = [] → Q (.ref t) s) (h2 : ws ≠ [] → Q (.ref s.heap.objs.size) { s with heap := s.heap.push { cls := .type "tuple", data := .seq (vs ++ ws).toArray } })
    (hsz : vs.length + ws.length ≤ sizeLine) : wpAny (model prog w) A (binaryOp .Add (.ref t) (.ref b)) Q E s := by
  obtain ⟨⟨cls, dd, data, sl⟩, ho, hc, n, hd⟩ := id ht
  obtain ⟨⟨cls2, dd2, data2, sl2⟩, ho2, hc2, n2, hd2⟩ := id hb
  simp only at hc hd hc2 hd2
  subst hc hd hc2 hd2
  have e : vs.toArray ++ ws.toArray = (vs ++ ws).toArray := by simp
  by_cases hw : ws = []
  · exact concat_meets ⟨_, ho, rfl⟩ ⟨_, ho2, rfl⟩ noFill_tuple_add seq_tuple_add PySem.F.slot_tuple_add PySem.F.entry_tuple_add (PySem.F.args_tuple_add_2 _ _)
      (tuple_addW1 t b vs.toArray ws.toArray n n2 dd dd2 sl sl2 (by simpa using hv) (by simp [hw])) ⟨ho, ho2, h1 hw⟩
  · refine concat_meets ⟨_, ho, rfl⟩ ⟨_, ho2, rfl⟩ noFill_tuple_add seq_tuple_add PySem.F.slot_tuple_add PySem.F.entry_tuple_add (PySem.F.args_tuple_add_2 _ _)
      (tuple_addW2 t b vs.toArray ws.toArray n n2 dd dd2 sl sl2 (by simpa using hv) (by simpa using hw) (by rw [List.size_toArray, List.size_toArray]; exact hsz)) ⟨ho, ho2, ?_⟩
    rw [e]
    exact h2 hw
def sIx (n d : Nat) : Option Int → Nat
  | none => d
  | some v => if v < 0 then (v + (n : Int)).toNat else min v.toNat n
theorem sIx_le (n d : Nat) (hd : d ≤ n) (o : Option Int) : sIx n d o ≤ n := by
  cases o with
  | none => exact hd
  | some v =>
    show (if v < 0 then (v + (n : Int)).toNat else min v.toNat n) ≤ n
    by_cases hv : v < 0
    · rw [if_pos hv]; omega
    · rw [if_neg hv]; exact Nat.min_le_right _ _
theorem clip_eq (v : Int) (n d : Nat) : (if v < 0 then max (v + (n : Int)) 0 else min v (n : Int)) = ((sIx n d (some v) : Nat) : Int) := by
  show (if v < 0 then max (v + (n : Int)) 0 else min v (n : Int)) = (((if v < 0 then (v + (n : Int)).toNat else min v.toNat n) : Nat) : Int)
  by_cases hv : v < 0
  · simp only [if_pos hv]; omega
  · simp only [if_neg hv]; omega
theorem adjust_gen (lo hi : Option Int) (n : Nat) : Builtin.Slice.sliceAdjust lo hi 1 (n : Int) = (((sIx n 0 lo : Nat) : Int), ((sIx n n hi : Nat) : Int)) := by
  have h1 : ¬ ((1 : Int) < 0) := by omega
  unfold Builtin.Slice.sliceAdjust
  simp only [h1, if_false]
  refine Prod.ext ?_ ?_
  · cases lo with
    | none => rfl
    | some v => exact clip_eq v n 0
  · cases hi with
    | none => rfl
    | some v => exact clip_eq v n n
theorem places_gen (i j : Nat) : Builtin.Slice.slicePlaces (i : Int) (j : Int) 1 = j - i := by
  unfold Builtin.Slice.slicePlaces
  have h1 : (1 : Int) > 0 := by omega
  simp only [h1, if_true, Int.ediv_one]
  split <;> omega
theorem slicePart_ {v : Value} {o : Option Int} {Q : Option Int → Shared → Prop} (p : IsPart v o) (h : Q o s) : wpAny (model prog w) A (Builtin.Slice.slicePartIndex v) Q E s := by
  cases p with
  | none => exact slicePart_none h
  | int i t => exact slicePart_int h
theorem sliceApplied_gen {sl : Addr} {vl vu : Value} {lo hi : Option Int} {n : Nat} {Q : Int × Int × Nat → Shared → Prop} (hs : s.heap.IsSliceOf sl vl vu .none) (pl : IsPart vl lo) (pu : IsPart vu hi)
    (h : Q (((sIx n 0 lo : Nat) : Int), 1, sIx n n hi - sIx n 0 lo) s) : wpAny (model prog w) A (Builtin.Slice.sliceApplied (.ref sl) (pure (n : Int))) Q E s := by
  obtain ⟨os, hos, hcs, hds⟩ := id hs
  unfold Builtin.Slice.sliceApplied Builtin.Slice.sliceFields
  refine wpAny_bind (wpAny_bind (wpAny_field hos hds (x := vl) rfl (wpAny_bind (wpAny_field hos hds (x := vu) rfl (wpAny_bind (wpAny_field hos hds (x := .none) rfl (wpAny_pure ?_)))))))
  refine wpAny_bind (slicePart_none ?_)
  show wpAny _ _ (if ((1 : Int) == 0) = true then _ else _) _ _ s
  rw [if_neg (by decide)]
  refine wpAny_bind (slicePart_ pl (wpAny_bind (slicePart_ pu (wpAny_bind (wpAny_pure ?_)))))
  show wpAny _ _ (match Builtin.Slice.sliceAdjust lo hi 1 (n : Int) with | (lo, hi) => pure (lo, (1 : Int), Builtin.Slice.slicePlaces lo hi 1)) _ _ s
  rw [adjust_gen lo hi n]
  show wpAny _ _ (pure (((sIx n 0 lo : Nat) : Int), (1 : Int), Builtin.Slice.slicePlaces ((sIx n 0 lo : Nat) : Int) ((sIx n n hi : Nat) : Int) 1)) _ _ s
  rw [places_gen]
  exact wpAny_pure h
theorem pick_gen (xs : Array Value) (i k : Nat) : ((List.range k).filterMap fun (m : Nat) => xs[((i : Int) + (m : Int) * 1).toNat]?).toArray = ((xs.toList.drop i).take k).toArray := by
  have e : (fun (m : Nat) => xs[((i : Int) + (m : Int) * 1).toNat]?) = fun m => xs[i + m]? := by
    funext m
    have : ((i : Int) + (m : Int) * 1).toNat = i + m := by omega
    rw [this]
  rw [e]
  have := pick_run xs i k
  rw [List.filterMap_map] at this
  have e2 : ((fun x => xs[x]?) ∘ fun x => i + x) = fun m => xs[i + m]? := rfl
  rw [e2] at this
  rw [this]
theorem getItem_tuple_cut {t sl : Addr} {items : Array Value} {vl vu : Value} {lo hi : Option Int} {Q : Value → Shared → Prop} (ht : IsTup s.heap t items) (hs : s.heap.IsSliceOf sl vl vu .none) (pl : IsPart vl lo) (pu : IsPart vu hi)
    (hw : ¬ (sIx items.size 0 lo = 0 ∧ sIx items.size items.size hi = items.size))
    (h : Q (.ref s.heap.objs.size) { s with heap := s.heap.push { cls := .type "tuple", data := .seq ((items.toList.drop (sIx items.size 0 lo)).take (sIx items.size items.size hi - sIx items.size 0 lo)).toArray } })
    (hsz : items.size ≤ sizeLine) : wpAny (model prog w) A (getItem (.ref t) (.ref sl)) Q E s := by
  have htake : sizeOk (.seq ((items.toList.drop (sIx items.size 0 lo)).take (sIx items.size items.size hi - sIx items.size 0 lo)).toArray) := by
    show ((items.toList.drop (sIx items.size 0 lo)).take (sIx items.size items.size hi - sIx items.size 0 lo)).toArray.size ≤ sizeLine
    rw [List.size_toArray, List.length_take, List.length_drop, Array.length_toList]
    omega
  have hj : sIx items.size items.size hi ≤ items.size := sIx_le _ _ (Nat.le_refl _) hi
  obtain ⟨os, hos, hcs, hds⟩ := id hs
  have hTs : s.TypeIs (.ref sl) "slice" := ⟨os, hos, hcs⟩
  unfold getItem
  try with_reducible refine wpAny_holding ?_
  first | refine wpAny_bind (wpAny_pure ?_) | skip
  refine wpAny_bind (wpAny_sequenceKey ht.typeIs (by decide) ?_)
  refine wpAny_bind (wpAny_callSpecial?_slot (name := Str.ofString "__getitem__") ht.typeIs PyProof.Rows.slot_tuple_getitem
    (wpAny_call_entry PyProof.Rows.slot_tuple_getitem ht.typeIs entry_tuple_getitem ?_ (args_tuple_getitem _ _)))
  show wpAny _ _ (Builtin.Tuple.tupleItemsOf (.ref t) >>= _) _ _ s
  refine wpAny_bind (tupleItemsOf_ ht ?_)
  refine wpAny_bind (wpAny_typeOf hTs ?_)
  rw [if_pos (by decide)]
  refine wpAny_bind (sliceApplied_gen hs pl pu ?_)
  have hno : ¬ ((((sIx items.size 0 lo : Nat) : Int) == 0 && (1 : Int) == 1 && (sIx items.size items.size hi - sIx items.size 0 lo) == items.size) = true) := by
    intro q
    rw [Bool.and_eq_true, Bool.and_eq_true] at q
    have q1 : ((sIx items.size 0 lo : Nat) : Int) = 0 := eq_of_beq q.1.1
    have q2 : sIx items.size items.size hi - sIx items.size 0 lo = items.size := eq_of_beq q.2
    exact hw ⟨by omega, by omega⟩
  show wpAny _ _ (if (((sIx items.size 0 lo : Nat) : Int) == 0 && (1 : Int) == 1 && (sIx items.size items.size hi - sIx items.size 0 lo) == items.size) = true then _ else _) _ _ s
  rw [if_neg hno, pick_gen]
  first
    | exact wpAny_bind (m := Builtin.Tuple.tupleExact _) (wpAny_newObj_type (wpAny_pure ⟨_, rfl, wpAny_pure h⟩) htake)
    | exact wpAny_bind (m := Builtin.Tuple.tupleExact _) (wpAny_newObj_type (wpAny_bind (wpAny_pure (wpAny_pure ⟨_, rfl, wpAny_pure h⟩))) htake)
    | exact wpAny_bind (wpAny_bind (m := Builtin.Tuple.tupleExact _) (wpAny_newObj_type (wpAny_pure (wpAny_pure ⟨_, rfl, wpAny_pure h⟩)) htake))
    | exact wpAny_bind (wpAny_bind (m := Builtin.Tuple.tupleExact _) (wpAny_newObj_type (wpAny_pure ⟨_, rfl, wpAny_pure h⟩) htake))
end
end HT
namespace L2
open PySem PySem.Spec PyProof.Rows
abbrev TO := St → Hp → (Option Int → Hp → Prop) → Prop
def PO (X : Cx) (e : Option Expr) (t : TO) : Prop :=
  ∀ (pins : List (Addr × Obj)) (s : Shared) (σ : St) (H : Hp) (Q : Option Int → Hp → Prop), Inv X pins σ H s → t σ H Q →
    wpAny (model X.prog X.w) X.A (evalPart e X.env) (fun u s' => ∃ o H', Inv X pins σ H' s' ∧ IsPart u o ∧ Q o H') X.xe s
def tNoPart : TO := fun _ H Q => Q none H
def tPart (t : TE) : TO := fun σ H Q => t σ H fun x H1 => ∃ i, x = .int i ∧ Q (some i) H1
section
variable {X : Cx} {e : Expr} {te : TE} {lo hi : Option Expr} {tl th : TO} {pos p2 : Pos}
theorem po_none : PO X none tNoPart := by
  intro pins s σ H Q I h
  rw [evalPart_none]
  exact wpAny_pure ⟨none, H, I, .none, h⟩
theorem po_some (h : PE X e te) : PO X (some e) (tPart te) := by
  intro pins s σ H Q I hw
  rw [evalPart_some]
  refine thn (h pins s σ H _ I hw) fun u s1 ⟨x, H1, I1, r1, q1⟩ => ?_
  obtain ⟨i, rfl, q⟩ := q1
  obtain ⟨t, rfl⟩ := r1
  exact ⟨some i, H1, I1, .int i t, q⟩
def SlR (X : Cx) (r : V → Option Int → Option Int → Hp → VK → Prop) : Prop :=
  ∀ (pins : List (Addr × Obj)) (s : Shared) (σ : St) (H : Hp) (x : V) (v vl vu : Value) (lo hi : Option Int) (sl : Addr) (Q : VK), Inv X pins σ H s → RelV x v → s.heap.IsSliceOf sl vl vu .none → IsPart vl lo → IsPart vu hi → r x lo hi H Q →
    ∃ T id, typeLookup (.type T) "__getitem__" = pure (some (.builtin id)) ∧ s.TypeIs v T ∧ wpAny (model X.prog X.w) X.A (getItem v (.ref sl)) (EP X pins σ Q) X.xe s
def tSl (r : V → Option Int → Option Int → Hp → VK → Prop) (te : TE) (tl th : TO) : TE := fun σ H Q => te σ H fun x H1 => tl σ H1 fun l H2 => th σ H2 fun u H3 => r x l u H3 Q
theorem pe_slice {r : V → Option Int → Option Int → Hp → VK → Prop} (hr : SlR X r) (he : PE X e te) (hl : PO X lo tl) (hu : PO X hi th) : PE X (.Subscript e (.Slice lo hi none p2) pos) (tSl r te tl th) := by
  intro pins s σ H Q I h
  refine Subscript_ (thn (he pins s σ H _ I h) fun v s1 ⟨x, H1, I1, r1, q1⟩ => ?_)
  refine wpAny_Slice (thn (hl pins s1 σ H1 _ I1 q1) fun vl s2 ⟨l, H2, I2, pl, q2⟩ => thn (hu pins s2 σ H2 _ I2 q2) fun vu s3 ⟨u, H3, I3, pu, q3⟩ => ?_)
  rw [evalPart_none]
  refine wpAny_pure ?_
  have I4 : Inv X pins σ H3 { s3 with heap := s3.heap.push { cls := .type "slice", data := .fields #[vl, vu, .none] } } := I3.kept (t' := s3.toks) fun b ob q => Heap.get?_push_of_some _ q
  obtain ⟨T, id, hT, ht, hg⟩ := hr pins { s3 with heap := s3.heap.push { cls := .type "slice", data := .fields #[vl, vu, .none] } } σ H3 x v vl vu l u s3.heap.objs.size Q I4 r1 (Heap.IsSliceOf.new ..) pl pu q3
  show wpAny (model X.prog X.w) X.A (subscriptTail e (.Slice lo hi none p2) v (.ref s3.heap.objs.size)) (EP X pins σ Q) X.xe { s3 with heap := s3.heap.push { cls := .type "slice", data := .fields #[vl, vu, .none] } }
  exact tail_any (ops := [.ref s3.heap.objs.size, v]) ht hT hg (by with_unfolding_all rfl)
def cutV (xs : List V) (lo hi : Option Int) : List V := (xs.drop (HT.sIx xs.length 0 lo)).take (HT.sIx xs.length xs.length hi - HT.sIx xs.length 0 lo)
theorem cutV_length (xs : List V) (lo hi : Option Int) : (cutV xs lo hi).length ≤ xs.length := by
  unfold cutV
  rw [List.length_take, List.length_drop]
  omega
def rSlT (K : PySem.W.Frag) : V → Option Int → Option Int → Hp → VK → Prop := fun x lo hi H Q => ∃ a xs, x = .ref a ∧ SqT K H a xs ∧
  ¬ (HT.sIx xs.length 0 lo = 0 ∧ HT.sIx xs.length xs.length hi = xs.length) ∧ ∀ p, H p = none → Q (.ref p) (upd H p (.tup (cutV xs lo hi)))
theorem sl_tup : SlR X (rSlT X.K) := by
  intro pins s σ H x v vl vu lo hi sl Q I rx hs pl pu h
  obtain ⟨a, xs, rfl, hx, hw, q⟩ := h
  cases rx
  obtain ⟨its, r, ht, hz⟩ := I.tuple hx
  have hlen : its.toArray.size = xs.length := by rw [List.size_toArray]; exact r.length.symm
  refine ⟨"tuple", _, PyProof.Rows.slot_tuple_getitem.lookup, ht.typeIs, ?_⟩
  refine HT.getItem_tuple_cut ht hs pl pu (by rw [hlen]; exact hw) ?_ (by rw [hlen]; exact hz)
  rw [hlen]
  refine ⟨.ref s.heap.objs.size, _, I.laid (t' := s.toks) (o := .tup (cutV xs lo hi)) (fun b ob q => Heap.get?_push_of_some _ q) (Nat.le_refl _) ?_, rfl, q _ (I.hok.fresh (Nat.le_refl _))⟩
  exact ⟨Nat.le_trans (cutV_length xs lo hi) hz, _, (r.drop (HT.sIx xs.length 0 lo)).take (HT.sIx xs.length xs.length hi - HT.sIx xs.length 0 lo), IsTup.new _ _⟩
def rCatT (K : PySem.W.Frag) : R2 := fun x y H Q => ∃ a b xs ys, x = .ref a ∧ y = .ref b ∧ SqT K H a xs ∧ SqT K H b ys ∧ xs ≠ [] ∧ xs.length + ys.length ≤ sizeLine ∧
  (ys = [] → Q (.ref a) H) ∧ (ys ≠ [] → ∀ p, H p = none → Q (.ref p) (upd H p (.tup (xs ++ ys))))
theorem Vals.nil_iff {xs : List V} {us : List Value} (r : Vals xs us) : us = [] ↔ xs = [] := by
  cases r with
  | nil => simp
  | cons _ _ => simp
theorem op_catT : OpR X (binaryOp .Add) (rCatT X.K) := by
  intro pins s σ H x y v u Q I rx ry h
  obtain ⟨a, b, xs, ys, rfl, rfl, ha, hb, hx, hz, q1, q2⟩ := h
  cases rx
  cases ry
  obtain ⟨its, r1, p1, _⟩ := I.tuple ha
  obtain ⟨its2, r2, p2, _⟩ := I.tuple hb
  refine HT.cat_tup p1 p2 (fun z => hx (r1.nil_iff.mp z)) (fun z => ⟨.ref a, H, I, rfl, q1 (r2.nil_iff.mp z)⟩) (fun z => ?_) (by rw [← r1.length, ← r2.length]; exact hz)
  refine ⟨.ref s.heap.objs.size, _, I.laid (t' := s.toks) (o := .tup (xs ++ ys)) (fun b ob q => Heap.get?_push_of_some _ q) (Nat.le_refl _) ?_, rfl, q2 (fun w => z (r2.nil_iff.mpr w)) _ (I.hok.fresh (Nat.le_refl _))⟩
  exact ⟨by rw [List.length_append]; exact hz, _, r1.append r2, IsTup.new _ _⟩
end
end L2
namespace L2
open PySem PySem.Spec PyProof.Rows
def ixN (n : Nat) (i : Int) : Option Nat := if 0 ≤ i then (if i < n then some i.toNat else none) else if -(n : Int) ≤ i then some (i + n).toNat else none
def atI {α : Type} (xs : List α) (i : Int) : Option α := (ixN xs.length i).bind fun j => xs[j]?
theorem ixN_seq {n : Nat} {i : Int} {j : Nat} (h : ixN n i = some j) : seqIndex? i n = some j ∧ j < n ∧ -(n : Int) ≤ i ∧ i < n := by
  unfold ixN at h
  by_cases h0 : 0 ≤ i
  · rw [if_pos h0] at h
    by_cases h1 : i < n
    · rw [if_pos h1] at h
      have e : i.toNat = j := Option.some.inj h
      exact ⟨by rw [seqIndex_of h0 h1, e], by omega, by omega, h1⟩
    · rw [if_neg h1] at h; cases h
  · rw [if_neg h0] at h
    by_cases h1 : -(n : Int) ≤ i
    · rw [if_pos h1] at h
      have e : (i + n).toNat = j := Option.some.inj h
      exact ⟨by rw [seqIndex_neg (by omega) h1, e], by omega, h1, by omega⟩
    · rw [if_neg h1] at h; cases h
theorem atI_get {α : Type} {xs : List α} {i : Int} {v : α} (h : atI xs i = some v) : ∃ j, seqIndex? i xs.length = some j ∧ xs[j]? = some v ∧ j < xs.length ∧ -(xs.length : Int) ≤ i ∧ i < xs.length := by
  unfold atI at h
  cases e : ixN xs.length i with
  | none => rw [e] at h; cases h
  | some j =>
    rw [e] at h
    obtain ⟨h1, h2, h3, h4⟩ := ixN_seq e
    exact ⟨j, h1, h, h2, h3, h4⟩
theorem atI_nat {α : Type} {xs : List α} {j : Nat} {v : α} (h : xs[j]? = some v) : atI xs (j : Int) = some v := by
  have hj : j < xs.length := (List.getElem?_eq_some_iff.mp h).1
  have e : ixN xs.length (j : Int) = some j := by
    unfold ixN
    rw [if_pos (by omega), if_pos (by omega)]; simp
  unfold atI; rw [e]; exact h
def PlainIx (b : Expr) : Prop := ∀ o i, subscripted b false o i = operate [o, i] (getItem o i)
def IxR (X : Cx) (r : R2) : Prop :=
  ∀ (value slice : Expr) (pins : List (Addr × Obj)) (s : Shared) (σ : St) (H : Hp) (x y : V) (v u : Value) (Q : VK), Inv X pins σ H s → RelV x v → RelV y u → r x y H Q →
    subscripted slice false v u = operate [v, u] (getItem v u) → wpAny (model X.prog X.w) X.A (subscriptTail value slice v u) (EP X pins σ Q) X.xe s
def MtR (X : Cx) (id : String) (r : V → List V → Hp → VK → Prop) : Prop :=
  ∀ (pins : List (Addr × Obj)) (s : Shared) (σ : St) (H : Hp) (x : V) (xs : List V) (v : Value) (us : List Value) (Q : VK), Inv X pins σ H s → RelV x v → Vals xs us → r x xs H Q →
    wpAny (model X.prog X.w) X.A (call (.builtin id) (v :: us)) (EP X pins σ Q) X.xe s
section
variable {X : Cx} {a b : Expr} {ta tb : TE} {pos : Pos}
theorem pe_ix {r : R2} (hr : IxR X r) (ha : PE X a ta) (hb : PE X b tb) (hs : PlainIx b) : PE X (.Subscript a b pos) (tOp r ta tb) := by
  intro pins s σ H Q I h
  exact Subscript_ (binT ha hb I h fun v u s2 x y H2 I2 rx ry q => hr a b pins s2 σ H2 x y v u Q I2 rx ry q (hs _ _))
def rIxL (K : PySem.W.Frag) : R2 := fun x y H Q => ∃ p xs i v, x = .ref p ∧ y = .int i ∧ SqL K H p xs ∧ atI xs i = some v ∧ Q v H
def rIxT (K : PySem.W.Frag) : R2 := fun x y H Q => ∃ p xs i v, x = .ref p ∧ y = .int i ∧ SqT K H p xs ∧ atI xs i = some v ∧ Q v H
def rIxS : R2 := fun x y H Q => ∃ z i c, x = .str z ∧ y = .int i ∧ z.length ≤ sizeLine ∧ atI z.cps.toList i = some c ∧ Q (.str ⟨#[c]⟩) H
theorem ix_list : IxR X (rIxL X.K) := by
  intro value slice pins s σ H x y v u Q I rx ry h hs
  obtain ⟨p, xs, i, z, rfl, rfl, hq, he, q⟩ := h
  cases rx
  obtain ⟨t, rfl⟩ := ry
  obtain ⟨its, r, pl, hz⟩ := I.list hq
  obtain ⟨j, h1, h2, h3, h4, h5⟩ := atI_get he
  obtain ⟨w, ew, rw'⟩ := r.get h2
  have hl := r.length
  have hn := line63
  have fin : EP X pins σ Q w s := ⟨z, H, I, rw', q⟩
  by_cases h0 : 0 ≤ i
  · have hj : i.toNat = j := by
      rw [seqIndex_of h0 h5] at h1
      exact Option.some.inj h1
    exact item_listR pl.isList h0 (by omega) (by rw [hj]; simpa using ew) fin hs
  · have hj : (i + (its.toArray.size : Int)).toNat = j := by
      rw [seqIndex_neg (by omega) h4] at h1
      rw [List.size_toArray, ← hl]
      exact Option.some.inj h1
    exact subscriptTail_builtinR (x := w) pl.isList.typeIs slot_list_getitem.lookup
      (wpAny_getItem_list_neg (Q := fun r s' => r = w ∧ EP X pins σ Q r s') pl.isList (by omega) (by rw [List.size_toArray] <;> omega) (by omega) (by rw [hj]; simpa using ew) ⟨rfl, fin⟩) hs
theorem ix_tup : IxR X (rIxT X.K) := by
  intro value slice pins s σ H x y v u Q I rx ry h hs
  obtain ⟨p, xs, i, z, rfl, rfl, hq, he, q⟩ := h
  cases rx
  obtain ⟨t, rfl⟩ := ry
  obtain ⟨its, r, pl, hz⟩ := I.tuple hq
  obtain ⟨j, h1, h2, h3, h4, h5⟩ := atI_get he
  obtain ⟨w, ew, rw'⟩ := r.get h2
  have hl := r.length
  have hn := line63
  have fin : EP X pins σ Q w s := ⟨z, H, I, rw', q⟩
  exact subscriptTail_builtinR (x := w) pl.typeIs slot_tuple_getitem.lookup
    (getItem_tuple (j := j) (Q := fun r s' => r = w ∧ EP X pins σ Q r s') pl (by omega) (by omega) (by rw [List.size_toArray, ← hl]; exact h1) (by simpa using ew) ⟨rfl, fin⟩) hs
theorem ix_str : IxR X rIxS := by
  intro value slice pins s σ H x y v u Q I rx ry h hs
  obtain ⟨z, i, c, rfl, rfl, hz, he, q⟩ := h
  obtain ⟨t, rfl⟩ := rx
  obtain ⟨t', rfl⟩ := ry
  obtain ⟨j, h1, h2, h3, h4, h5⟩ := atI_get he
  have hl : z.cps.toList.length = z.length := by simp [Str.length]
  rw [hl] at h1 h4 h5
  have hn := line63
  exact tail_any (typeIs_str s z t) slot_str_getitem.lookup (getItem_str (c := c) (by
    have e1 : decide (i < -(2 ^ 63 : Int)) = false := decide_eq_false (by omega)
    have e2 : decide (i ≥ 2 ^ 63) = false := decide_eq_false (by omega)
    rw [e1, e2, Bool.or_false]) (by rw [h1]; simpa using h2) ⟨.str ⟨#[c]⟩, H, I.tok _, ⟨_, rfl⟩, q⟩) hs
def rIx (K : PySem.W.Frag) : R2 := fun x y H Q => rIxL K x y H Q ∨ rIxT K x y H Q ∨ rIxS x y H Q
theorem mapSeq_set (its : List Value) (n j : Nat) (u : Value) : Obj.mapSeq (·.setIfInBounds j u) { cls := .type "list", data := .seq its.toArray n } = { cls := .type "list", data := .seq (its.set j u).toArray n } := by
  simp [Obj.mapSeq]
theorem Inv.lst {pins : List (Addr × Obj)} {σ : St} {H : Hp} {s : Shared} {p : Addr} {xs : List V} (I : Inv X pins σ H s) (h : H p = some (.lst xs)) :
    ∃ (its : List Value) (n : Nat), Vals xs its ∧ s.heap.get? p = some { cls := .type "list", data := .seq its.toArray n } ∧ xs.length ≤ sizeLine := by
  obtain ⟨z, its, n, r, e⟩ := I.hok p _ h
  exact ⟨its, n, r, e, z⟩
theorem Inv.lstUpd {pins : List (Addr × Obj)} {σ : St} {H : Hp} {s : Shared} {p : Addr} {xs ys : List V} {its its' : List Value} {n n' : Nat} {f : Obj → Obj} (I : Inv X pins σ H s) (h : H p = some (.lst xs))
    (ho : s.heap.get? p = some { cls := .type "list", data := .seq its.toArray n }) (hf : f { cls := .type "list", data := .seq its.toArray n } = { cls := .type "list", data := .seq its'.toArray n' }) (r : Vals ys its') (hz : ys.length ≤ sizeLine) (t : Nat) :
    Inv X pins σ (upd H p (.lst ys)) { s with heap := s.heap.update p f, toks := t } := by
  have e : (s.heap.update p f).get? p = some { cls := .type "list", data := .seq its'.toArray n' } := by
    rw [Heap.get?_update_self f ho (by rw [hf] <;> rfl), hf]
  refine I.write (x := p) (e := p) (by rw [h]; trivial) (.inl rfl) (fun b u hb q => (Heap.get?_update_other _ _ (Ne.symm hb)).trans q) ⟨_, e⟩ ?_
  exact ⟨hz, its', n', r, e⟩
def rSetL : V → V → V → Hp → (Hp → Prop) → Prop := fun o i v H Q => ∃ p xs k j, o = .ref p ∧ i = .int k ∧ H p = some (.lst xs) ∧ ixN xs.length k = some j ∧ Q (upd H p (.lst (xs.set j v)))
theorem set_list : PSet X rSetL := by
  intro pins s σ H o i v ov iv u Q I ro ri rv h
  obtain ⟨p, xs, k, j, rfl, rfl, hp, hj, q⟩ := h
  cases ro
  obtain ⟨t, rfl⟩ := ri
  obtain ⟨its, n, r, ho, hz⟩ := I.lst hp
  obtain ⟨h1, h2, h3, h4⟩ := ixN_seq hj
  have hl := r.length
  have hn := line63
  have I' : Inv X pins σ (upd H p (.lst (xs.set j v))) { s with heap := s.heap.update p (Obj.mapSeq (·.setIfInBounds j u)) } :=
    I.lstUpd hp ho (mapSeq_set its n j u) (r.set rv j) (by rw [List.length_set]; exact hz) s.toks
  by_cases h0 : 0 ≤ k
  · have hk : k.toNat = j := by
      rw [seqIndex_of h0 h4] at h1
      exact Option.some.inj h1
    exact PySem.W.ki_setAt ho h0 (by omega) (by rw [List.size_toArray, ← hl]; exact h4) (by rw [hk]; exact ⟨_, I', q⟩)
  · have hk : (k + (its.toArray.size : Int)).toNat = j := by
      rw [seqIndex_neg (by omega) h3] at h1
      rw [List.size_toArray, ← hl]
      exact Option.some.inj h1
    exact PySem.W.ki_setBack ho (by omega) (by rw [List.size_toArray, ← hl]; exact h3) (by omega) (by rw [hk]; exact ⟨_, I', q⟩)
theorem slice_bounds (lo hi : Option Int) (n : Nat) : (sliceBounds lo hi none n).1 = ((HT.sIx n 0 lo : Nat) : Int) ∧ (sliceBounds lo hi none n).2.1 = ((HT.sIx n n hi : Nat) : Int) ∧ (sliceBounds lo hi none n).2.2 = 1 := by
  refine ⟨?_, ?_, rfl⟩
  · cases lo with
    | none => simp [sliceBounds, HT.sIx]
    | some i =>
      simp only [sliceBounds, HT.sIx, Option.getD_none, show (1 : Int) > 0 by decide, if_true]
      by_cases h : i < 0
      · simp only [h, if_true] <;> omega
      · simp only [h, if_false] <;> omega
  · cases hi with
    | none => simp [sliceBounds, HT.sIx]
    | some i =>
      simp only [sliceBounds, HT.sIx, Option.getD_none, show (1 : Int) > 0 by decide, if_true]
      by_cases h : i < 0
      · simp only [h, if_true] <;> omega
      · simp only [h, if_false] <;> omega
theorem slicePick_cut (its : List Value) (lo hi : Option Int) : slicePick its.toArray lo hi none = ((its.drop (HT.sIx its.length 0 lo)).take (HT.sIx its.length its.length hi - HT.sIx its.length 0 lo)).toArray := by
  obtain ⟨h1, h2, h3⟩ := slice_bounds lo hi its.toArray.size
  unfold slicePick
  rw [h1, h2, h3]
  simp only [sliceRange_one, pick_run, List.size_toArray] <;> rfl
def rSlL (K : PySem.W.Frag) : V → Option Int → Option Int → Hp → VK → Prop := fun x lo hi H Q => ∃ a xs, x = .ref a ∧ SqL K H a xs ∧ ∀ p, H p = none → Q (.ref p) (upd H p (.lst (cutV xs lo hi)))
theorem sl_list : SlR X (rSlL X.K) := by
  intro pins s σ H x v vl vu lo hi sl Q I rx hs pl pu h
  obtain ⟨a, xs, rfl, hx, q⟩ := h
  cases rx
  obtain ⟨its, r, ht, hz⟩ := I.list hx
  have hlen := r.length
  refine ⟨"list", _, slot_list_getitem.lookup, ht.isList.typeIs, ?_⟩
  refine wpAny_getItem_list_slice ht.isList hs pl pu .none (by simp) ?_ (by rw [List.size_toArray] <;> omega)
  rw [slicePick_cut, ← hlen]
  refine ⟨.ref s.heap.objs.size, _, I.laid (t' := s.toks) (o := .lst (cutV xs lo hi)) (fun b ob q => Heap.get?_push_of_some _ q) (Nat.le_refl _) ?_, rfl, q _ (I.hok.fresh (Nat.le_refl _))⟩
  exact ⟨Nat.le_trans (cutV_length xs lo hi) hz, _, 0, (r.drop (HT.sIx xs.length 0 lo)).take (HT.sIx xs.length xs.length hi - HT.sIx xs.length 0 lo), Heap.get?_push_size _ rfl⟩
theorem call_len_seq : CallR X (.builtin "len") (fun xs H Q => ∃ p ys, xs = [.ref p] ∧ (SqL X.K H p ys ∨ SqT X.K H p ys) ∧ Q (.int ys.length) H) := by
  intro pins s σ H xs us Q I r h
  obtain ⟨p, ys, rfl, hq, q⟩ := h
  obtain ⟨u, rfl, rx⟩ := vals1 r
  cases rx
  have hn := line63
  rcases hq with hq | hq
  · obtain ⟨its, r', pl, hz⟩ := I.list hq
    have hlen := r'.length
    exact Calls.call_len_list pl.isList (by simp only [List.size_toArray] <;> omega) ⟨.int ys.length, H, I.tok _, ⟨s.toks + 1, by rw [List.size_toArray, hlen]⟩, q⟩
  · obtain ⟨its, r', pl, hz⟩ := I.tuple hq
    have hlen := r'.length
    exact len_tuple pl (by simp only [List.size_toArray] <;> omega) ⟨.int ys.length, H, I.tok _, ⟨s.toks + 1, by rw [List.size_toArray, hlen]⟩, q⟩
theorem call_len_str : CallR X (.builtin "len") (fun xs H Q => ∃ z, xs = [.str z] ∧ z.length ≤ sizeLine ∧ Q (.int z.length) H) := by
  intro pins s σ H xs us Q I r h
  obtain ⟨z, rfl, hz, q⟩ := h
  obtain ⟨u, rfl, t, rfl⟩ := vals1 r
  have hn := line63
  exact len_str (by omega) ⟨.int z.length, H, I.tok _, ⟨_, rfl⟩, q⟩
def tyV (K : PySem.W.Frag) (T : String) (x : V) (H : Hp) : Prop := match x with
  | .str _ => T = "str"
  | .int _ => T = "int"
  | .ref p => (T = "list" ∧ ∃ xs, SqL K H p xs) ∨ (T = "tuple" ∧ ∃ o, K.lookup p = some o ∧ o.cls = .type "tuple" ∧ o.dict = none) ∨
      (T = "dict" ∧ ((∃ kvs, H p = some (.dK kvs)) ∨ ∃ kvs, H p = some (.dT kvs))) ∨ (T = "set" ∧ ∃ S n, H p = some (.set S n))
  | _ => False
theorem tyV_is {pins : List (Addr × Obj)} {σ : St} {H : Hp} {s : Shared} {T : String} {x : V} {v : Value} (I : Inv X pins σ H s) (r : RelV x v) (ty : tyV X.K T x H) :
    s.TypeIs v T ∧ ∀ a, v = .ref a → ∃ ob, s.heap.get? a = some ob ∧ ob.dict = none := by
  cases x with
  | str z =>
    obtain ⟨t, rfl⟩ := r
    cases (show T = "str" from ty)
    exact ⟨typeIs_str s z t, fun _ e => nomatch e⟩
  | int i =>
    obtain ⟨t, rfl⟩ := r
    cases (show T = "int" from ty)
    exact ⟨typeIs_int s i t, fun _ e => nomatch e⟩
  | ref p =>
    cases r
    rcases ty with ⟨rfl, xs, hq⟩ | ⟨rfl, o, hk, hc, hd⟩ | ⟨rfl, hk⟩ | ⟨rfl, S, n, hk⟩
    · obtain ⟨its, _, pl, _⟩ := I.list hq
      refine ⟨pl.isList.typeIs, fun a e => ?_⟩
      cases e
      obtain ⟨o, n, e, c, hd, _⟩ := pl
      exact ⟨o, e, hd⟩
    · refine ⟨⟨o, I.kIn p o hk, hc⟩, fun a e => ?_⟩
      cases e
      exact ⟨o, I.kIn _ o hk, hd⟩
    · have z : ∃ o, s.heap.get? p = some o ∧ o.ExactDict := by
        rcases hk with ⟨kvs, hk⟩ | ⟨kvs, hk⟩
        · obtain ⟨_, _, _, _, o, _, _, e, ex, _⟩ := I.hok p _ hk
          exact ⟨o, e, ex⟩
        · obtain ⟨_, _, _, _, o, _, _, e, ex, _⟩ := I.hok p _ hk
          exact ⟨o, e, ex⟩
      obtain ⟨o, e, ex⟩ := z
      refine ⟨⟨o, e, ex.1⟩, fun a e2 => ?_⟩
      cases e2
      exact ⟨o, e, ex.2.1⟩
    · obtain ⟨o, _, _, _, e, ex, _⟩ := I.hok p _ hk
      refine ⟨⟨o, e, ex.1⟩, fun a e2 => ?_⟩
      cases e2
      exact ⟨o, e, ex.2.1⟩
  | _ => exact False.elim ty
def tBM (K : PySem.W.Frag) (T : String) (r : V → List V → Hp → VK → Prop) (to : TE) (t : TA) : TE := fun σ H Q => to σ H fun x H1 => tyV K T x H1 ∧ t σ H1 fun xs H2 => r x xs H2 Q
variable {o e : Expr} {es : List Expr} {to : TE} {t : TA} {name : Str} {apos cpos : Pos} {T id : String} {r : V → List V → Hp → VK → Prop}
theorem pe_bm (pa : PlainAttrs T) (slot : Slot T name id) (hty : typeOf (.builtin id) = pure (.type "method_descriptor")) (hm : MtR X id r) (ho : PE X o to) (ha : PA X (e :: es) t)
    (hbase : attributeBase o name X.env (eval o X.env) = eval o X.env := by rfl)
    (hfew : ((backTo cpos (starEach (e :: es) X.env)).all (fun x => !x.1) && (backToKw cpos (keywordEach [] X.env)).all (fun x => x.1.isSome)
      && decide ((e :: es).length + ([] : List Keyword).length + (if ([] : List Keyword).isEmpty then 0 else 1) < 30)) = true := by rfl)
    (hline : (apos.endLine == cpos.line) = true := by rfl) (hs : starEach (e :: es) X.env = (false, eval e X.env) :: starEach es X.env := by rfl) (hplain : (backTo cpos (starEach es X.env)).any (·.1) = false := by rfl) :
    PE X (.Call (.Attribute o name apos) (e :: es) [] cpos) (tBM X.K T r to t) := by
  intro pins s σ H Q I h
  refine wpAny_Call_method_late hbase hfew hline rfl (thn (ho pins s σ H _ I h) fun v s1 ⟨x, H1, I1, r1, ty, q1⟩ => ?_)
  obtain ⟨h1, h2⟩ := tyV_is I1 r1 ty
  refine ⟨T, id, pa, slot, hty, h1, h2, ?_⟩
  have hA := ha cpos pins s1 σ H1 _ I1 q1
  rw [hs] at hA ⊢
  refine Calls.callWith_builtin (by show (false || (backTo cpos (starEach es X.env)).any (·.1)) = false; rw [hplain] <;> rfl) (Calls.evalArgs_plain ?_)
  exact thn hA fun us s2 ⟨vs, H2, I2, r2, q2⟩ => hm pins s2 σ H2 x vs v us Q I2 r1 r2 q2
end
end L2
namespace L2
open PySem PySem.Spec PyProof.Rows
theorem Vals.one : ∀ {x : V} {us : List Value}, Vals [x] us → ∃ u, us = [u] ∧ RelV x u
  | _, _, .cons r .nil => ⟨_, rfl, r⟩
theorem Vals.two : ∀ {x y : V} {us : List Value}, Vals [x, y] us → ∃ u v, us = [u, v] ∧ RelV x u ∧ RelV y v
  | _, _, _, .cons r (.cons q .nil) => ⟨_, _, rfl, r, q⟩
theorem Vals.zero : ∀ {us : List Value}, Vals [] us → us = []
  | _, .nil => rfl
theorem Vals.rep {xs : List V} {us : List Value} (h : Vals xs us) : ∀ k : Nat, Vals (List.replicate k xs).flatten (List.replicate k us).flatten
  | 0 => .nil
  | k + 1 => by
    rw [List.replicate_succ, List.replicate_succ, List.flatten_cons, List.flatten_cons]
    exact Vals.append h (Vals.rep h k)
theorem foldl_rep (its : List Value) : ∀ (k : Nat) (acc : List Value),
    List.foldl (fun x1 x2 => x1 ++ x2) acc.toArray (List.replicate k its.toArray) = (acc ++ (List.replicate k its).flatten).toArray
  | 0, acc => by simp
  | k + 1, acc => by
    have e : acc.toArray ++ its.toArray = (acc ++ its).toArray := by simp
    have e2 : (acc ++ its) ++ (List.replicate k its).flatten = acc ++ (List.replicate (k + 1) its).flatten := by
      rw [List.replicate_succ, List.flatten_cons, List.append_assoc]
    rw [← e2, ← foldl_rep its k (acc ++ its), ← e, List.replicate_succ, List.foldl_cons]
section
variable {X : Cx} {pins : List (Addr × Obj)} {σ : St} {H : Hp} {s : Shared} {l b : Addr} {xs ys zs : List V}
theorem Inv.lnew {its : List Value} {t' : Nat} (I : Inv X pins σ H s) (hv : Vals ys its) (hz : ys.length ≤ sizeLine) :
    Inv X pins σ (upd H s.heap.objs.size (.lst ys)) { s with heap := s.heap.push { cls := .type "list", data := .seq its.toArray }, toks := t' } :=
  I.laid (fun _ _ q => Heap.get?_push_of_some _ q) (Nat.le_refl _) ⟨hz, its, 0, hv, Heap.get?_push_size _ rfl⟩
theorem Inv.fresh (I : Inv X pins σ H s) : H s.heap.objs.size = none := I.hok.fresh (Nat.le_refl _)
theorem Inv.lstM (I : Inv X pins σ H s) (hH : H l = some (.lst xs)) : xs.length ≤ sizeLine ∧ ∃ (its : List Value) (n : Nat), Vals xs its ∧ xs.length = its.length ∧ s.heap.get? l = some { cls := .type "list", data := .seq its.toArray n } := by
  obtain ⟨z, its, n, r, e⟩ := I.hok l _ hH
  exact ⟨z, its, n, r, r.length, e⟩
theorem notLongL {n : Nat} (h : n ≤ sizeLine) : Builtin.List.listTooLong n = false := by
  unfold Builtin.List.listTooLong
  exact decide_eq_false (by omega)
end
section
variable {X : Cx}
def rRep : R2 := fun x y H Q => ∃ l k xs, x = .ref l ∧ y = .int k ∧ H l = some (.lst xs) ∧ -(2 ^ 63) ≤ k ∧ k < 2 ^ 63 ∧ xs.length * k.toNat ≤ sizeLine ∧
  ∀ p, H p = none → Q (.ref p) (upd H p (.lst (List.replicate k.toNat xs).flatten))
theorem len_rep {α : Type} (xs : List α) (k : Nat) : (List.replicate k xs).flatten.length = k * xs.length := by
  induction k with
  | zero => simp
  | succ k ih => rw [List.replicate_succ, List.flatten_cons, List.length_append, ih, Nat.succ_mul, Nat.add_comm]
theorem op_rep : OpR X (binaryOp .Mult) rRep := by
  intro pins s σ H x y v u Q I rx ry h
  obtain ⟨l, k, xs, rfl, rfl, hH, h1, h2, hz, q⟩ := h
  cases rx
  obtain ⟨t, rfl⟩ := ry
  obtain ⟨z, its, n, r, hl, e⟩ := I.lstM hH
  have hlen : its.toArray.size * k.toNat ≤ sizeLine := by rw [List.size_toArray, ← hl]; exact hz
  have hcap : ¬ its.toArray.size * k.toNat > (2 ^ 63 - 1) / 8 := by
    have : (sizeLine : Nat) ≤ (2 ^ 63 - 1) / 8 := by decide
    omega
  have hfit : ¬ (!Builtin.List.listFitsIndex k) = true := by
    rw [fitsIndex_both h1 h2]
    exact Bool.false_ne_true
  have hlong : ¬ Builtin.List.listTooLong (its.toArray.size * k.toNat) = true := by
    rw [notLongL hlen]
    exact Bool.false_ne_true
  have hnew : List.foldl (fun x1 x2 => x1 ++ x2) #[] (List.replicate (if its.toArray.isEmpty = true then 0 else k.toNat) its.toArray) = (List.replicate k.toNat its).flatten.toArray := by
    have f0 : ∀ m : Nat, List.foldl (fun x1 x2 => x1 ++ x2) #[] (List.replicate m its.toArray) = (List.replicate m its).flatten.toArray := fun m => by
      have := foldl_rep its m []
      rw [List.nil_append] at this
      exact this
    rw [f0]
    cases its with
    | nil => simp
    | cons a r' => rw [if_neg (by simp)]
  refine wpAny_binaryOp_repeat_ref (T := "list") (U := "int") (by decide) ⟨_, e, rfl⟩ (fun s' => typeIs_int s' k t) noFill_list_mul F.fills_int_mul F.slot_int_rmul repeat_list F.slot_int_index.lookup
    (call_meets F.slot_int_rmul (typeIs_int s k t) F.entry_int_rmul (F.args_int_rmul_2 _ _) (int___rmul___int_list k t l its.toArray n)
      ⟨e, rfl, ⟨_, e, rfl⟩, call_meets F.slot_list_mul ⟨_, e, rfl⟩ F.entry_list_mul (F.args_list_mul_2 _ _) (AutoListH.list___mul___list_int_3 l its.toArray n k t hfit hcap hlong) ⟨e, ?_⟩⟩)
  rw [hnew]
  exact ⟨.ref _, _, I.lnew (t' := s.toks) (r.rep k.toNat) (by rw [len_rep, Nat.mul_comm]; exact hz), rfl, q _ I.fresh⟩
end
section
variable {prog : Program} {w : World} {A : Around} {E : Value → Shared → Prop} {s : Shared}
set_option maxRecDepth 100000 in
end
section
variable {X : Cx}
end
end L2
namespace L2
open PySem PySem.Spec PyProof.Rows
section
variable {κ : Type} [DecidableEq κ]
def valV (kvs : List (κ × V)) (k : κ) : Option V := (kvs.find? fun kv => decide (kv.1 = k)).map (·.2)
def putK (kvs : List (κ × V)) (k : κ) (v : V) : List (κ × V) :=
  if (kvs.any fun kv => decide (kv.1 = k)) = true then kvs.map (fun kv => if kv.1 = k then (kv.1, v) else kv) else kvs ++ [(k, v)]
def dropK (kvs : List (κ × V)) (k : κ) : List (κ × V) := kvs.filter fun kv => decide (kv.1 ≠ k)
theorem valV_pos {p : κ × V} {r : List (κ × V)} {k : κ} (e : p.1 = k) : valV (p :: r) k = some p.2 := by simp [valV, List.find?_cons, e]
theorem valV_neg {p : κ × V} {r : List (κ × V)} {k : κ} (e : ¬ p.1 = k) : valV (p :: r) k = valV r k := by simp [valV, List.find?_cons, e]
theorem valV_any (k : κ) : ∀ kvs : List (κ × V), (kvs.any fun kv => decide (kv.1 = k)) = (valV kvs k).isSome
  | [] => rfl
  | p :: r => by
    rw [List.any_cons]
    by_cases e : p.1 = k
    · simp only [valV_pos e, decide_eq_true e, Bool.true_or, Option.isSome_some]
    · rw [valV_neg e, decide_eq_false e, Bool.false_or]; exact valV_any k r
theorem RelO.isSome_eq {o : Option V} {u : Option Value} (r : RelO o u) : o.isSome = u.isSome := by
  cases o with
  | none => cases u with
    | none => rfl
    | some _ => exact (show False from r).elim
  | some _ => cases u with
    | none => exact (show False from r).elim
    | some _ => rfl
theorem RelO.getD {o : Option V} {u : Option Value} {d : V} {d' : Value} (r : RelO o u) (rd : RelV d d') : RelV (o.getD d) (u.getD d') := by
  cases o with
  | none => cases u with
    | none => exact rd
    | some _ => exact (show False from r).elim
  | some _ => cases u with
    | none => exact (show False from r).elim
    | some _ => exact r
theorem KV.val {kvs : List (κ × V)} {vs : List (κ × Value)} (r : KV kvs vs) (k : κ) : RelO (valV kvs k) (valueAt vs k) := by
  unfold KV at r
  induction r with
  | nil => exact True.intro
  | @cons p q ps qs h t ih =>
    obtain ⟨h1, h2⟩ := h
    by_cases e : p.1 = k
    · have e' : q.1 = k := h1.symm.trans e
      have b : valueAt (q :: qs) k = some q.2 := by simp [valueAt, List.find?_cons, e']
      rw [valV_pos e, b]; exact h2
    · have e' : ¬ q.1 = k := fun z => e (h1.trans z)
      have b : valueAt (q :: qs) k = valueAt qs k := by simp [valueAt, List.find?_cons, e']
      rw [valV_neg e, b]; exact ih
theorem KV.any {kvs : List (κ × V)} {vs : List (κ × Value)} (r : KV kvs vs) (k : κ) : (kvs.any fun kv => decide (kv.1 = k)) = vs.any fun kv => decide (kv.1 = k) := by
  unfold KV at r
  induction r with
  | nil => rfl
  | cons h t ih => rw [List.any_cons, List.any_cons, ih, h.1]
theorem KV.repl {kvs : List (κ × V)} {vs : List (κ × Value)} (r : KV kvs vs) (k : κ) {y : V} {u : Value} (ry : RelV y u) :
    KV (kvs.map fun kv => if kv.1 = k then (kv.1, y) else kv) (vs.map fun kv => if kv.1 = k then (kv.1, u) else kv) := by
  unfold KV at r ⊢
  induction r with
  | nil => exact .nil
  | @cons p q ps qs h t ih =>
    rw [List.map_cons, List.map_cons]
    refine .cons ?_ ih
    obtain ⟨h1, h2⟩ := h
    by_cases e : p.1 = k
    · rw [if_pos e, if_pos (h1.symm.trans e)]; exact ⟨h1, ry⟩
    · rw [if_neg e, if_neg (fun z => e (h1.trans z))]; exact ⟨h1, h2⟩
theorem KV.put {kvs : List (κ × V)} {vs : List (κ × Value)} (r : KV kvs vs) (k : κ) {y : V} {u : Value} (ry : RelV y u) : KV (putK kvs k y) (stored vs k u) := by
  unfold putK stored
  rw [r.any k]
  by_cases e : (vs.any fun kv => decide (kv.1 = k)) = true
  · rw [if_pos e, if_pos e]; exact r.repl k ry
  · rw [if_neg e, if_neg e]; exact Paired.snoc r ⟨rfl, ry⟩
theorem KV.drop {kvs : List (κ × V)} {vs : List (κ × Value)} (r : KV kvs vs) (k : κ) : KV (dropK kvs k) (without vs k) := by
  unfold KV at r ⊢
  unfold dropK without
  induction r with
  | nil => exact .nil
  | @cons p q ps qs h t ih =>
    obtain ⟨h1, h2⟩ := h
    rw [List.filter_cons, List.filter_cons]
    by_cases e : p.1 = k
    · have a : ¬ decide (p.1 ≠ k) = true := by simp [e]
      have b : ¬ decide (q.1 ≠ k) = true := by simp [h1.symm.trans e]
      rw [if_neg a, if_neg b]; exact ih
    · have e' : ¬ q.1 = k := fun z => e (h1.trans z)
      have a : decide (p.1 ≠ k) = true := by simp [e]
      have b : decide (q.1 ≠ k) = true := by simp [e']
      rw [if_pos a, if_pos b]; exact .cons ⟨h1, h2⟩ ih
theorem KV.keys {kvs : List (κ × V)} {vs : List (κ × Value)} (r : KV kvs vs) : kvs.map (·.1) = vs.map (·.1) := by
  unfold KV at r
  induction r with
  | nil => rfl
  | cons h t ih => rw [List.map_cons, List.map_cons, ih, h.1]
theorem KV.length {kvs : List (κ × V)} {vs : List (κ × Value)} (r : KV kvs vs) : kvs.length = vs.length := Paired.length r
end
theorem kV_is {P : Program} {w : World} {k : Key} {u : Value} (r : RelV (kV k) u) : (mixKind P w).is k u = true := by
  cases k with
  | inl i => obtain ⟨t, e⟩ := (show ∃ t, u = Value.int i t from r); subst e; exact mixKind_int P w i t
  | inr x => obtain ⟨t, e⟩ := (show ∃ t, u = Value.str x t from r); subst e; exact mixKind_str P w x t
abbrev KT (H : Hp) : List (List Key × V) → List (List Key × Addr × Value) → Prop := Paired fun p q => p.1 = q.1 ∧ H q.2.1 = some (.tup (p.1.map kV)) ∧ RelV p.2 q.2.2
theorem KT.val {H : Hp} {kvs : List (List Key × V)} {xs : List (List Key × Addr × Value)} (r : KT H kvs xs) (k : List Key) : RelO (valV kvs k) ((atKey xs k).map (·.2)) := by
  induction r with
  | nil => exact True.intro
  | @cons p q ps qs h t ih =>
    obtain ⟨h1, _, h2⟩ := h
    by_cases e : p.1 = k
    · have e' : q.1 = k := h1.symm.trans e
      have b : atKey (q :: qs) k = some q.2 := by simp [atKey, List.find?_cons, e']
      rw [valV_pos e, b]; exact h2
    · have e' : ¬ q.1 = k := fun z => e (h1.trans z)
      have b : atKey (q :: qs) k = atKey qs k := by simp [atKey, List.find?_cons, e']
      rw [valV_neg e, b]; exact ih
theorem KT.repl {H : Hp} {kvs : List (List Key × V)} {xs : List (List Key × Addr × Value)} (r : KT H kvs xs) (k : List Key) {y : V} {u : Value} (ry : RelV y u) :
    KT H (kvs.map fun kv => if kv.1 = k then (kv.1, y) else kv) (xs.map (putAt k u)) := by
  induction r with
  | nil => exact .nil
  | @cons p q ps qs h t ih =>
    rw [List.map_cons, List.map_cons]
    refine .cons ?_ ih
    obtain ⟨h1, h2, h3⟩ := h
    unfold putAt
    by_cases e : p.1 = k
    · rw [if_pos e, if_pos (h1.symm.trans e)]; exact ⟨h1, h2, ry⟩
    · rw [if_neg e, if_neg (fun z => e (h1.trans z))]; exact ⟨h1, h2, h3⟩
theorem KT.put {H : Hp} {kvs : List (List Key × V)} {xs : List (List Key × Addr × Value)} (r : KT H kvs xs) (k : List Key) {b : Addr} {y : V} {u : Value} (hb : H b = some (.tup (k.map kV))) (ry : RelV y u) :
    KT H (putK kvs k y) (storedH xs k b u) := by
  have e : (kvs.any fun kv => decide (kv.1 = k)) = (atKey xs k).isSome := by
    rw [valV_any, (r.val k).isSome_eq, Option.isSome_map]
  unfold putK storedH
  rw [e]
  by_cases q : (atKey xs k).isSome = true
  · rw [if_pos q, if_pos q]; exact r.repl k ry
  · rw [if_neg q, if_neg q]; exact Paired.snoc r ⟨rfl, hb, ry⟩
theorem KT.keeps {H H' : Hp} {kvs : List (List Key × V)} {xs : List (List Key × Addr × Value)} (r : KT H kvs xs) (ht : ∀ b ys, H b = some (.tup ys) → H' b = some (.tup ys)) : KT H' kvs xs :=
  Paired.mapP r fun _ _ z => ⟨z.1, ht _ _ z.2.1, z.2.2⟩
section
variable {P : Program} {w : World} {H : Hp} {h : Heap} {a : Addr}
end
def DGet (H : Hp) (a : Addr) (y : V) (r : Option V) : Prop :=
  (∃ kvs k, Rd H a (.dK kvs) ∧ y = kV k ∧ r = valV kvs k) ∨ ∃ kvs k b, Rd H a (.dT kvs) ∧ y = .ref b ∧ H b = some (.tup (k.map kV)) ∧ r = valV kvs k
def DPut (H : Hp) (a : Addr) (y v : V) (H' : Hp) : Prop :=
  (∃ kvs k, H a = some (.dK kvs) ∧ y = kV k ∧ kvs.length < sizeLine ∧ H' = upd H a (.dK (putK kvs k v))) ∨
  ∃ kvs k b, H a = some (.dT kvs) ∧ y = .ref b ∧ H b = some (.tup (k.map kV)) ∧ kvs.length < sizeLine ∧ H' = upd H a (.dT (putK kvs k v))
theorem DGet.k {H : Hp} {a : Addr} {kvs : List (Key × V)} {k : Key} (e : H a = some (.dK kvs)) : DGet H a (kV k) (valV kvs k) := .inl ⟨kvs, k, .inl e, rfl, rfl⟩
theorem DGet.t {H : Hp} {a b : Addr} {kvs : List (List Key × V)} {k : List Key} (e : H a = some (.dT kvs)) (eb : H b = some (.tup (k.map kV))) : DGet H a (.ref b) (valV kvs k) := .inr ⟨kvs, k, b, .inl e, rfl, eb, rfl⟩
theorem DPut.k {H : Hp} {a : Addr} {kvs : List (Key × V)} {k : Key} {v : V} (e : H a = some (.dK kvs)) (hl : kvs.length < sizeLine) : DPut H a (kV k) v (upd H a (.dK (putK kvs k v))) := .inl ⟨kvs, k, e, rfl, hl, rfl⟩
theorem DPut.t {H : Hp} {a b : Addr} {kvs : List (List Key × V)} {k : List Key} {v : V} (e : H a = some (.dT kvs)) (eb : H b = some (.tup (k.map kV))) (hl : kvs.length < sizeLine) :
    DPut H a (.ref b) v (upd H a (.dT (putK kvs k v))) := .inr ⟨kvs, k, b, e, rfl, eb, hl, rfl⟩
section
variable {X : Cx} {pins : List (Addr × Obj)} {σ : St} {H : Hp} {s : Shared} {a : Addr} {y v : V} {u r : Value} {o : Option V} {A : Around} {E : Value → Shared → Prop}
end
section
variable {X : Cx} {pins : List (Addr × Obj)} {σ : St} {H : Hp} {s : Shared} {a : Addr} {kvs : List (Key × V)} {k : Key} {u : Value} {A : Around} {E : Value → Shared → Prop}
end
section
variable {X : Cx} {o i e value : Expr} {pos pos' tpos : Pos} {td ty tv : TE}
end
section
variable {X : Cx} {pos : Pos}
end
structure M1 (X : Cx) (o : Expr) (m : Str) (apos : Pos) (e : Expr) (cpos : Pos) : Prop where
  base : attributeBase o m X.env (eval o X.env) = eval o X.env
  few : ((backTo cpos (starEach [e] X.env)).all (fun x => !x.1) && (backToKw cpos (keywordEach [] X.env)).all (fun x => x.1.isSome)
    && decide (([e] : List Expr).length + ([] : List Keyword).length + (if ([] : List Keyword).isEmpty then 0 else 1) < 30)) = true
  line : (apos.endLine == cpos.line) = true
  trees : backTo cpos (starEach [e] X.env) = [(false, eval e X.env)]
structure M2 (X : Cx) (o : Expr) (m : Str) (apos : Pos) (e f : Expr) (cpos : Pos) : Prop where
  base : attributeBase o m X.env (eval o X.env) = eval o X.env
  few : ((backTo cpos (starEach [e, f] X.env)).all (fun x => !x.1) && (backToKw cpos (keywordEach [] X.env)).all (fun x => x.1.isSome)
    && decide (([e, f] : List Expr).length + ([] : List Keyword).length + (if ([] : List Keyword).isEmpty then 0 else 1) < 30)) = true
  line : (apos.endLine == cpos.line) = true
  trees : backTo cpos (starEach [e, f] X.env) = [(false, eval e X.env), (false, eval f X.env)]
section
variable {X : Cx} {pins : List (Addr × Obj)} {σ : St} {H : Hp} {s : Shared} {a : Addr} {y d : V} {u r : Value} {o : Option V} {A : Around} {E : Value → Shared → Prop}
end
section
variable {X : Cx} {o e f : Expr} {apos cpos : Pos} {td ty tx : TE}
end
section
variable {X : Cx} {pins : List (Addr × Obj)} {σ : St} {H : Hp} {s : Shared} {a : Addr} {kvs : List (Key × V)} {A : Around} {E : Value → Shared → Prop}
end
section
variable {X : Cx} {pins : List (Addr × Obj)} {σ : St} {H : Hp} {s : Shared} {a : Addr} {y : V} {u : Value} {A : Around} {E : Value → Shared → Prop}
end
end L2
namespace Att
open PySem PySem.W PySem.Calls PyProof.Rows
theorem ints_of_wellAll {P : Params} {h : Heap} : ∀ (ns : List Int) (vs : List Value), WellAll P h vs (ns.map WData.int) → IntsAre vs ns := by
  intro ns
  induction ns with
  | nil =>
    intro vs w
    rw [List.map_nil] at w
    cases w
    exact .nil
  | cons n ns ih =>
    intro vs w
    rw [List.map_cons] at w
    cases w with
    | cons a b =>
      cases a
      exact .cons _ _ (ih _ b)
theorem script_of {l : OpenLaw} {n : Nat} (hn : l.most = some n) {P : Params} {h : Heap} {args : List WData} {vals : List Value}
    (hpre : l.row.toRowW.claim.pre args = true) (hwl : WellAll P h vals args) :
    ∃ a vs ns, vals = [Value.ref a] ∧ args = [WData.list (ns.map WData.int)] ∧ h.get? a = some { cls := .type "list", data := .seq vs.toArray } ∧ IntsAre vs ns ∧ ns.length ≤ n := by
  have hsh : WShape.hasAll [] args [.list .int] = true := (pre_splitW hpre).1
  have hc : l.pre.holds [] { args := args } = true := (pre_splitW hpre).2
  obtain ⟨d, r, rfl, h1, h2⟩ := hasAllW_cons hsh
  obtain rfl := hasAllW_nil h2
  obtain ⟨xs, rfl, h3⟩ := hasW_list h1
  obtain ⟨ns, rfl⟩ := items_int h3
  have hlen : ns.length ≤ n := by
    unfold OpenLaw.pre at hc
    have h4 : (WTm.not (.lt (.lit (.int (n : Int))) (.len (.arg 0)))).holds [] { args := [.list (ns.map .int)] } = true := by
      have h4 := (holds_andW hc).1
      rw [hn] at h4
      exact h4
    have h5 := condW_of h4 (w_not (w_lt w_lit (w_len_list (w_arg rfl))))
    rw [List.length_map] at h5
    refine Nat.le_of_not_lt fun q => ?_
    have q' : (n : Int) < ((ns.length : Nat) : Int) := by omega
    first
      | (rw [decide_eq_true q'] at h5; exact absurd h5 (by decide))
      | (simp at h5; omega)
  cases hwl with
  | cons w1 w2 =>
    cases w2
    cases w1 with
    | list ho hall => exact ⟨_, _, ns, rfl, rfl, ho, ints_of_wellAll ns _ hall, hlen⟩
theorem post_true (l : OpenLaw) (args : List WData) : l.row.toRowW.claim.post args (.bool true) args = true :=
  postW_of (r := l.row.toRowW) (X := (true == true))
    (show WShape.has [] (.bool true) .bool = true by first | rfl | decide | simp [WShape.has, WShape.arms, WShape.armsAll])
    (show (WTm.eq .res (.lit (.bool true))).value [] { args := args, res := some (.bool true), after := args } = some (.bool (true == true)) from w_eq_bool (w_res rfl) w_lit) rfl
theorem attach_call {l : OpenLaw} {n : Nat} {q : Program} {loose : List Str} {XP : (Str → Option Value) → Heap → Prop} {YP : World → Heap → Prop} {d : DefRec}
    (hn : l.most = some n) (hdf : d.params.defaults = [])
    (call : ∀ (w : World) (s₀ s₁ : Shared) (mg mb : Str → Option Value) (fa : Addr) (o : Obj) (pm cd doc : Value) (a : Addr) (vs : List Value) (ns : List Int),
      Ground q loose [] XP w s₀ mg mb s₁.heap → YP w s₁.heap →
      s₁.heap.get? fa = some o → o.data = .func (docDef d.name d.params d.body d.scope pm cd doc) → s₁.heap.CodeRec cd d.name → mg d.name = some (.ref fa) →
      s₁.heap.get? a = some { cls := .type "list", data := .seq vs.toArray } → IntsAre vs ns → ns.length ≤ n → s₁.gens = #[] →
      codeAny (model l.prog w) callerA (.call (.ref fa) ⟨[.ref a], []⟩) (fun r s' => r = .ok (.ret (.bool true)) ∧ OldK s₁.heap s'.heap ∧ s'.os = s₁.os ∧ AllBare s'.gens) s₁) :
    WalkO q loose XP YP l.row.toRowW d [] (fun f vs => PySem.call f vs) := by
  intro w s₀ s₁ mg mb G Y fa o pm cd doc dV kV ho hd hcd hD hmg hg args vals as hpre hlay hrd hwl hlo
  obtain rfl : dV = .none := Dflts.none hD hdf
  obtain rfl : kV = .none := Dflts.noKw hD
  obtain ⟨a, vs, ns, rfl, rfl, hobj, hints, hlen⟩ := script_of hn hpre hwl
  refine enter_call (codeAny_mono (call w s₀ s₁ mg mb fa o pm cd doc a vs ns G Y ho (fd_plain hd) hcd hmg hobj hints hlen hg) fun r s' hq => ?_)
  obtain ⟨rfl, h2, h3, h4⟩ := hq
  exact ⟨.inl ⟨.bool true, .bool true, [], rfl, fun _ => rfl, .bool true, post_true l _, fun _ => ⟨List.Pairwise.nil, fun _ hm => (nomatch hm)⟩⟩, h2, h3, h4⟩
section
variable {prog : Program} {w : World} {A : Around} {E : Value → Shared → Prop} {s : Shared} {K : Frag}
end
end Att
namespace L2
open PySem PySem.Spec PyProof.Rows
theorem vals_ints : ∀ {vs : List Value} {ns : List Int}, IntsAre vs ns → Vals (ns.map V.int) vs
  | _, _, .nil => .nil
  | _, _, .cons n t h => .cons ⟨t, rfl⟩ (vals_ints h)
def Only (H : Hp) : Prop := ∀ b, H b = none ∨ ∃ o xs, H b = some (.frz o (.lst xs))
theorem law_call {P : Program} {w : World} {K : PySem.W.Frag} {mg mb : Str → Option Value} {CX : CXT} {k : Nat} {fa a : Addr} {fd : FuncData} {x : Str} {sp : Sp} {s₁ : Shared} {vs : List Value} {ns : List Int}
    (KX : K.In s₁.heap) (hns : s₁.heap.Ns mainGlobals mg) (hb : s₁.heap.Ns builtinsNs mb) (hbb : ∀ x : Str, x ≠ "__name__" → mb x = bootBuiltins x) (hlim : s₁.heap.NoLimit) (hg : s₁.gens = #[])
    (ha : s₁.heap.get? a = some { cls := .type "list", data := .seq vs.toArray }) (hi : IntsAre vs ns) (hl : ns.length ≤ sizeLine) (hr : Room k callerA)
    (F : ∀ base : Heap, K.In base → base.Ns mainGlobals mg → FnOk P w K mg base CX k fa fd [x] sp) (hbind : ∀ (s : Shared) (u : Value), BindsTo s fd ⟨[u], []⟩ [(x, u)])
    (hsp : ∀ H : Hp, Only H → SqL K H a (ns.map V.int) → sp [.ref a] H (fun v _ => v = .bl true) fun _ _ _ => False)
    (hCX : ∀ H e s', CX [] H s₁ (fun _ _ _ => False) e s' → False) :
    codeAny (model P w) callerA (.call (.ref fa) ⟨[.ref a], []⟩) (fun r s' => r = .ok (.ret (.bool true)) ∧ OldK s₁.heap s'.heap ∧ s'.os = s₁.os ∧ AllBare s'.gens) s₁ := by
  have rv := vals_ints hi
  have lenV := hi.length
  -- from an abstract heap in which nothing but the script may be tracked
  have core : ∀ H : Hp, Only H → SqL K H a (ns.map V.int) → HOk P w H s₁.heap → (∀ b, H b ≠ none → b = a) → (H a ≠ none → K.lookup a = none) →
      codeAny (model P w) callerA (.call (.ref fa) ⟨[.ref a], []⟩) (fun r s' => r = .ok (.ret (.bool true)) ∧ OldK s₁.heap s'.heap ∧ s'.os = s₁.os ∧ AllBare s'.gens) s₁ := by
    intro H hO hS hok hA hK
    have base_of : ∀ {b : Addr} {o : Obj}, s₁.heap.get? b = some o → H b = none → (hidT s₁.heap H).get? b = some o := fun e n => hidT_get e n
    have noA : ∀ {b : Addr} {o : Obj} {es : Array DictEntry} {ep : Nat}, s₁.heap.get? b = some o → o.data = .dict es ep → H b = none := fun {b o es ep} e d => by
      cases q : H b with
      | none => rfl
      | some u =>
        have e' : b = a := hA b (by rw [q]; simp)
        subst e'
        rw [ha] at e; cases e
        have d' : Data.seq vs.toArray _ = Data.dict es ep := d
        cases d'
    have nsK : ∀ {b : Addr} {m : Str → Option Value}, s₁.heap.Ns b m → (hidT s₁.heap H).Ns b m := fun {b m} ⟨o, es, ep, e, d, r⟩ => ⟨o, es, ep, base_of e (noA e d), d, r⟩
    have hKb : K.In (hidT s₁.heap H) := fun b o e => base_of (KX b o e) (by
      cases q : H b with
      | none => rfl
      | some u =>
        have e' : b = a := hA b (by rw [q]; simp)
        subst e'
        rw [hK (by rw [q]; simp)] at e; cases e)
    have hM : Mod K mg (hidT s₁.heap H) := ⟨hKb, nsK hns, ⟨mb, nsK hb, hbb⟩, let ⟨mc, h1, h2⟩ := hlim; ⟨mc, nsK h1, h2⟩⟩
    have e0 : Env0 P w K mg (hidT s₁.heap H) callerA [] s₁ H := ⟨rfl, hM, fun b o e => of_hidT e, Nat.le_of_eq (hidT_size _ _), trivial, fun b hb => absurd (show b ∈ ([] : List Addr) from hb) (by simp), hok, .of_eq hg⟩
    refine codeAny_mono ((F _ hKb (nsK hns)).run callerA [] s₁ H ⟨[.ref a], []⟩ [.ref a] [.ref a] _ _ hr e0 (hbind s₁ (.ref a)) (.cons rfl .nil) (hsp H hO hS)) fun r s' h => ?_
    cases r with
    | error e => exact (hCX H e s' h).elim
    | ok fl =>
      cases fl with
      | next => exact False.elim h
      | brk => exact False.elim h
      | cont => exact False.elim h
      | ret u =>
        obtain ⟨v, H', os, bare, un, hok', r', q⟩ := h
        have q' : v = .bl true := q
        subst q'
        obtain rfl : u = Value.bool true := r'
        refine ⟨rfl, OldK.of_keep fun b o e => ?_, os, bare⟩
        cases q : H b with
        | none => exact un.keep b o e q (by intro z; exact absurd (show b ∈ ([] : List Addr) from z) (by simp)) (by simp)
        | some u =>
          rcases hO b with z | ⟨ob, xs, z⟩
          · rw [q] at z; cases z
          · have z2 := un.frzs b ob _ z
            obtain ⟨e1, _⟩ := hok b _ z
            obtain ⟨e2, _⟩ := hok' b _ z2
            rw [e] at e1; cases e1
            exact e2
  cases hk : K.lookup a with
  | some o =>
    -- the script is one of the module's own objects
    have e := KX a o hk
    rw [ha] at e
    cases e
    refine core (fun _ => none) (fun _ => .inl rfl) (.inr ⟨_, vs.toArray, _, hk, rfl, rfl, rfl, by rw [List.size_toArray, lenV]; exact hl, by simpa using rv⟩) (fun b u z => by have z' : (none : Option HO) = some u := z; cases z') (fun b z => absurd rfl z) fun z => absurd rfl z
  | none =>
    refine core (fun b => if b = a then some (.frz { cls := .type "list", data := .seq vs.toArray } (.lst (ns.map V.int))) else none) (fun b => ?_) (.inl (.inr ⟨{ cls := .type "list", data := .seq vs.toArray }, if_pos rfl⟩)) (fun b u z => ?_) (fun b z => ?_) fun _ => hk
    · by_cases hb : b = a
      · exact .inr ⟨_, _, if_pos hb⟩
      · exact .inl (if_neg hb)
    · by_cases hb : b = a
      · have z' := (if_pos hb).symm.trans z
        cases z'
        subst hb
        exact ⟨ha, by rw [List.length_map]; exact hl, vs, _, rv, ha⟩
      · have z' := (if_neg hb).symm.trans z
        cases z'
    · by_cases hb : b = a
      · exact hb
      · exact absurd (if_neg hb) z
end L2
namespace L2
open PySem PySem.Spec PyProof.Rows
theorem walk_of {l : PySem.W.OpenLaw} {n k : Nat} {q : Program} {loose : List Str} {XP : (Str → Option Value) → Heap → Prop} {YP : World → Heap → Prop} {d : DefRec} {K : Params → PySem.W.Frag} {CX : World → CXT} {sp : World → Sp} {x : Str}
    (hn : l.most = some n) (hn2 : n ≤ sizeLine) (hdf : d.params.defaults = []) (hr : Room k callerA)
    (hY : ∀ (w : World) (h : Heap), YP w h → (K w.params).In h)
    (F : ∀ (w : World) (mg : Str → Option Value) (fa : Addr) (h : Heap), (K w.params).In h → h.Ns mainGlobals mg → mg d.name = some (.ref fa) →
      ∃ fd : FuncData, (∀ (s : Shared) (u : Value), BindsTo s fd ⟨[u], []⟩ [(x, u)]) ∧
        ∀ base : Heap, (K w.params).In base → base.Ns mainGlobals mg → FnOk l.prog w (K w.params) mg base (CX w) k fa fd [x] (sp w))
    (hsp : ∀ (w : World) (H : Hp) (a : Addr) (ns : List Int), ns.length ≤ n → Only H → SqL (K w.params) H a (ns.map V.int) → sp w [.ref a] H (fun v _ => v = .bl true) fun _ _ _ => False)
    (hCX : ∀ (w : World) (H : Hp) (s : Shared) (e : Value) (s' : Shared), CX w [] H s (fun _ _ _ => False) e s' → False) :
    PySem.W.WalkO q loose XP YP l.row.toRowW d [] (fun f vs => PySem.call f vs) := by
  refine Att.attach_call hn hdf fun w s₀ s₁ mg mb fa o pm cd doc a vs ns G Y ho hd hcd hmg hobj hints hlen hg => ?_
  have KX := hY w _ Y
  obtain ⟨fd, hb, hF⟩ := F w mg fa _ KX G.T.g hmg
  exact law_call KX G.T.g G.T.b G.T.builtins G.T.nolimit hg hobj hints (Nat.le_trans hlen hn2) hr hF hb (fun H hO hS => hsp w H a ns hlen hO hS) fun H e s' => hCX w H s₁ e s'
end L2
namespace L2
open PySem PySem.Spec PyProof.Rows
def defArgs (s : Stmt) : Arguments := match s with
  | .FunctionDef _ a _ _ _ _ _ _ _ _ => a
  | _ => { posonlyargs := [], args := [], vararg := none, kwonlyargs := [], kw_defaults := [], kwarg := none, defaults := [] }
def defBody (s : Stmt) : List Stmt := match s with
  | .FunctionDef _ _ b _ _ _ _ _ _ _ => b
  | _ => []
def defScope (s : Stmt) : Scope := match s with
  | .FunctionDef _ _ _ _ _ _ sc _ _ _ => sc
  | _ => { kind := .function, names := [], isGenerator := false, isCoroutine := false }
abbrev CX0 : CXT := fun _ _ _ _ _ _ => False
abbrev E0 : XK := fun _ _ _ => False
theorem pass0 {X : Cx} : Passes CX0 X E0 := fun _ _ _ _ _ _ _ h => h.elim
structure Fun (K : PySem.W.Frag) (x qual : Str) (st : Stmt) (f : Addr) (fd : FuncData) : Prop where
  ex : ∃ (oc : Value) (od : Option Addr) (kV doc pm : Value) (an : Option Addr) (cdv ct : Value) (osl : Array (Option Value)),
    fd = PySem.W.fnOf x qual (defArgs st) (defBody st) (defScope st) .none kV doc pm an cdv ct ∧ K.lookup f = some ⟨oc, od, .func fd, osl⟩ ∧ PySem.W.codeIn K cdv qual = true
  kp : PySem.W.keepIn K (.ref f) = true
section
variable {P : Program} {w : World} {K : PySem.W.Frag} {mg : Str → Option Value} {base : Heap}
theorem Fun.ok {x qual : Str} {st : Stmt} {f : Addr} {fd : FuncData} {N ps : List Str} {k : Nat} {sp : Sp} (F : Fun K x qual st f fd) (S : FnScope N ps (defScope st)) (len : ∀ vs H Q E, sp vs H Q E → vs.length = ps.length)
    (hbody : ∀ (cdv : Value) (A : Around) (outer : List Env) (s : Shared) (H : Hp) (vs : List V) (Q : VK) (E : XK), Room k (A.deeper (envOfC qual (defScope st) s.heap.objs.size f cdv)) → sp vs H Q E →
      ∃ t, PSs (cxOf CX0 P w K mg base N qual (defScope st) f cdv A outer s H E).nox (defBody st) t ∧ t { nx := fun _ H' => Q .non H', rt := Q } (start N vs) H) : FnOk P w K mg base CX0 (k + 1) f fd ps sp := by
  obtain ⟨oc, od, kV, doc, pm, an, cdv, ct, osl, rfl, lk, hcd⟩ := F.ex
  refine fn_of lk hcd S len fun A outer s H vs Q E hr hsp => ?_
  obtain ⟨t, h, q⟩ := hbody cdv A outer s H vs Q E hr hsp
  exact ⟨t, h.nox, q⟩
theorem Fun.binds {x qual : Str} {st : Stmt} {f : Addr} {fd : FuncData} {ps : List Str} (F : Fun K x qual st f fd)
    (h : ∀ (kV doc pm : Value) (an : Option Addr) (cdv ct : Value) (us : List Value), us.length = ps.length → bindArgs (PySem.W.fnOf x qual (defArgs st) (defBody st) (defScope st) .none kV doc pm an cdv ct) ⟨us, []⟩ = pure (ps.zip us)) : Binds K fd ps [] := by
  obtain ⟨oc, od, kV, doc, pm, an, cdv, ct, osl, rfl, lk, hcd⟩ := F.ex
  exact .all (h kV doc pm an cdv ct)
theorem fun_mk {x qual : Str} {st : Stmt} {f : Addr} {oc : Value} {od an : Option Addr} {osl : Array (Option Value)} {kV doc pm cdv ct : Value} (l : K.lookup f = some ⟨oc, od, .func (PySem.W.fnOf x qual (defArgs st) (defBody st) (defScope st) .none kV doc pm an cdv ct), osl⟩)
    (c : PySem.W.codeIn K cdv qual = true) (k : PySem.W.keepIn K (.ref f) = true) : Fun K x qual st f (PySem.W.fnOf x qual (defArgs st) (defBody st) (defScope st) .none kV doc pm an cdv ct) := ⟨⟨oc, od, kV, doc, pm, an, cdv, ct, osl, rfl, l, c⟩, k⟩
end
theorem hu_of {A : Around} {k : Nat} (hr : Room k A) : A.units + 1 < cLine := Nat.lt_of_le_of_lt (Nat.add_le_add_left (by decide : 1 ≤ 64) _) hr.units
section
variable {X : Cx}
end
theorem iteF {A B : Prop} (h : B) : if false = true then A else B := by
  rw [if_neg Bool.false_ne_true]
  exact h
theorem iteT {A B : Prop} (h : A) : if true = true then A else B := by
  rw [if_pos rfl]
  exact h
def Same (H H' : Hp) : Prop := ∀ b o, H b = some o → H' b = some o
theorem Same.refl (H : Hp) : Same H H := fun _ _ h => h
theorem Same.trans {H H1 H2 : Hp} (a : Same H H1) (b : Same H1 H2) : Same H H2 := fun c o h => b c o (a c o h)
theorem Same.free {H H' : Hp} (e : Same H H') {l : Addr} (h : H' l = Option.none) : H l = Option.none := by
  cases q : H l with
  | none => rfl
  | some o =>
    rw [e l o q] at h
    cases h
theorem Same.seq {K : PySem.W.Frag} {H H' : Hp} {a : Addr} {xs : List V} (e : Same H H') (h : SqL K H a xs) : SqL K H' a xs := by
  rcases h with (h | ⟨o, h⟩) | h
  · exact .inl (.inl (e _ _ h))
  · exact .inl (.inr ⟨o, e _ _ h⟩)
  · exact .inr h
end L2
namespace L2
open PySem PySem.Spec PyProof.Rows
section
variable {X : Cx}
end
section
variable {κ : Type} [DecidableEq κ]
end
end L2
end
set_option Elab.async false
set_option linter.all false
set_option maxRecDepth 100000
set_option maxHeartbeats 4000000
namespace R
open PySem PySem.Spec PyProof.Rows L2
inductive RV where
  | non | bl (b : Bool) | int (i : Int) | str (x : Str) | ref (a : Addr) | ty (n : String)
  | tup (xs : List RV) | ls (xs : List RV)
def Fz (K : PySem.W.Frag) (H : Hp) (a : Addr) (vs : List V) : Prop :=
  (∃ o, H a = some (.frz o (.lst vs))) ∨
    ∃ (o : Obj) (its : Array Value) (n : Nat), K.lookup a = some o ∧ o.cls = .type "list" ∧ o.dict = Option.none ∧ o.data = .seq its n ∧ its.size ≤ sizeLine ∧ Vals vs its.toList
theorem Fz.sq {K : PySem.W.Frag} {H : Hp} {a : Addr} {vs : List V} (h : Fz K H a vs) : SqL K H a vs := by
  rcases h with ⟨o, h⟩ | h
  · exact .inl (.inr ⟨o, h⟩)
  · exact .inr h
mutual
def Rep (K : PySem.W.Frag) (H : Hp) : RV → V → Prop
  | .non, v => v = .non
  | .bl b, v => v = .bl b
  | .int i, v => v = .int i
  | .str x, v => v = .str x
  | .ref a, v => v = .ref a
  | .ty n, v => v = .ty n
  | .tup xs, v => ∃ a vs, v = .ref a ∧ SqT K H a vs ∧ Reps K H xs vs
  | .ls xs, v => ∃ a vs, v = .ref a ∧ Fz K H a vs ∧ Reps K H xs vs
def Reps (K : PySem.W.Frag) (H : Hp) : List RV → List V → Prop
  | [], vs => vs = []
  | x :: xs, vs => ∃ v r, vs = v :: r ∧ Rep K H x v ∧ Reps K H xs r
end
structure Ext (H H' : Hp) : Prop where
  tups : ∀ b xs, H b = some (.tup xs) → H' b = some (.tup xs)
  frzs : ∀ b o u, H b = some (.frz o u) → H' b = some (.frz o u)
theorem Ext.refl (H : Hp) : Ext H H := ⟨fun _ _ h => h, fun _ _ _ h => h⟩
theorem Ext.trans {H H1 H2 : Hp} (a : Ext H H1) (b : Ext H1 H2) : Ext H H2 := ⟨fun c x h => b.tups c x (a.tups c x h), fun c o x h => b.frzs c o x (a.frzs c o x h)⟩
theorem Ext.new {H : Hp} {p : Addr} {o : HO} (h : H p = none) : Ext H (upd H p o) :=
  ⟨fun b xs e => by rw [upd_ne (ne_of_none e h)]; exact e, fun b o xs e => by rw [upd_ne (ne_of_none e h)]; exact e⟩
def Soft : HO → Bool
  | .tup _ => false
  | .frz _ _ => false
  | _ => true
theorem Ext.write {H : Hp} {p : Addr} {o o' : HO} (h : H p = some o) (s : Soft o = true) : Ext H (upd H p o') := by
  refine ⟨fun b xs e => ?_, fun b ob xs e => ?_⟩
  · have n : b ≠ p := by rintro rfl; rw [h] at e; cases e; cases s
    rw [upd_ne n]; exact e
  · have n : b ≠ p := by rintro rfl; rw [h] at e; cases e; cases s
    rw [upd_ne n]; exact e
theorem SqT.ext {K : PySem.W.Frag} {H H' : Hp} {a : Addr} {vs : List V} (e : Ext H H') (h : SqT K H a vs) : SqT K H' a vs := by
  rcases h with (h | ⟨o, h⟩) | h
  · exact .inl (.inl (e.tups _ _ h))
  · exact .inl (.inr ⟨o, e.frzs _ _ _ h⟩)
  · exact .inr h
theorem Fz.ext {K : PySem.W.Frag} {H H' : Hp} {a : Addr} {vs : List V} (e : Ext H H') (h : Fz K H a vs) : Fz K H' a vs := by
  rcases h with ⟨o, h⟩ | h
  · exact .inl ⟨o, e.frzs _ _ _ h⟩
  · exact .inr h
mutual
theorem Rep.ext {K : PySem.W.Frag} {H H' : Hp} (e : Ext H H') : ∀ (r : RV) (v : V), Rep K H r v → Rep K H' r v
  | .non, v, h => by simpa only [Rep] using h
  | .bl _, v, h => by simpa only [Rep] using h
  | .int _, v, h => by simpa only [Rep] using h
  | .str _, v, h => by simpa only [Rep] using h
  | .ref _, v, h => by simpa only [Rep] using h
  | .ty _, v, h => by simpa only [Rep] using h
  | .tup xs, v, h => by
    simp only [Rep] at h ⊢
    obtain ⟨a, vs, e1, h1, h2⟩ := h
    exact ⟨a, vs, e1, SqT.ext e h1, Reps.ext e xs vs h2⟩
  | .ls xs, v, h => by
    simp only [Rep] at h ⊢
    obtain ⟨a, vs, e1, h1, h2⟩ := h
    exact ⟨a, vs, e1, h1.ext e, Reps.ext e xs vs h2⟩
theorem Reps.ext {K : PySem.W.Frag} {H H' : Hp} (e : Ext H H') : ∀ (rs : List RV) (vs : List V), Reps K H rs vs → Reps K H' rs vs
  | [], vs, h => by simpa only [Reps] using h
  | x :: xs, vs, h => by
    simp only [Reps] at h ⊢
    obtain ⟨v, r, e1, h1, h2⟩ := h
    exact ⟨v, r, e1, Rep.ext e x v h1, Reps.ext e xs r h2⟩
end
section
variable {K : PySem.W.Frag} {H : Hp}
theorem Reps.cons {x : RV} {xs : List RV} {v : V} {vs : List V} (h : Rep K H x v) (t : Reps K H xs vs) : Reps K H (x :: xs) (v :: vs) := by
  simp only [Reps]; exact ⟨v, vs, rfl, h, t⟩
theorem Reps.nil : Reps K H [] [] := by simp only [Reps]
theorem Reps.length : ∀ {xs : List RV} {vs : List V}, Reps K H xs vs → xs.length = vs.length
  | [], vs, h => by simp only [Reps] at h; subst h; rfl
  | x :: xs, vs, h => by
    simp only [Reps] at h
    obtain ⟨v, r, rfl, _, t⟩ := h
    simp [Reps.length t]
theorem Reps.get : ∀ {xs : List RV} {vs : List V} {i : Nat} {x : RV}, Reps K H xs vs → xs[i]? = some x → ∃ v, vs[i]? = some v ∧ Rep K H x v
  | [], _, _, _, _, e => by simp at e
  | y :: xs, vs, 0, x, h, e => by
    simp only [Reps] at h
    obtain ⟨v, r, rfl, h1, _⟩ := h
    simp at e; subst e
    exact ⟨v, by simp, h1⟩
  | y :: xs, vs, i + 1, x, h, e => by
    simp only [Reps] at h
    obtain ⟨v, r, rfl, _, t⟩ := h
    obtain ⟨u, h1, h2⟩ := Reps.get (i := i) t (by simpa using e)
    exact ⟨u, by simpa using h1, h2⟩
theorem Reps.append : ∀ {xs ys : List RV} {vs ws : List V}, Reps K H xs vs → Reps K H ys ws → Reps K H (xs ++ ys) (vs ++ ws)
  | [], _, vs, _, h, t => by simp only [Reps] at h; subst h; simpa using t
  | x :: xs, ys, vs, ws, h, t => by
    simp only [Reps] at h
    obtain ⟨v, r, rfl, h1, h2⟩ := h
    exact Reps.cons h1 (Reps.append h2 t)
theorem Reps.take : ∀ {xs : List RV} {vs : List V} (n : Nat), Reps K H xs vs → Reps K H (xs.take n) (vs.take n)
  | _, _, 0, _ => by simpa using Reps.nil
  | [], vs, n + 1, h => by simp only [Reps] at h; subst h; simpa using Reps.nil
  | x :: xs, vs, n + 1, h => by
    simp only [Reps] at h
    obtain ⟨v, r, rfl, h1, h2⟩ := h
    exact Reps.cons h1 (Reps.take n h2)
theorem Reps.drop : ∀ {xs : List RV} {vs : List V} (n : Nat), Reps K H xs vs → Reps K H (xs.drop n) (vs.drop n)
  | _, _, 0, h => by simpa using h
  | [], vs, n + 1, h => by simp only [Reps] at h; subst h; simpa using Reps.nil
  | x :: xs, vs, n + 1, h => by
    simp only [Reps] at h
    obtain ⟨v, r, rfl, h1, h2⟩ := h
    exact Reps.drop n h2
theorem Reps.set {x : RV} {v : V} (hx : Rep K H x v) : ∀ {xs : List RV} {vs : List V} (i : Nat), Reps K H xs vs → Reps K H (xs.set i x) (vs.set i v)
  | [], vs, i, h => by simp only [Reps] at h; subst h; simpa using Reps.nil
  | y :: xs, vs, 0, h => by
    simp only [Reps] at h
    obtain ⟨w, r, rfl, h1, h2⟩ := h
    exact Reps.cons hx h2
  | y :: xs, vs, i + 1, h => by
    simp only [Reps] at h
    obtain ⟨w, r, rfl, h1, h2⟩ := h
    exact Reps.cons h1 (Reps.set hx i h2)
theorem Reps.atI {xs : List RV} {vs : List V} {i : Int} {x : RV} (h : Reps K H xs vs) (e : L2.atI xs i = some x) : ∃ v, L2.atI vs i = some v ∧ Rep K H x v := by
  unfold L2.atI at e ⊢
  rw [← h.length]
  cases q : ixN xs.length i with
  | none => rw [q] at e; cases e
  | some j => rw [q] at e; exact h.get (by simpa using e)
end
inductive RO where
  | lst (xs : List RV)
  | dk (kvs : List (Key × RV))
  | ins (C : Addr) (fs : List (Str × RV))
abbrev RM := Addr → Option RO
def put (M : RM) (a : Addr) (o : RO) : RM := fun b => if b = a then some o else M b
theorem put_same {M : RM} {a : Addr} {o : RO} : put M a o a = some o := by unfold put; rw [if_pos rfl]
theorem put_ne {M : RM} {a b : Addr} {o : RO} (h : b ≠ a) : put M a o b = M b := by unfold put; rw [if_neg h]
theorem put_put {M : RM} {a : Addr} {o o' : RO} : put (put M a o) a o' = put M a o' := by
  funext b; unfold put; split <;> rfl
def RepP {κ : Type} (K : PySem.W.Frag) (H : Hp) : List (κ × RV) → List (κ × V) → Prop
  | [], ws => ws = []
  | (k, x) :: r, ws => ∃ v t, ws = (k, v) :: t ∧ Rep K H x v ∧ RepP K H r t
theorem RepP.ext {κ : Type} {K : PySem.W.Frag} {H H' : Hp} (e : Ext H H') : ∀ {xs : List (κ × RV)} {ws : List (κ × V)}, RepP K H xs ws → RepP K H' xs ws
  | [], _, h => h
  | (k, x) :: r, ws, h => by
    obtain ⟨v, t, e1, h1, h2⟩ := h
    exact ⟨v, t, e1, Rep.ext e x v h1, RepP.ext e h2⟩
def RepO (K : PySem.W.Frag) (H : Hp) : RO → HO → Prop
  | .lst xs, o => ∃ vs, o = .lst vs ∧ Reps K H xs vs
  | .dk kvs, o => ∃ ws, o = .dK ws ∧ RepP K H kvs ws
  | .ins C fs, o => ∃ dx gs, o = .ins C dx gs ∧ RepP K H fs gs
theorem RepO.ext {K : PySem.W.Frag} {H H' : Hp} (e : Ext H H') : ∀ {o : RO} {ho : HO}, RepO K H o ho → RepO K H' o ho
  | .lst xs, _, h => by obtain ⟨vs, e1, h1⟩ := h; exact ⟨vs, e1, Reps.ext e xs vs h1⟩
  | .dk _, _, h => by obtain ⟨ws, e1, h1⟩ := h; exact ⟨ws, e1, h1.ext e⟩
  | .ins _ _, _, h => by obtain ⟨dx, gs, e1, h1⟩ := h; exact ⟨dx, gs, e1, h1.ext e⟩
theorem RepO.soft {K : PySem.W.Frag} {H : Hp} : ∀ {o : RO} {ho : HO}, RepO K H o ho → Soft ho = true
  | .lst _, _, h => by obtain ⟨_, rfl, _⟩ := h; rfl
  | .dk _, _, h => by obtain ⟨_, rfl, _⟩ := h; rfl
  | .ins _ _, _, h => by obtain ⟨_, _, rfl, _⟩ := h; rfl
def View (K : PySem.W.Frag) (H : Hp) (M : RM) : Prop := ∀ a o, M a = some o → ∃ ho, H a = some ho ∧ RepO K H o ho
section
variable {K : PySem.W.Frag} {H H' : Hp} {M : RM} {p : Addr} {ho : HO} {o : RO}
theorem View.free (w : View K H M) (h : H p = none) : M p = none := by
  cases q : M p with
  | none => rfl
  | some o => obtain ⟨ho, e, _⟩ := w p o q; rw [h] at e; cases e
theorem View.new (w : View K H M) (h : H p = none) : View K (upd H p ho) M := fun a o e => by
  obtain ⟨ho', e1, r⟩ := w a o e
  exact ⟨ho', by rw [upd_ne (ne_of_none e1 h)]; exact e1, r.ext (Ext.new h)⟩
theorem View.newPut (w : View K H M) (h : H p = none) (r : RepO K (upd H p ho) o ho) : View K (upd H p ho) (put M p o) := fun a o' e => by
  by_cases ha : a = p
  · subst ha; rw [put_same] at e; cases e; exact ⟨ho, upd_same, r⟩
  · rw [put_ne ha] at e; exact w.new h a o' e
theorem View.write {o' : RO} (w : View K H M) (h : M p = some o') (r : RepO K (upd H p ho) o ho) : View K (upd H p ho) (put M p o) := fun a o'' e => by
  by_cases ha : a = p
  · subst ha; rw [put_same] at e; cases e; exact ⟨ho, upd_same, r⟩
  · rw [put_ne ha] at e
    obtain ⟨ho', e1, r1⟩ := w a o'' e
    obtain ⟨hp, e2, r2⟩ := w p o' h
    exact ⟨ho', by rw [upd_ne ha]; exact e1, r1.ext (Ext.write e2 r2.soft)⟩
end
abbrev RSt := List (Option RV)
abbrev RVK := RV → RM → Prop
abbrev RTE := RSt → RM → RVK → Prop
abbrev RTT := RSt → RM → (Bool → RM → Prop) → Prop
abbrev RTA := RSt → RM → (List RV → RM → Prop) → Prop
def RepSt (K : PySem.W.Frag) (H : Hp) (σ : RSt) (σ0 : L2.St) : Prop := σ.length = σ0.length ∧ ∀ (i : Nat) r, σ[i]? = some (some r) → ∃ v, σ0[i]? = some (some v) ∧ Rep K H r v
theorem RepSt.ext {K : PySem.W.Frag} {H H' : Hp} {σ : RSt} {σ0 : L2.St} (h : RepSt K H σ σ0) (e : Ext H H') : RepSt K H' σ σ0 :=
  ⟨h.1, fun i r q => by obtain ⟨v, e1, h1⟩ := h.2 i r q; exact ⟨v, e1, Rep.ext e r v h1⟩⟩
theorem RepSt.set {K : PySem.W.Frag} {H : Hp} {σ : RSt} {σ0 : L2.St} {r : RV} {v : V} (h : RepSt K H σ σ0) (hr : Rep K H r v) (i : Nat) : RepSt K H (σ.set i (some r)) (σ0.set i (some v)) := by
  refine ⟨by simp [h.1], fun j r' q => ?_⟩
  by_cases hj : i = j
  · subst hj
    rw [List.getElem?_set] at q
    split at q
    · split at q
      · cases q; rename_i hl _ ; exact ⟨v, by rw [List.getElem?_set_self (by rw [← h.1]; assumption)], hr⟩
      · cases q
    · rename_i z; exact absurd rfl z
  · rw [List.getElem?_set_ne hj] at q
    obtain ⟨w, e1, h1⟩ := h.2 j r' q
    exact ⟨w, by rw [List.getElem?_set_ne hj]; exact e1, h1⟩
def UpK (K : PySem.W.Frag) (H : Hp) (Q : RVK) (Q0 : VK) : Prop := ∀ rv M' v H', Q rv M' → Ext H H' → View K H' M' → Rep K H' rv v → Q0 v H'
theorem UpK.ext {K : PySem.W.Frag} {H H' : Hp} {Q : RVK} {Q0 : VK} (h : UpK K H Q Q0) (e : Ext H H') : UpK K H' Q Q0 := fun rv M' v H2 q e2 w r => h rv M' v H2 q (e.trans e2) w r
def up (K : PySem.W.Frag) (t : RTE) : TE := fun σ0 H Q0 => ∃ σ M Q, RepSt K H σ σ0 ∧ View K H M ∧ t σ M Q ∧ UpK K H Q Q0
def upT (K : PySem.W.Frag) (t : RTT) : TT := fun σ0 H Q0 => ∃ σ M Q, RepSt K H σ σ0 ∧ View K H M ∧ t σ M Q ∧ ∀ b M' H', Q b M' → Ext H H' → View K H' M' → Q0 b H'
def upA (K : PySem.W.Frag) (t : RTA) : TA := fun σ0 H Q0 => ∃ σ M Q, RepSt K H σ σ0 ∧ View K H M ∧ t σ M Q ∧ ∀ rs M' vs H', Q rs M' → Ext H H' → View K H' M' → Reps K H' rs vs → Q0 vs H'
structure RD where
  nx : RSt → RM → Prop
  rt : RVK
  bk : RSt → RM → Prop := fun _ _ => False
  ct : RSt → RM → Prop := fun _ _ => False
abbrev RTS := RD → RSt → RM → Prop
def UpS (K : PySem.W.Frag) (H : Hp) (q : RSt → RM → Prop) (q0 : L2.St → Hp → Prop) : Prop := ∀ σ M σ0 H', q σ M → Ext H H' → View K H' M → RepSt K H' σ σ0 → q0 σ0 H'
theorem UpS.ext {K : PySem.W.Frag} {H H' : Hp} {Q : RSt → RM → Prop} {Q0 : L2.St → Hp → Prop} (h : UpS K H Q Q0) (e : Ext H H') : UpS K H' Q Q0 := fun σ M σ0 H2 q e2 w r => h σ M σ0 H2 q (e.trans e2) w r
structure UpD (K : PySem.W.Frag) (H : Hp) (D : RD) (D0 : Ends) : Prop where
  nx : UpS K H D.nx D0.nx
  rt : UpK K H D.rt D0.rt
  bk : UpS K H D.bk D0.bk
  ct : UpS K H D.ct D0.ct
theorem UpD.ext {K : PySem.W.Frag} {H H' : Hp} {D : RD} {D0 : Ends} (h : UpD K H D D0) (e : Ext H H') : UpD K H' D D0 := ⟨h.nx.ext e, h.rt.ext e, h.bk.ext e, h.ct.ext e⟩
def upS (K : PySem.W.Frag) (t : RTS) : TS := fun D0 σ0 H => ∃ σ M D, RepSt K H σ σ0 ∧ View K H M ∧ t D σ M ∧ UpD K H D D0
def RPE (X : Cx) (e : Expr) (t : RTE) : Prop := PE X e (up X.K t)
def RPT (X : Cx) (e : Expr) (t : RTT) : Prop := PT X e (upT X.K t)
def RPW (X : Cx) (e : Expr) (t : RTT) : Prop := PW X e (upT X.K t)
def RPA (X : Cx) (es : List Expr) (t : RTA) : Prop := PA X es (upA X.K t)
def RPS (X : Cx) (s : Stmt) (t : RTS) : Prop := PS X s (upS X.K t)
def RPSs (X : Cx) (s : List Stmt) (t : RTS) : Prop := PSs X s (upS X.K t)
section
variable {X : Cx}
theorem PE.imp {e : Expr} {t t' : TE} (h : PE X e t) (i : ∀ σ H Q, t' σ H Q → t σ H Q) : PE X e t' := fun pins s σ H Q I w => h pins s σ H Q I (i σ H Q w)
theorem PT.imp {e : Expr} {t t' : TT} (h : PT X e t) (i : ∀ σ H Q, t' σ H Q → t σ H Q) : PT X e t' := fun pins s σ H Q I w => h pins s σ H Q I (i σ H Q w)
theorem PW.imp {e : Expr} {t t' : TT} (h : PW X e t) (i : ∀ σ H Q, t' σ H Q → t σ H Q) : PW X e t' := fun wh pins s σ H Q I w => h wh pins s σ H Q I (i σ H Q w)
theorem PA.imp {e : List Expr} {t t' : TA} (h : PA X e t) (i : ∀ σ H Q, t' σ H Q → t σ H Q) : PA X e t' := fun pos pins s σ H Q I w => h pos pins s σ H Q I (i σ H Q w)
theorem PS.imp {e : Stmt} {t t' : TS} (h : PS X e t) (i : ∀ D σ H, t' D σ H → t D σ H) : PS X e t' := fun pins s σ H D I w => h pins s σ H D I (i D σ H w)
theorem PSs.imp {e : List Stmt} {t t' : TS} (h : PSs X e t) (i : ∀ D σ H, t' D σ H → t D σ H) : PSs X e t' := fun pins s σ H D I w => h pins s σ H D I (i D σ H w)
end
end R
set_option Elab.async false
set_option linter.all false
set_option maxRecDepth 100000
set_option maxHeartbeats 4000000
namespace R
open PySem PySem.Spec PyProof.Rows L2
section
variable {X : Cx} {a b c : Expr} {ta tb tc : RTE} {tA tB : RTT} {pos : Pos} {rest : List Expr}
def rVar (i : Nat) : RTE := fun σ M Q => match σ[i]? with | some (some v) => Q v M | _ => False
def rC (v : RV) : RTE := fun _ M Q => Q v M
theorem rv (i : Nat) {x : Str} {pos : Pos} (hN : X.N[i]? = some x := by rfl) (hv : Vis X.env.scope x := by first | exact Or.inl rfl | exact Or.inr (Or.inl rfl) | exact Or.inr (Or.inr rfl)) (hd : (x == ("__debug__" : Str)) = false := by decide)
    (hcd : (x == ("__classdict__" : Str)) = false := by decide) : RPE X (.Name x pos) (rVar i) := PE.imp (pe_var hN hv hd hcd) fun σ0 H Q h => by
  obtain ⟨σ, M, Qr, hs, hv, ht, hk⟩ := h
  unfold rVar at ht
  split at ht
  · rename_i r e
    obtain ⟨v, e1, h1⟩ := hs.2 i r e
    exact ⟨v, e1, hk r M v H ht (.refl H) hv h1⟩
  · exact ht.elim
theorem rconst {e : Expr} {v : V} {r : RV} (h : PE X e (tC v)) (hr : ∀ H, Rep X.K H r v) : RPE X e (rC r) := PE.imp h fun σ0 H Q h => by
  obtain ⟨σ, M, Qr, hs, hv, ht, hk⟩ := h
  exact hk r M v H ht (.refl H) hv (hr H)
theorem ri {i j pos} : RPE X (.Constant (.int i) j pos) (rC (.int i)) := rconst pe_int fun H => by simp only [Rep]
theorem rb {b j pos} : RPE X (.Constant (.bool b) j pos) (rC (.bl b)) := rconst pe_bl fun H => by simp only [Rep]
theorem rn {j pos} : RPE X (.Constant .none j pos) (rC .non) := rconst pe_non fun H => by simp only [Rep]
theorem rs {x j pos} : RPE X (.Constant (.str x) j pos) (rC (.str x)) := rconst pe_str fun H => by simp only [Rep]
theorem rglob {x : Str} {v : V} {r : RV} {u : Value} {pos : Pos} (hm : X.mg x = some u) (rl : RelV v u) (hr : ∀ H, Rep X.K H r v) (hg : Gl X x := by rfl) (hd : (x == ("__debug__" : Str)) = false := by decide) : RPE X (.Name x pos) (rC r) :=
  rconst (pe_glob hg hm rl hd) hr
theorem rbltn {x : Str} {v : V} {r : RV} {u : Value} {pos : Pos} (hm : X.mg x = none) (hv : bootBuiltins x = some u) (rl : RelV v u) (hr : ∀ H, Rep X.K H r v) (hg : Gl X x := by rfl) (hn : x ≠ "__name__" := by decide) (hd : (x == ("__debug__" : Str)) = false := by decide) : RPE X (.Name x pos) (rC r) :=
  rconst (pe_bltn hg hm hv rl hn hd) hr
abbrev RR2 := RV → RV → RM → RVK → Prop
def upO (K : PySem.W.Frag) (rr : RR2) : R2 := fun x y H Q0 => ∃ rx ry M Q, Rep K H rx x ∧ Rep K H ry y ∧ View K H M ∧ rr rx ry M Q ∧ UpK K H Q Q0
def ROp (X : Cx) (f : Value → Value → Sem Value) (rr : RR2) : Prop := OpR X f (upO X.K rr)
def rOp (rr : RR2) (ta tb : RTE) : RTE := fun σ M Q => ta σ M fun x M1 => tb σ M1 fun y M2 => rr x y M2 Q
theorem rop_imp {K : PySem.W.Frag} {rr : RR2} {σ0 : L2.St} {H : Hp} {Q0 : VK} (h : up K (rOp rr ta tb) σ0 H Q0) : tOp (upO K rr) (up K ta) (up K tb) σ0 H Q0 := by
  obtain ⟨σ, M, Q, hs, hv, ht, hk⟩ := h
  refine ⟨σ, M, _, hs, hv, ht, fun rx M1 x H1 hb e1 v1 r1 => ?_⟩
  refine ⟨σ, M1, _, hs.ext e1, v1, hb, fun ry M2 y H2 hr e2 v2 r2 => ?_⟩
  exact ⟨rx, ry, M2, Q, Rep.ext e2 rx x r1, r2, v2, hr, hk.ext (e1.trans e2)⟩
theorem rop {op : Operator} {rr : RR2} (ho : ROp X (binaryOp op) rr) (ha : RPE X a ta) (hb : RPE X b tb) : RPE X (.BinOp a op b pos) (rOp rr ta tb) := PE.imp (pe_op ho ha hb) fun _ _ _ h => rop_imp h
def rTest (t : RTE) : RTT := fun σ M Q => t σ M fun v M' => match v with | .bl k => Q k M' | _ => False
theorem test_up {K : PySem.W.Frag} {H : Hp} {Q : Bool → RM → Prop} {Q0 : Bool → Hp → Prop} (hk : ∀ b M' H', Q b M' → Ext H H' → View K H' M' → Q0 b H') :
    UpK K H (fun v M' => match v with | .bl k => Q k M' | _ => False) (fun x H' => ∃ k, x = .bl k ∧ Q0 k H') := fun rv M' v H' q e w r => by
  cases rv with
  | bl k => simp only [Rep] at r; exact ⟨k, r, hk k M' H' q e w⟩
  | _ => exact q.elim
theorem rtcmp {op : CmpOp} {rr : RR2} (ho : ROp X (compareOp op) rr) (ha : RPE X a ta) (hb : RPE X b tb) (hm : behindInMarks op b = false := by first | exact nomark _ | (with_unfolding_all rfl)) : RPT X (.Compare a [op] [b] pos) (rTest (rOp rr ta tb)) :=
  PT.imp (pt_cmpR ho ha hb hm) fun σ0 H Q0 h => by
    obtain ⟨σ, M, Q, hs, hv, ht, hk⟩ := h
    exact rop_imp ⟨σ, M, _, hs, hv, ht, test_up hk⟩
theorem rtval {e : Expr} {t : RTE} (h : RPE X e t) (he : ∀ whole, isTrue e X.env whole = (do let v ← whole; standAt e.pos; holding [v] (truthy v)) := by intro _; rfl) : RPT X e (rTest t) :=
  PT.imp (pt_val h he) fun σ0 H Q0 h => by
    obtain ⟨σ, M, Q, hs, hv, ht, hk⟩ := h
    exact ⟨σ, M, _, hs, hv, ht, test_up hk⟩
def rChain (rr rr' : RR2) (ta tb tc : RTE) : RTE := fun σ M Q => ta σ M fun x M1 => tb σ M1 fun y M2 => rr x y M2 fun z M3 => match z with
  | .bl k => (k = true → tc σ M3 fun w M4 => rr' y w M4 Q) ∧ (k = false → Q (.bl false) M3)
  | _ => False
def rUn (g : RV → RM → RVK → Prop) (ta : RTE) : RTE := fun σ M Q => ta σ M fun x M1 => g x M1 Q
def upU (K : PySem.W.Frag) (g : RV → RM → RVK → Prop) : V → Hp → VK → Prop := fun x H Q0 => ∃ rx M Q, Rep K H rx x ∧ View K H M ∧ g rx M Q ∧ UpK K H Q Q0
theorem run_imp {K : PySem.W.Frag} {g : RV → RM → RVK → Prop} {σ0 : L2.St} {H : Hp} {Q0 : VK} (h : up K (rUn g ta) σ0 H Q0) : tUn (upU K g) (up K ta) σ0 H Q0 := by
  obtain ⟨σ, M, Q, hs, hv, ht, hk⟩ := h
  exact ⟨σ, M, _, hs, hv, ht, fun rx M1 x H1 hb e1 v1 r1 => ⟨rx, M1, Q, r1, v1, hb, hk.ext e1⟩⟩
theorem run {op : UnaryOp} {g : RV → RM → RVK → Prop} (ho : UnR X (unaryOp op) (upU X.K g)) (ha : RPE X a ta) : RPE X (.UnaryOp op a pos) (rUn g ta) := PE.imp (pe_un ho ha) fun _ _ _ h => run_imp h
def rAnd (t u : RTT) : RTT := fun σ M Q => t σ M fun c M1 => (c = true → u σ M1 Q) ∧ (c = false → Q false M1)
def rOr (t u : RTT) : RTT := fun σ M Q => t σ M fun c M1 => (c = true → Q true M1) ∧ (c = false → u σ M1 Q)
def rNot (t : RTT) : RTT := fun σ M Q => t σ M fun c M1 => Q (!c) M1
theorem rand1 (ha : RPT X a tA) : RPW X (.BoolOp .And [a] pos) tA := pw_and1 ha
theorem ror1 (ha : RPT X a tA) : RPW X (.BoolOp .Or [a] pos) tA := pw_or1 ha
theorem rand (ha : RPT X a tA) (hb : RPW X (.BoolOp .And (b :: rest) pos) tB) : RPW X (.BoolOp .And (a :: b :: rest) pos) (rAnd tA tB) := PW.imp (pw_and ha hb) fun σ0 H Q0 h => by
  obtain ⟨σ, M, Q, hs, hv, ht, hk⟩ := h
  refine ⟨σ, M, _, hs, hv, ht, fun k M1 H1 q e1 v1 => ?_⟩
  cases k with
  | true => exact iteT ⟨σ, M1, Q, hs.ext e1, v1, q.1 rfl, fun b M' H' z e2 w => hk b M' H' z (e1.trans e2) w⟩
  | false => exact iteF (hk false M1 H1 (q.2 rfl) e1 v1)
theorem ror (ha : RPT X a tA) (hb : RPW X (.BoolOp .Or (b :: rest) pos) tB) : RPW X (.BoolOp .Or (a :: b :: rest) pos) (rOr tA tB) := PW.imp (pw_or ha hb) fun σ0 H Q0 h => by
  obtain ⟨σ, M, Q, hs, hv, ht, hk⟩ := h
  refine ⟨σ, M, _, hs, hv, ht, fun k M1 H1 q e1 v1 => ?_⟩
  cases k with
  | true => exact iteT (hk true M1 H1 (q.1 rfl) e1 v1)
  | false => exact iteF ⟨σ, M1, Q, hs.ext e1, v1, q.2 rfl, fun b M' H' z e2 w => hk b M' H' z (e1.trans e2) w⟩
theorem rtw (h : RPW X a tA) : RPT X a tA := PW.pt h
theorem rtnot (ha : RPT X a tA) : RPT X (.UnaryOp .Not a pos) (rNot tA) := PT.imp (pt_not ha) fun σ0 H Q0 h => by
  obtain ⟨σ, M, Q, hs, hv, ht, hk⟩ := h
  exact ⟨σ, M, _, hs, hv, ht, fun k M1 H1 q e1 v1 => hk (!k) M1 H1 q e1 v1⟩
def rAndV (ta tb : RTE) : RTE := fun σ M Q => ta σ M fun x M1 => match x with | .bl c => (c = true → tb σ M1 Q) ∧ (c = false → Q (.bl false) M1) | _ => False
def rOrV (ta tb : RTE) : RTE := fun σ M Q => ta σ M fun x M1 => match x with | .bl c => (c = true → Q (.bl true) M1) ∧ (c = false → tb σ M1 Q) | _ => False
def rNotV (ta : RTE) : RTE := fun σ M Q => ta σ M fun x M1 => match x with | .bl c => Q (.bl (!c)) M1 | _ => False
def rIf (t : RTT) (ta tb : RTE) : RTE := fun σ M Q => t σ M fun c M1 => (c = true → ta σ M1 Q) ∧ (c = false → tb σ M1 Q)
theorem rif {c : Expr} (hc : RPT X c tA) (ha : RPE X a ta) (hb : RPE X b tb) : RPE X (.IfExp c a b pos) (rIf tA ta tb) := PE.imp (pe_ifExp hc ha hb) fun σ0 H Q0 h => by
  obtain ⟨σ, M, Q, hs, hv, ht, hk⟩ := h
  refine ⟨σ, M, _, hs, hv, ht, fun k M1 H1 q e1 v1 => ?_⟩
  cases k with
  | true => exact iteT ⟨σ, M1, Q, hs.ext e1, v1, q.1 rfl, hk.ext e1⟩
  | false => exact iteF ⟨σ, M1, Q, hs.ext e1, v1, q.2 rfl, hk.ext e1⟩
variable {e : Expr} {es : List Expr} {te : RTE} {t : RTA}
def rNil : RTA := fun _ M Q => Q [] M
def rCons (ta : RTE) (tr : RTA) : RTA := fun σ M Q => ta σ M fun x M1 => tr σ M1 fun xs M2 => Q (x :: xs) M2
theorem anil : RPA X [] rNil := PA.imp pa_nil fun σ0 H Q0 h => by
  obtain ⟨σ, M, Q, hs, hv, ht, hk⟩ := h
  exact hk [] M [] H ht (.refl H) hv Reps.nil
theorem acons (ha : RPE X e te) (hr : RPA X es t) (hs : starEach (e :: es) X.env = (false, eval e X.env) :: starEach es X.env := by rfl) : RPA X (e :: es) (rCons te t) := PA.imp (pa_cons ha hr hs) fun σ0 H Q0 h => by
  obtain ⟨σ, M, Q, hs, hv, ht, hk⟩ := h
  refine ⟨σ, M, _, hs, hv, ht, fun rx M1 x H1 q e1 v1 r1 => ?_⟩
  refine ⟨σ, M1, _, hs.ext e1, v1, q, fun rs M2 vs H2 q2 e2 v2 r2 => ?_⟩
  exact hk (rx :: rs) M2 (x :: vs) H2 q2 (e1.trans e2) v2 (Reps.cons (Rep.ext e2 rx x r1) r2)
def rTup (t : RTA) : RTE := fun σ M Q => t σ M fun rs M1 => rs.length ≤ sizeLine ∧ Q (.tup rs) M1
theorem rep_tup {K : PySem.W.Frag} {H : Hp} {p : Addr} {rs : List RV} {vs : List V} (h : H p = none) (r : Reps K H rs vs) : Rep K (upd H p (.tup vs)) (.tup rs) (.ref p) := by
  simp only [Rep]; exact ⟨p, vs, rfl, SqT.of upd_same, Reps.ext (Ext.new h) rs vs r⟩
theorem rep_ls {K : PySem.W.Frag} {H : Hp} {p : Addr} {o : Obj} {rs : List RV} {vs : List V} (h : H p = none) (r : Reps K H rs vs) : Rep K (upd H p (.frz o (.lst vs))) (.ls rs) (.ref p) := by
  simp only [Rep]; exact ⟨p, vs, rfl, .inl ⟨o, upd_same⟩, Reps.ext (Ext.new h) rs vs r⟩
theorem rtup {x1} (h : RPA X es t) : RPE X (.Tuple es x1 pos) (rTup t) := PE.imp (pe_tup h) fun σ0 H Q0 h => by
  obtain ⟨σ, M, Q, hs, hv, ht, hk⟩ := h
  refine ⟨σ, M, _, hs, hv, ht, fun rs M1 vs H1 q e1 v1 r1 => ⟨by rw [← r1.length]; exact q.1, fun p hp => ?_⟩⟩
  exact hk _ M1 _ _ q.2 (e1.trans (Ext.new hp)) (v1.new hp) (rep_tup hp r1)
def rLst (t : RTA) : RTE := fun σ M Q => t σ M fun rs M1 => rs.length ≤ sizeLine ∧ ∀ p, M1 p = none → Q (.ref p) (put M1 p (.lst rs))
theorem rlst (h : RPA X es t) : RPE X (.List es pos) (rLst t) := PE.imp (pe_lst h) fun σ0 H Q0 h => by
  obtain ⟨σ, M, Q, hs, hv, ht, hk⟩ := h
  refine ⟨σ, M, _, hs, hv, ht, fun rs M1 vs H1 q e1 v1 r1 => ⟨by rw [← r1.length]; exact q.1, fun p hp => ?_⟩⟩
  exact hk _ _ _ _ (q.2 p (v1.free hp)) (e1.trans (Ext.new hp)) (v1.newPut hp ⟨vs, rfl, Reps.ext (Ext.new hp) rs vs r1⟩) (by simp only [Rep])
end
section
variable {X : Cx} {pins : List (Addr × Obj)} {σ : L2.St} {H : Hp} {s : Shared}
theorem freeze {p : Addr} {xs : List V} (I : Inv X pins σ H s) (h : H p = some (.lst xs)) : ∃ o, Inv X pins σ (upd H p (.frz o (.lst xs))) s := by
  have hz : xs.length ≤ sizeLine ∧ ∃ (its : List Value) (n : Nat), Vals xs its ∧ s.heap.get? p = some { cls := .type "list", data := .seq its.toArray n } := I.hok p _ h
  obtain ⟨z, its, n, r, e⟩ := id hz
  have np : ∀ b, H b = none → b ≠ p := fun b q w => by subst w; rw [h] at q; cases q
  refine ⟨{ cls := .type "list", data := .seq its.toArray n }, ⟨I.ok, I.os, I.bare, ⟨I.base.keep, I.base.slot, fun b o q w x => ?_, I.base.there, fun b xs' q => ?_, fun b o u q => ?_, fun b ps q => ?_⟩, I.loc, I.cell, ?_, fun x c q => ?_, fun q hq => ?_, fun b u q => ?_, I.len⟩⟩
  · have := I.base.free b o q w x
    rw [upd_ne (np b this)]; exact this
  · have e1 := I.base.tups b xs' q
    rw [upd_ne (ne_of e1 h (by intro z; cases z))]; exact e1
  · have e1 := I.base.frzs b o u q
    rw [upd_ne (ne_of e1 h (by intro z; cases z))]; exact e1
  · obtain ⟨more, e1⟩ := I.base.tbls b ps q
    exact ⟨more, by rw [upd_ne (ne_of e1 h (by intro z; cases z))]; exact e1⟩
  · rw [upd_ne (np _ I.free)]; exact I.free
  · have := I.freeC x c q
    rw [upd_ne (np _ this)]; exact this
  · obtain ⟨a1, a2, a3⟩ := I.pin q hq
    exact ⟨a1, by rw [upd_ne (np _ a2)]; exact a2, a3⟩
  · by_cases hb : b = p
    · subst hb
      rw [upd_same] at q; cases q
      exact ⟨e, z, its, n, r, e⟩
    · rw [upd_ne hb] at q
      refine (I.hok b u q).stay (fun _ _ _ q => q) (fun c q => ?_) fun c ys q => ?_
      · rw [upd_ne (ne_of q h (by intro z; cases z))]; exact q
      · rw [upd_ne (ne_of q h (by intro z; cases z))]; exact q
theorem frozen {Q : VK} {u : Value} (h : EP X pins σ (fun v H' => ∃ H1 p xs, v = .ref p ∧ H1 p = none ∧ H' = upd H1 p (.lst xs) ∧ ∀ o, Q (.ref p) (upd H1 p (.frz o (.lst xs)))) u s) : EP X pins σ Q u s := by
  obtain ⟨v, H', I, r, H1, p, xs, rfl, hn, rfl, q⟩ := h
  obtain ⟨o, I'⟩ := freeze I (p := p) (xs := xs) upd_same
  rw [upd_upd] at I'
  exact ⟨.ref p, _, I', r, q o⟩
end
section
variable {X : Cx} {es : List Expr} {t : RTA} {pos : Pos}
def rLsF (t : RTA) : RTE := fun σ M Q => t σ M fun rs M1 => rs.length ≤ sizeLine ∧ Q (.ls rs) M1
theorem rlsf (h : RPA X es t) : RPE X (.List es pos) (rLsF t) := fun pins s σ0 H Q0 I hw => by
  obtain ⟨σ, M, Q, hs, hv, ht, hk⟩ := hw
  refine thn (pe_lst h pins s σ0 H (fun v H' => ∃ H1 p xs, v = .ref p ∧ H1 p = none ∧ H' = upd H1 p (.lst xs) ∧ ∀ o, Q0 (.ref p) (upd H1 p (.frz o (.lst xs)))) I ?_) fun _ _ e => frozen e
  refine ⟨σ, M, _, hs, hv, ht, fun rs M1 vs H1 q e1 v1 r1 => ⟨by rw [← r1.length]; exact q.1, fun p hp => ⟨H1, p, vs, rfl, hp, rfl, fun o => ?_⟩⟩⟩
  exact hk _ M1 _ _ q.2 (e1.trans (Ext.new hp)) (v1.new hp) (rep_ls hp r1)
end
section
variable {X : Cx} {st : Stmt} {rest : List Stmt} {t u : RTS} {e : Expr} {te : RTE} {pos : Pos}
def rNext : RTS := fun D σ M => D.nx σ M
def rSeq (t u : RTS) : RTS := fun D σ M => t { D with nx := u D } σ M
theorem snil : RPSs X [] rNext := PSs.imp pss_nil fun D0 σ0 H h => by
  obtain ⟨σ, M, D, hs, hv, ht, hd⟩ := h
  exact hd.nx σ M σ0 H ht (.refl H) hv hs
theorem scons (h1 : RPS X st t) (h2 : RPSs X rest u) : RPSs X (st :: rest) (rSeq t u) := PSs.imp (pss_cons h1 h2) fun D0 σ0 H h => by
  obtain ⟨σ, M, D, hs, hv, ht, hd⟩ := h
  refine ⟨σ, M, _, hs, hv, ht, ⟨fun σ' M' σ0' H' q e w r => ?_, hd.rt, hd.bk, hd.ct⟩⟩
  exact ⟨σ', M', D, r, w, q, hd.ext e⟩
theorem sone (h1 : RPS X st t) : RPSs X [st] t := pss_one h1
def rBreak : RTS := fun D σ M => D.bk σ M
def rCont : RTS := fun D σ M => D.ct σ M
def rDrop (te : RTE) : RTS := fun D σ M => te σ M fun _ M1 => D.nx σ M1
def rRet (te : RTE) : RTS := fun D σ M => te σ M D.rt
theorem sret (he : RPE X e te) : RPS X (.Return (some e) pos) (rRet te) := PS.imp (ps_ret he) fun D0 σ0 H h => by
  obtain ⟨σ, M, D, hs, hv, ht, hd⟩ := h
  exact ⟨σ, M, _, hs, hv, ht, hd.rt⟩
def rRetN : RTS := fun D _ M => D.rt .non M
def rIfS (c : RTT) (t u : RTS) : RTS := fun D σ M => c σ M fun b M1 => (b = true → t D σ M1) ∧ (b = false → u D σ M1)
theorem sif {c : Expr} {a b : List Stmt} {tc : RTT} (hc : RPT X c tc) (ha : RPSs X a t) (hb : RPSs X b u) : RPS X (.If c a b pos) (rIfS tc t u) := PS.imp (ps_if hc ha hb) fun D0 σ0 H h => by
  obtain ⟨σ, M, D, hs, hv, ht, hd⟩ := h
  refine ⟨σ, M, _, hs, hv, ht, fun k M1 H1 q e1 v1 => ?_⟩
  cases k with
  | true => exact iteT ⟨σ, M1, D, hs.ext e1, v1, q.1 rfl, hd.ext e1⟩
  | false => exact iteF ⟨σ, M1, D, hs.ext e1, v1, q.2 rfl, hd.ext e1⟩
def rSet (i : Nat) (te : RTE) : RTS := fun D σ M => te σ M fun x M1 => D.nx (σ.set i (some x)) M1
theorem sset (i : Nat) {x : Str} {pos' : Pos} (he : RPE X e te) (hN : X.N.Nodup) (hi : X.N[i]? = some x := by rfl) (hx : Loc X.env.scope x := by first | exact Or.inl rfl | exact Or.inr rfl) (hs : swapsWith e (some (.Name x pos')) pos.line X.env = pure false := by rfl)
    (hf : X.fn x = true ∨ X.env.scope.names.lookup x = some .local := by first | exact .inl rfl | exact .inr rfl) : RPS X (.Assign [.Name x pos'] e pos) (rSet i te) := PS.imp (ps_set hN hi hx he hs hf) fun D0 σ0 H h => by
  obtain ⟨σ, M, D, hs, hv, ht, hd⟩ := h
  exact ⟨σ, M, _, hs, hv, ht, fun rx M1 x H1 q e1 v1 r1 => hd.nx _ M1 _ H1 q e1 v1 ((hs.ext e1).set r1 i)⟩
abbrev RTG := RV → RSt → RM → (RSt → RM → Prop) → Prop
def upG (K : PySem.W.Frag) (g : RTG) : TG := fun v σ0 H Q0 => ∃ rv σ M Q, Rep K H rv v ∧ RepSt K H σ σ0 ∧ View K H M ∧ g rv σ M Q ∧ UpS K H Q Q0
def RPG (X : Cx) (target : Expr) (g : RTG) : Prop := PG X target (upG X.K g)
theorem PG.imp {tg : Expr} {t t' : TG} (h : PG X tg t) (i : ∀ v σ H Q, t' v σ H Q → t v σ H Q) : PG X tg t' := fun pins s σ H v u Q I r w => h pins s σ H v u Q I r (i v σ H Q w)
def rgN (i : Nat) : RTG := fun x σ M Q => Q (σ.set i (some x)) M
theorem gname (i : Nat) {x : Str} {pos : Pos} (hN : X.N.Nodup) (hi : X.N[i]? = some x := by rfl) (hx : Loc X.env.scope x := by first | exact Or.inl rfl | exact Or.inr rfl)
    (hf : X.fn x = true ∨ X.env.scope.names.lookup x = some .local := by first | exact .inl rfl | exact .inr rfl) : RPG X (.Name x pos) (rgN i) := PG.imp (pg_name hN hi hx hf) fun v σ0 H Q0 h => by
  obtain ⟨rv, σ, M, Q, hr, hs, hv, hg, hk⟩ := h
  exact hk _ M _ H hg (.refl H) hv (hs.set hr i)
def setAll : RSt → List Nat → List RV → RSt
  | σ, i :: is, x :: xs => setAll (σ.set i (some x)) is xs
  | σ, _, _ => σ
def rgU (is : List Nat) : RTG := fun x σ M Q => match x with | .tup xs => xs.length = is.length ∧ Q (setAll σ is xs) M | _ => False
def rAsg (te : RTE) (g : RTG) : RTS := fun D σ M => te σ M fun x M1 => g x σ M1 D.nx
theorem sasg {tg e : Expr} {te : RTE} {g : RTG} {pos : Pos} (he : RPE X e te) (hg : RPG X tg g) (hs : swapsWithSole [tg] e pos.line X.env = pure false := by rfl) (hw : swappedStores [tg] e X.env = pure none := by rfl)
    (h1 : (assignEach [tg] X.env).map (·.2) = [assign tg X.env] := by rfl) : RPS X (.Assign [tg] e pos) (rAsg te g) := PS.imp (ps_asg he hg hs hw h1) fun D0 σ0 H h => by
  obtain ⟨σ, M, D, hs, hv, ht, hd⟩ := h
  exact ⟨σ, M, _, hs, hv, ht, fun rx M1 x H1 q e1 v1 r1 => ⟨rx, σ, M1, D.nx, r1, hs.ext e1, v1, q, hd.nx.ext e1⟩⟩
abbrev RTSet := RV → RV → RV → RM → (RM → Prop) → Prop
def upSet (K : PySem.W.Frag) (g : RTSet) : TSet := fun o i v H Q0 => ∃ ro ri rx M Q, Rep K H ro o ∧ Rep K H ri i ∧ Rep K H rx v ∧ View K H M ∧ g ro ri rx M Q ∧ ∀ M' H', Q M' → Ext H H' → View K H' M' → Q0 H'
def rgSub (to ti : RTE) (g : RTSet) : RTG := fun v σ M Q => to σ M fun o M1 => ti σ M1 fun i M2 => g o i v M2 fun M3 => Q σ M3
theorem gsub {o i : Expr} {to ti : RTE} {g : RTSet} {pos : Pos} (ho : RPE X o to) (hi : RPE X i ti) (hs : PSet X (upSet X.K g))
    (ha : ∀ v, assign (.Subscript o i pos) X.env v = (do
      let ov ← holding [v] (eval o X.env)
      let iv ← holding [v, ov] (eval i X.env)
      standAt pos
      holding [v, ov, iv] (setItem ov iv v)
      release [v, ov, iv] []) := by intro _; rfl) : RPG X (.Subscript o i pos) (rgSub to ti g) := PG.imp (pg_sub ho hi hs ha) fun v σ0 H Q0 h => by
  obtain ⟨rv, σ, M, Q, hr, hs, hv, hg, hk⟩ := h
  refine ⟨σ, M, _, hs, hv, hg, fun ro M1 o H1 q e1 v1 r1 => ?_⟩
  refine ⟨σ, M1, _, hs.ext e1, v1, q, fun ri M2 i H2 q2 e2 v2 r2 => ?_⟩
  refine ⟨ro, ri, rv, M2, _, Rep.ext e2 ro o r1, r2, Rep.ext (e1.trans e2) rv v hr, v2, q2, fun M3 H3 q3 e3 v3 => ?_⟩
  have e := (e1.trans e2).trans e3
  exact hk σ M3 σ0 H3 q3 e v3 (hs.ext e)
def rForL (g : RTG) (tb : RTS) (D : RD) : List RV → RSt → RM → Prop
  | [], σ, M => D.nx σ M
  | x :: r, σ, M => g x σ M fun σ2 M2 => tb { D with nx := rForL g tb D r, ct := rForL g tb D r, bk := D.nx } σ2 M2
end
end R
set_option Elab.async false
set_option linter.all false
set_option maxRecDepth 100000
set_option maxHeartbeats 1000000
namespace R
open PySem PySem.Spec PyProof.Rows L2
open PySem.SeqAt (EqAt RcAt RcNeAt)
mutual
def eqR : RV → RV → Bool
  | .non, .non => true
  | .bl a, .bl b => a == b
  | .bl a, .int b => (if a then 1 else 0) == b
  | .int a, .bl b => a == (if b then 1 else 0)
  | .int a, .int b => a == b
  | .str a, .str b => a == b
  | .tup xs, .tup ys => eqRs xs ys
  | .ls xs, .ls ys => eqRs xs ys
  | _, _ => false
def eqRs : List RV → List RV → Bool
  | [], [] => true
  | x :: xs, y :: ys => eqR x y && eqRs xs ys
  | _, _ => false
end
def okR : Nat → RV → Bool
  | _, .non => true
  | _, .bl _ => true
  | _, .int _ => true
  | _, .str _ => true
  | n + 1, .tup xs => xs.all (okR n)
  | n + 1, .ls xs => xs.all (okR n)
  | _, _ => false
mutual
def Den (h : Heap) : RV → Value → Prop
  | .non, u => u = .none
  | .bl b, u => u = .bool b
  | .int i, u => ∃ t, u = .int i t
  | .str x, u => ∃ t, u = .str x t
  | .tup xs, u => ∃ a its, u = .ref a ∧ h.IsTuple a its.toArray ∧ Dens h xs its
  | .ls xs, u => ∃ a its, u = .ref a ∧ h.IsList a its.toArray ∧ Dens h xs its
  | .ref _, _ => False
  | .ty _, _ => False
def Dens (h : Heap) : List RV → List Value → Prop
  | [], us => us = []
  | x :: xs, us => ∃ u r, us = u :: r ∧ Den h x u ∧ Dens h xs r
end
theorem Dens.length {h : Heap} : ∀ {xs : List RV} {us : List Value}, Dens h xs us → xs.length = us.length
  | [], us, d => by simp only [Dens] at d; subst d; rfl
  | x :: xs, us, d => by
    simp only [Dens] at d
    obtain ⟨u, r, rfl, _, t⟩ := d
    simp [Dens.length t]
theorem Dens.get {h : Heap} : ∀ {xs : List RV} {us : List Value} {j : Nat} {u : Value}, Dens h xs us → us[j]? = some u → Den h (xs.getD j .non) u ∧ xs.getD j .non ∈ xs
  | [], us, _, _, d, e => by simp only [Dens] at d; subst d; simp at e
  | x :: xs, us, 0, u, d, e => by
    simp only [Dens] at d
    obtain ⟨v, r, rfl, h1, _⟩ := d
    simp at e; subst e
    exact ⟨by simpa using h1, by simp⟩
  | x :: xs, us, j + 1, u, d, e => by
    simp only [Dens] at d
    obtain ⟨v, r, rfl, _, t⟩ := d
    obtain ⟨a, b⟩ := Dens.get (j := j) t (by simpa using e)
    exact ⟨by simpa using a, by simp only [List.getD_cons_succ]; exact List.mem_cons_of_mem _ b⟩
section
variable {X : Cx} {pins : List (Addr × Obj)} {σ : L2.St} {H : Hp} {s : Shared}
theorem Vals.cons_inv {v : V} {vs : List V} {us : List Value} (r : Vals (v :: vs) us) : ∃ u us', us = u :: us' ∧ RelV v u ∧ Vals vs us' := by
  cases r with
  | cons a b => exact ⟨_, _, rfl, a, b⟩
theorem den_of (I : Inv X pins σ H s) : ∀ (n : Nat), (∀ (r : RV) (v : V) (u : Value), okR n r = true → Rep X.K H r v → RelV v u → Den s.heap r u) := by
  intro n
  induction n with
  | zero =>
    intro r v u o h w
    cases r with
    | non => simp only [Rep] at h; subst h; simp only [Den]; exact w
    | bl b => simp only [Rep] at h; subst h; simp only [Den]; exact w
    | int i => simp only [Rep] at h; subst h; simp only [Den]; exact w
    | str x => simp only [Rep] at h; subst h; simp only [Den]; exact w
    | _ => simp [okR] at o
  | succ n ih =>
    have all : ∀ (rs : List RV) (vs : List V) (us : List Value), rs.all (okR n) = true → Reps X.K H rs vs → Vals vs us → Dens s.heap rs us := by
      intro rs
      induction rs with
      | nil =>
        intro vs us _ h w
        simp only [Reps] at h; subst h; cases w; simp only [Dens]
      | cons x xs ihx =>
        intro vs us o h w
        simp only [Reps] at h
        obtain ⟨v, r, rfl, h1, h2⟩ := h
        obtain ⟨u, us', rfl, w1, w2⟩ := Vals.cons_inv w
        rw [List.all_cons, Bool.and_eq_true] at o
        simp only [Dens]
        exact ⟨u, us', rfl, ih x v u o.1 h1 w1, ihx r us' o.2 h2 w2⟩
    intro r v u o h w
    cases r with
    | non => simp only [Rep] at h; subst h; simp only [Den]; exact w
    | bl b => simp only [Rep] at h; subst h; simp only [Den]; exact w
    | int i => simp only [Rep] at h; subst h; simp only [Den]; exact w
    | str x => simp only [Rep] at h; subst h; simp only [Den]; exact w
    | tup xs =>
      simp only [Rep] at h
      obtain ⟨a, vs, rfl, h1, h2⟩ := h
      obtain ⟨its, rv, ht, _⟩ := I.tuple h1
      simp only [Den]
      exact ⟨a, its, w, ht, all xs vs its o h2 rv⟩
    | ls xs =>
      simp only [Rep] at h
      obtain ⟨a, vs, rfl, h1, h2⟩ := h
      obtain ⟨its, rv, ht, _⟩ := I.list h1.sq
      simp only [Den]
      exact ⟨a, its, w, ht.isList, all xs vs its o h2 rv⟩
    | _ => simp [okR] at o
end
theorem seq_inj {h : Heap} {a : Addr} {xs ys : List Value} (p : h.IsTuple a xs.toArray) (q : h.IsTuple a ys.toArray) : xs = ys := by
  obtain ⟨o, e, _, n, d⟩ := p
  obtain ⟨o', e', _, n', d'⟩ := q
  rw [e] at e'; cases e'
  rw [d] at d'
  injection d' with d1 _
  simpa using congrArg Array.toList d1
theorem lst_inj {h : Heap} {a : Addr} {xs ys : List Value} (p : h.IsList a xs.toArray) (q : h.IsList a ys.toArray) : xs = ys := by
  obtain ⟨o, e, _, n, d⟩ := p
  obtain ⟨o', e', _, n', d'⟩ := q
  rw [e] at e'; cases e'
  rw [d] at d'
  injection d' with d1 _
  simpa using congrArg Array.toList d1
theorem lt_apart {h : Heap} {a : Addr} {xs ys : Array Value} (p : h.IsList a xs) (q : h.IsTuple a ys) : False := by
  obtain ⟨o, e, c, _⟩ := p
  obtain ⟨o', e', c', _⟩ := q
  rw [e] at e'; cases e'
  rw [c] at c'
  exact absurd c' (by decide +kernel)
def isS : RV → Bool
  | .non => true
  | .bl _ => true
  | .int _ => true
  | .str _ => true
  | _ => false
def absR : Value → Option RV
  | .none => some .non
  | .bool b => some (.bl b)
  | .int i _ => some (.int i)
  | .str x _ => some (.str x)
  | _ => none
theorem den_s {h : Heap} {u : Value} : ∀ {x : RV}, isS x = true → Den h x u → absR u = some x
  | .non, _, d => by simp only [Den] at d; subst d; rfl
  | .bl _, _, d => by simp only [Den] at d; subst d; rfl
  | .int _, _, d => by simp only [Den] at d; obtain ⟨t, rfl⟩ := d; rfl
  | .str _, _, d => by simp only [Den] at d; obtain ⟨t, rfl⟩ := d; rfl
theorem den_n {h : Heap} {u : Value} : ∀ {x : RV}, isS x = false → Den h x u → absR u = none
  | .tup _, _, d => by simp only [Den] at d; obtain ⟨a, its, rfl, _⟩ := d; rfl
  | .ls _, _, d => by simp only [Den] at d; obtain ⟨a, its, rfl, _⟩ := d; rfl
  | .ref _, _, d => by simp only [Den] at d
  | .ty _, _, d => by simp only [Den] at d
theorem den_inj {h : Heap} : ∀ (n : Nat) (x y : RV) (u : Value), okR n x = true → okR n y = true → Den h x u → Den h y u → x = y := by
  intro n
  have sc : ∀ (x y : RV) (u : Value), isS x = true → Den h x u → Den h y u → x = y := by
    intro x y u sx dx dy
    have ex := den_s sx dx
    cases sy : isS y with
    | true =>
      have ey := den_s sy dy
      rw [ex] at ey
      exact Option.some.inj ey
    | false =>
      have ey := den_n sy dy
      rw [ex] at ey
      cases ey
  induction n with
  | zero =>
    intro x y u ox oy dx dy
    have sx : isS x = true := by cases x <;> first | rfl | (simp [okR] at ox)
    exact sc x y u sx dx dy
  | succ n ih =>
    have all : ∀ (xs ys : List RV) (us : List Value), xs.all (okR n) = true → ys.all (okR n) = true → Dens h xs us → Dens h ys us → xs = ys := by
      intro xs
      induction xs with
      | nil =>
        intro ys us _ _ d e
        simp only [Dens] at d; subst d
        cases ys with
        | nil => rfl
        | cons y ys => simp only [Dens] at e; obtain ⟨_, _, z, _⟩ := e; cases z
      | cons x xs ihx =>
        intro ys us ox oy d e
        simp only [Dens] at d
        obtain ⟨u, r, rfl, d1, d2⟩ := d
        cases ys with
        | nil => simp only [Dens] at e; cases e
        | cons y ys =>
          simp only [Dens] at e
          obtain ⟨u', r', z, e1, e2⟩ := e
          cases z
          rw [List.all_cons, Bool.and_eq_true] at ox oy
          rw [ih x y u ox.1 oy.1 d1 e1, ihx ys r ox.2 oy.2 d2 e2]
    intro x y u ox oy dx dy
    cases sx : isS x with
    | true => exact sc x y u sx dx dy
    | false =>
      cases sy : isS y with
      | true => exact (sc y x u sy dy dx).symm
      | false =>
        cases x with
        | tup xs =>
          simp only [Den] at dx
          obtain ⟨a, its, rfl, p, d⟩ := dx
          cases y with
          | tup ys =>
            simp only [Den] at dy
            obtain ⟨a', its', z, p', d'⟩ := dy
            cases z
            obtain rfl := seq_inj p p'
            rw [all xs ys its ox oy d d']
          | ls ys =>
            simp only [Den] at dy
            obtain ⟨a', its', z, p', d'⟩ := dy
            cases z
            exact (lt_apart p' p).elim
          | ref _ => simp only [Den] at dy
          | ty _ => simp only [Den] at dy
          | _ => cases sy
        | ls xs =>
          simp only [Den] at dx
          obtain ⟨a, its, rfl, p, d⟩ := dx
          cases y with
          | ls ys =>
            simp only [Den] at dy
            obtain ⟨a', its', z, p', d'⟩ := dy
            cases z
            obtain rfl := lst_inj p p'
            rw [all xs ys its ox oy d d']
          | tup ys =>
            simp only [Den] at dy
            obtain ⟨a', its', z, p', d'⟩ := dy
            cases z
            exact (lt_apart p p').elim
          | ref _ => simp only [Den] at dy
          | ty _ => simp only [Den] at dy
          | _ => cases sy
        | ref _ => simp only [Den] at dx
        | ty _ => simp only [Den] at dx
        | _ => cases sx
mutual
theorem eqR_refl : ∀ (x : RV), (∃ n, okR n x = true) → eqR x x = true
  | .non, _ => by simp [eqR]
  | .bl _, _ => by simp [eqR]
  | .int _, _ => by simp [eqR]
  | .str _, _ => by simp [eqR]
  | .tup xs, ⟨n, o⟩ => by
    rw [eqR]
    refine eqRs_refl xs ?_
    cases n with
    | zero => simp [okR] at o
    | succ n => exact ⟨n, o⟩
  | .ls xs, ⟨n, o⟩ => by
    rw [eqR]
    refine eqRs_refl xs ?_
    cases n with
    | zero => simp [okR] at o
    | succ n => exact ⟨n, o⟩
  | .ref _, ⟨n, o⟩ => by cases n <;> simp [okR] at o
  | .ty _, ⟨n, o⟩ => by cases n <;> simp [okR] at o
theorem eqRs_refl : ∀ (xs : List RV), (∃ n, xs.all (okR n) = true) → eqRs xs xs = true
  | [], _ => by simp [eqRs]
  | x :: xs, ⟨n, o⟩ => by
    rw [List.all_cons, Bool.and_eq_true] at o
    rw [eqRs, eqR_refl x ⟨n, o.1⟩, eqRs_refl xs ⟨n, o.2⟩]; rfl
end
abbrev pairR (xs ys : List RV) (j : Nat) : Bool := eqR (xs.getD j .non) (ys.getD j .non)
theorem eqRs_eq : ∀ xs ys : List RV, ((List.range (min xs.length ys.length)).all (pairR xs ys) && xs.length == ys.length) = eqRs xs ys
  | [], [] => by simp [eqRs]
  | [], _ :: _ => by simp [eqRs]
  | _ :: _, [] => by simp [eqRs]
  | x :: xs, y :: ys => by
    have ih := eqRs_eq xs ys
    have e1 : min (x :: xs).length (y :: ys).length = min xs.length ys.length + 1 := by simp only [List.length_cons]; omega
    have e2 : ((x :: xs).length == (y :: ys).length) = (xs.length == ys.length) := by simp
    have e3 : (List.range (min xs.length ys.length + 1)).all (pairR (x :: xs) (y :: ys)) = (eqR x y && (List.range (min xs.length ys.length)).all (pairR xs ys)) := by
      rw [List.range_succ_eq_map, List.all_cons, List.all_map]
      rfl
    rw [e1, e2, e3, eqRs, ← ih, Bool.and_assoc]
theorem eqRs_same {xs ys : List RV} (h : xs.length = ys.length) : (List.range xs.length).all (pairR xs ys) = eqRs xs ys := by
  have := eqRs_eq xs ys
  rw [← h, Nat.min_self] at this
  simpa using this
theorem eqRs_other {xs ys : List RV} (h : xs.length ≠ ys.length) : eqRs xs ys = false := by
  have := eqRs_eq xs ys
  rw [← this]
  simp [h]
theorem in1_units (A : Around) : A.in1.units = A.units + 1 := rfl
theorem eqAt_den : ∀ (n : Nat) (x y : RV) (A : Around) (s : Shared) (u w : Value), okR n x = true → okR n y = true → Den s.heap x u → Den s.heap y w → A.units + n < cLine → EqAt A s u w (eqR x y) := by
  intro n
  induction n with
  | zero =>
    intro x y A s u w ox oy dx dy hu
    cases x with
    | non =>
      simp only [Den] at dx
      cases y with
      | non =>
        simp only [Den] at dy
        subst dx
        subst dy
        simp only [eqR, Bool.not_false, Bool.not_true]
        exact EqAt.same _
      | bl y =>
        simp only [Den] at dy
        subst dx
        subst dy
        simp only [eqR, Bool.not_false, Bool.not_true]
        exact EqAt.none_bool _
      | int y =>
        simp only [Den] at dy
        subst dx
        obtain ⟨t2, rfl⟩ := dy
        simp only [eqR, Bool.not_false, Bool.not_true]
        exact EqAt.none_int _ _
      | str y =>
        simp only [Den] at dy
        subst dx
        obtain ⟨t2, rfl⟩ := dy
        simp only [eqR, Bool.not_false, Bool.not_true]
        exact EqAt.none_str _ _
      | ref y => exact (by simpa only [Den] using dy : False).elim
      | ty y => exact (by simpa only [Den] using dy : False).elim
      | tup y => simp [okR] at oy
      | ls y => simp [okR] at oy
    | bl x =>
      simp only [Den] at dx
      cases y with
      | non =>
        simp only [Den] at dy
        subst dx
        subst dy
        simp only [eqR, Bool.not_false, Bool.not_true]
        exact EqAt.bool_none _
      | bl y =>
        simp only [Den] at dy
        subst dx
        subst dy
        simp only [eqR, Bool.not_false, Bool.not_true]
        exact EqAt.bool_bool _ _
      | int y =>
        simp only [Den] at dy
        subst dx
        obtain ⟨t2, rfl⟩ := dy
        simp only [eqR, Bool.not_false, Bool.not_true]
        exact EqAt.bool_int _ _ _
      | str y =>
        simp only [Den] at dy
        subst dx
        obtain ⟨t2, rfl⟩ := dy
        simp only [eqR, Bool.not_false, Bool.not_true]
        exact EqAt.bool_str _ _ _
      | ref y => exact (by simpa only [Den] using dy : False).elim
      | ty y => exact (by simpa only [Den] using dy : False).elim
      | tup y => simp [okR] at oy
      | ls y => simp [okR] at oy
    | int x =>
      simp only [Den] at dx
      cases y with
      | non =>
        simp only [Den] at dy
        obtain ⟨t1, rfl⟩ := dx
        subst dy
        simp only [eqR, Bool.not_false, Bool.not_true]
        exact EqAt.int_none _ _
      | bl y =>
        simp only [Den] at dy
        obtain ⟨t1, rfl⟩ := dx
        subst dy
        simp only [eqR, Bool.not_false, Bool.not_true]
        exact EqAt.int_bool _ _ _
      | int y =>
        simp only [Den] at dy
        obtain ⟨t1, rfl⟩ := dx
        obtain ⟨t2, rfl⟩ := dy
        simp only [eqR, Bool.not_false, Bool.not_true]
        exact EqAt.int_int _ _ _ _
      | str y =>
        simp only [Den] at dy
        obtain ⟨t1, rfl⟩ := dx
        obtain ⟨t2, rfl⟩ := dy
        simp only [eqR, Bool.not_false, Bool.not_true]
        exact EqAt.int_str _ _ _ _
      | ref y => exact (by simpa only [Den] using dy : False).elim
      | ty y => exact (by simpa only [Den] using dy : False).elim
      | tup y => simp [okR] at oy
      | ls y => simp [okR] at oy
    | str x =>
      simp only [Den] at dx
      cases y with
      | non =>
        simp only [Den] at dy
        obtain ⟨t1, rfl⟩ := dx
        subst dy
        simp only [eqR, Bool.not_false, Bool.not_true]
        exact EqAt.str_none _ _
      | bl y =>
        simp only [Den] at dy
        obtain ⟨t1, rfl⟩ := dx
        subst dy
        simp only [eqR, Bool.not_false, Bool.not_true]
        exact EqAt.str_bool _ _ _
      | int y =>
        simp only [Den] at dy
        obtain ⟨t1, rfl⟩ := dx
        obtain ⟨t2, rfl⟩ := dy
        simp only [eqR, Bool.not_false, Bool.not_true]
        exact EqAt.str_int _ _ _ _
      | str y =>
        simp only [Den] at dy
        obtain ⟨t1, rfl⟩ := dx
        obtain ⟨t2, rfl⟩ := dy
        simp only [eqR, Bool.not_false, Bool.not_true]
        exact EqAt.str_str _ _ _ _
      | ref y => exact (by simpa only [Den] using dy : False).elim
      | ty y => exact (by simpa only [Den] using dy : False).elim
      | tup y => simp [okR] at oy
      | ls y => simp [okR] at oy
    | ref x => exact (by simpa only [Den] using dx : False).elim
    | ty x => exact (by simpa only [Den] using dx : False).elim
    | tup x => simp [okR] at ox
    | ls x => simp [okR] at ox
  | succ n ih =>
    intro x y A s u w ox oy dx dy hu
    have hu0 : A.units < cLine := by omega
    have item : ∀ (xs ys : List RV) (us ws : List Value), xs.all (okR n) = true → ys.all (okR n) = true → Dens s.heap xs us → Dens s.heap ys ws →
        ∀ j (j1 : j < us.toArray.size) (j2 : j < ws.toArray.size), EqAt A.in1 s us.toArray[j] ws.toArray[j] (pairR xs ys j) := fun xs ys us ws o1 o2 d1 d2 j j1 j2 => by
      obtain ⟨a1, b1⟩ := d1.get (j := j) (u := us.toArray[j]) (by simp)
      obtain ⟨a2, b2⟩ := d2.get (j := j) (u := ws.toArray[j]) (by simp)
      exact ih _ _ A.in1 s _ _ (List.all_eq_true.mp o1 _ b1) (List.all_eq_true.mp o2 _ b2) a1 a2 (by rw [in1_units]; omega)
    have same_EqAt_tup : ∀ (xs ys : List RV) (a a' : Addr) (its its' : List Value), s.heap.IsTuple a its.toArray → s.heap.IsTuple a' its'.toArray → Dens s.heap xs its → Dens s.heap ys its' → okR (n + 1) (.tup xs) = true → okR (n + 1) (.tup ys) = true → EqAt A s (.ref a) (.ref a') (eqR (RV.tup xs) (RV.tup ys)) := by
      intro xs ys a a' its its' p p' d d' ox oy
      by_cases ha : a = a'
      · subst ha
        obtain rfl := seq_inj p p'
        have e : RV.tup xs = RV.tup ys := den_inj (n + 1) _ _ (.ref a) ox oy (by simp only [Den]; exact ⟨a, its, rfl, p, d⟩) (by simp only [Den]; exact ⟨a, its, rfl, p, d'⟩)
        rw [← e, eqR_refl _ ⟨_, ox⟩]
        exact EqAt.same _
      refine EqAt.of_refs ha ?_
      rw [eqR, ← eqRs_eq, d.length, d'.length]
      have := RcAt.tuples p p' hu0 (item xs ys its its' ox oy d d')
      simpa using this
    have same_EqAt_ls : ∀ (xs ys : List RV) (a a' : Addr) (its its' : List Value), s.heap.IsList a its.toArray → s.heap.IsList a' its'.toArray → Dens s.heap xs its → Dens s.heap ys its' → okR (n + 1) (.ls xs) = true → okR (n + 1) (.ls ys) = true → EqAt A s (.ref a) (.ref a') (eqR (RV.ls xs) (RV.ls ys)) := by
      intro xs ys a a' its its' p p' d d' ox oy
      by_cases ha : a = a'
      · subst ha
        obtain rfl := lst_inj p p'
        have e : RV.ls xs = RV.ls ys := den_inj (n + 1) _ _ (.ref a) ox oy (by simp only [Den]; exact ⟨a, its, rfl, p, d⟩) (by simp only [Den]; exact ⟨a, its, rfl, p, d'⟩)
        rw [← e, eqR_refl _ ⟨_, ox⟩]
        exact EqAt.same _
      refine EqAt.of_refs ha ?_
      rw [eqR]
      by_cases hz : xs.length = ys.length
      · rw [← eqRs_same hz, d.length]
        have := RcAt.lists p p' (by simp [← d.length, ← d'.length, hz]) hu0 (item xs ys its its' ox oy d d')
        simpa using this
      · rw [eqRs_other hz]
        exact RcAt.lists_lengths p p' (by simp [← d.length, ← d'.length, hz]) hu0
    cases x with
    | non =>
      simp only [Den] at dx
      cases y with
      | non =>
        simp only [Den] at dy
        subst dx
        subst dy
        simp only [eqR, Bool.not_false, Bool.not_true]
        exact EqAt.same _
      | bl y =>
        simp only [Den] at dy
        subst dx
        subst dy
        simp only [eqR, Bool.not_false, Bool.not_true]
        exact EqAt.none_bool _
      | int y =>
        simp only [Den] at dy
        subst dx
        obtain ⟨t2, rfl⟩ := dy
        simp only [eqR, Bool.not_false, Bool.not_true]
        exact EqAt.none_int _ _
      | str y =>
        simp only [Den] at dy
        subst dx
        obtain ⟨t2, rfl⟩ := dy
        simp only [eqR, Bool.not_false, Bool.not_true]
        exact EqAt.none_str _ _
      | tup y =>
        simp only [Den] at dy
        subst dx
        obtain ⟨a2, its2, rfl, p2, d2⟩ := dy
        simp only [eqR, Bool.not_false, Bool.not_true]
        exact EqAt.none_tuple p2 hu0
      | ls y =>
        simp only [Den] at dy
        subst dx
        obtain ⟨a2, its2, rfl, p2, d2⟩ := dy
        simp only [eqR, Bool.not_false, Bool.not_true]
        exact EqAt.none_list p2 hu0
      | ref y => exact (by simpa only [Den] using dy : False).elim
      | ty y => exact (by simpa only [Den] using dy : False).elim
    | bl x =>
      simp only [Den] at dx
      cases y with
      | non =>
        simp only [Den] at dy
        subst dx
        subst dy
        simp only [eqR, Bool.not_false, Bool.not_true]
        exact EqAt.bool_none _
      | bl y =>
        simp only [Den] at dy
        subst dx
        subst dy
        simp only [eqR, Bool.not_false, Bool.not_true]
        exact EqAt.bool_bool _ _
      | int y =>
        simp only [Den] at dy
        subst dx
        obtain ⟨t2, rfl⟩ := dy
        simp only [eqR, Bool.not_false, Bool.not_true]
        exact EqAt.bool_int _ _ _
      | str y =>
        simp only [Den] at dy
        subst dx
        obtain ⟨t2, rfl⟩ := dy
        simp only [eqR, Bool.not_false, Bool.not_true]
        exact EqAt.bool_str _ _ _
      | tup y =>
        simp only [Den] at dy
        subst dx
        obtain ⟨a2, its2, rfl, p2, d2⟩ := dy
        simp only [eqR, Bool.not_false, Bool.not_true]
        exact EqAt.bool_tuple _ p2 hu0
      | ls y =>
        simp only [Den] at dy
        subst dx
        obtain ⟨a2, its2, rfl, p2, d2⟩ := dy
        simp only [eqR, Bool.not_false, Bool.not_true]
        exact EqAt.bool_list _ p2 hu0
      | ref y => exact (by simpa only [Den] using dy : False).elim
      | ty y => exact (by simpa only [Den] using dy : False).elim
    | int x =>
      simp only [Den] at dx
      cases y with
      | non =>
        simp only [Den] at dy
        obtain ⟨t1, rfl⟩ := dx
        subst dy
        simp only [eqR, Bool.not_false, Bool.not_true]
        exact EqAt.int_none _ _
      | bl y =>
        simp only [Den] at dy
        obtain ⟨t1, rfl⟩ := dx
        subst dy
        simp only [eqR, Bool.not_false, Bool.not_true]
        exact EqAt.int_bool _ _ _
      | int y =>
        simp only [Den] at dy
        obtain ⟨t1, rfl⟩ := dx
        obtain ⟨t2, rfl⟩ := dy
        simp only [eqR, Bool.not_false, Bool.not_true]
        exact EqAt.int_int _ _ _ _
      | str y =>
        simp only [Den] at dy
        obtain ⟨t1, rfl⟩ := dx
        obtain ⟨t2, rfl⟩ := dy
        simp only [eqR, Bool.not_false, Bool.not_true]
        exact EqAt.int_str _ _ _ _
      | tup y =>
        simp only [Den] at dy
        obtain ⟨t1, rfl⟩ := dx
        obtain ⟨a2, its2, rfl, p2, d2⟩ := dy
        simp only [eqR, Bool.not_false, Bool.not_true]
        exact EqAt.int_tuple _ _ p2 hu0
      | ls y =>
        simp only [Den] at dy
        obtain ⟨t1, rfl⟩ := dx
        obtain ⟨a2, its2, rfl, p2, d2⟩ := dy
        simp only [eqR, Bool.not_false, Bool.not_true]
        exact EqAt.int_list _ _ p2 hu0
      | ref y => exact (by simpa only [Den] using dy : False).elim
      | ty y => exact (by simpa only [Den] using dy : False).elim
    | str x =>
      simp only [Den] at dx
      cases y with
      | non =>
        simp only [Den] at dy
        obtain ⟨t1, rfl⟩ := dx
        subst dy
        simp only [eqR, Bool.not_false, Bool.not_true]
        exact EqAt.str_none _ _
      | bl y =>
        simp only [Den] at dy
        obtain ⟨t1, rfl⟩ := dx
        subst dy
        simp only [eqR, Bool.not_false, Bool.not_true]
        exact EqAt.str_bool _ _ _
      | int y =>
        simp only [Den] at dy
        obtain ⟨t1, rfl⟩ := dx
        obtain ⟨t2, rfl⟩ := dy
        simp only [eqR, Bool.not_false, Bool.not_true]
        exact EqAt.str_int _ _ _ _
      | str y =>
        simp only [Den] at dy
        obtain ⟨t1, rfl⟩ := dx
        obtain ⟨t2, rfl⟩ := dy
        simp only [eqR, Bool.not_false, Bool.not_true]
        exact EqAt.str_str _ _ _ _
      | tup y =>
        simp only [Den] at dy
        obtain ⟨t1, rfl⟩ := dx
        obtain ⟨a2, its2, rfl, p2, d2⟩ := dy
        simp only [eqR, Bool.not_false, Bool.not_true]
        exact EqAt.str_tuple _ _ p2 hu0
      | ls y =>
        simp only [Den] at dy
        obtain ⟨t1, rfl⟩ := dx
        obtain ⟨a2, its2, rfl, p2, d2⟩ := dy
        simp only [eqR, Bool.not_false, Bool.not_true]
        exact EqAt.str_list _ _ p2 hu0
      | ref y => exact (by simpa only [Den] using dy : False).elim
      | ty y => exact (by simpa only [Den] using dy : False).elim
    | tup x =>
      simp only [Den] at dx
      cases y with
      | non =>
        simp only [Den] at dy
        obtain ⟨a1, its1, rfl, p1, d1⟩ := dx
        subst dy
        simp only [eqR, Bool.not_false, Bool.not_true]
        exact EqAt.tuple_none p1 hu0
      | bl y =>
        simp only [Den] at dy
        obtain ⟨a1, its1, rfl, p1, d1⟩ := dx
        subst dy
        simp only [eqR, Bool.not_false, Bool.not_true]
        exact EqAt.tuple_bool _ p1 hu0
      | int y =>
        simp only [Den] at dy
        obtain ⟨a1, its1, rfl, p1, d1⟩ := dx
        obtain ⟨t2, rfl⟩ := dy
        simp only [eqR, Bool.not_false, Bool.not_true]
        exact EqAt.tuple_int _ _ p1 hu0
      | str y =>
        simp only [Den] at dy
        obtain ⟨a1, its1, rfl, p1, d1⟩ := dx
        obtain ⟨t2, rfl⟩ := dy
        simp only [eqR, Bool.not_false, Bool.not_true]
        exact EqAt.tuple_str _ _ p1 hu0
      | tup y =>
        simp only [Den] at dy
        obtain ⟨a1, its1, rfl, p1, d1⟩ := dx
        obtain ⟨a2, its2, rfl, p2, d2⟩ := dy
        exact same_EqAt_tup x y _ _ _ _ p1 p2 d1 d2 ox oy
      | ls y =>
        simp only [Den] at dy
        obtain ⟨a1, its1, rfl, p1, d1⟩ := dx
        obtain ⟨a2, its2, rfl, p2, d2⟩ := dy
        simp only [eqR, Bool.not_false, Bool.not_true]
        exact EqAt.tuple_list p1 p2 hu0
      | ref y => exact (by simpa only [Den] using dy : False).elim
      | ty y => exact (by simpa only [Den] using dy : False).elim
    | ls x =>
      simp only [Den] at dx
      cases y with
      | non =>
        simp only [Den] at dy
        obtain ⟨a1, its1, rfl, p1, d1⟩ := dx
        subst dy
        simp only [eqR, Bool.not_false, Bool.not_true]
        exact EqAt.list_none p1 hu0
      | bl y =>
        simp only [Den] at dy
        obtain ⟨a1, its1, rfl, p1, d1⟩ := dx
        subst dy
        simp only [eqR, Bool.not_false, Bool.not_true]
        exact EqAt.list_bool _ p1 hu0
      | int y =>
        simp only [Den] at dy
        obtain ⟨a1, its1, rfl, p1, d1⟩ := dx
        obtain ⟨t2, rfl⟩ := dy
        simp only [eqR, Bool.not_false, Bool.not_true]
        exact EqAt.list_int _ _ p1 hu0
      | str y =>
        simp only [Den] at dy
        obtain ⟨a1, its1, rfl, p1, d1⟩ := dx
        obtain ⟨t2, rfl⟩ := dy
        simp only [eqR, Bool.not_false, Bool.not_true]
        exact EqAt.list_str _ _ p1 hu0
      | tup y =>
        simp only [Den] at dy
        obtain ⟨a1, its1, rfl, p1, d1⟩ := dx
        obtain ⟨a2, its2, rfl, p2, d2⟩ := dy
        simp only [eqR, Bool.not_false, Bool.not_true]
        exact EqAt.list_tuple p1 p2 hu0
      | ls y =>
        simp only [Den] at dy
        obtain ⟨a1, its1, rfl, p1, d1⟩ := dx
        obtain ⟨a2, its2, rfl, p2, d2⟩ := dy
        exact same_EqAt_ls x y _ _ _ _ p1 p2 d1 d2 ox oy
      | ref y => exact (by simpa only [Den] using dy : False).elim
      | ty y => exact (by simpa only [Den] using dy : False).elim
    | ref x => exact (by simpa only [Den] using dx : False).elim
    | ty x => exact (by simpa only [Den] using dx : False).elim
theorem rcNeAt_den (n : Nat) (x y : RV) (A : Around) (s : Shared) (u w : Value) (ox : okR (n + 1) x = true) (oy : okR (n + 1) y = true) (dx : Den s.heap x u) (dy : Den s.heap y w) (hu : A.units + (n + 1) < cLine) : RcNeAt A s u w (!eqR x y) := by
    have hu0 : A.units < cLine := by omega
    have item : ∀ (xs ys : List RV) (us ws : List Value), xs.all (okR n) = true → ys.all (okR n) = true → Dens s.heap xs us → Dens s.heap ys ws →
        ∀ j (j1 : j < us.toArray.size) (j2 : j < ws.toArray.size), EqAt A.in1 s us.toArray[j] ws.toArray[j] (pairR xs ys j) := fun xs ys us ws o1 o2 d1 d2 j j1 j2 => by
      obtain ⟨a1, b1⟩ := d1.get (j := j) (u := us.toArray[j]) (by simp)
      obtain ⟨a2, b2⟩ := d2.get (j := j) (u := ws.toArray[j]) (by simp)
      exact eqAt_den n _ _ A.in1 s _ _ (List.all_eq_true.mp o1 _ b1) (List.all_eq_true.mp o2 _ b2) a1 a2 (by rw [in1_units]; omega)
    have same_RcNeAt_tup : ∀ (xs ys : List RV) (a a' : Addr) (its its' : List Value), s.heap.IsTuple a its.toArray → s.heap.IsTuple a' its'.toArray → Dens s.heap xs its → Dens s.heap ys its' → okR (n + 1) (.tup xs) = true → okR (n + 1) (.tup ys) = true → RcNeAt A s (.ref a) (.ref a') (!eqR (RV.tup xs) (RV.tup ys)) := by
      intro xs ys a a' its its' p p' d d' ox oy
      rw [eqR, ← eqRs_eq, d.length, d'.length]
      have := RcNeAt.tuples p p' hu0 (item xs ys its its' ox oy d d')
      simpa using this
    have same_RcNeAt_ls : ∀ (xs ys : List RV) (a a' : Addr) (its its' : List Value), s.heap.IsList a its.toArray → s.heap.IsList a' its'.toArray → Dens s.heap xs its → Dens s.heap ys its' → okR (n + 1) (.ls xs) = true → okR (n + 1) (.ls ys) = true → RcNeAt A s (.ref a) (.ref a') (!eqR (RV.ls xs) (RV.ls ys)) := by
      intro xs ys a a' its its' p p' d d' ox oy
      rw [eqR]
      by_cases hz : xs.length = ys.length
      · rw [← eqRs_same hz, d.length]
        have := RcNeAt.lists p p' (by simp [← d.length, ← d'.length, hz]) hu0 (item xs ys its its' ox oy d d')
        simpa using this
      · rw [eqRs_other hz]
        exact RcNeAt.lists_lengths p p' (by simp [← d.length, ← d'.length, hz]) hu0
    cases x with
    | non =>
      simp only [Den] at dx
      cases y with
      | non =>
        simp only [Den] at dy
        subst dx
        subst dy
        simp only [eqR, Bool.not_false, Bool.not_true]
        exact RcNeAt.none_none
      | bl y =>
        simp only [Den] at dy
        subst dx
        subst dy
        simp only [eqR, Bool.not_false, Bool.not_true]
        exact RcNeAt.none_bool _
      | int y =>
        simp only [Den] at dy
        subst dx
        obtain ⟨t2, rfl⟩ := dy
        simp only [eqR, Bool.not_false, Bool.not_true]
        exact RcNeAt.none_int _ _
      | str y =>
        simp only [Den] at dy
        subst dx
        obtain ⟨t2, rfl⟩ := dy
        simp only [eqR, Bool.not_false, Bool.not_true]
        exact RcNeAt.none_str _ _
      | tup y =>
        simp only [Den] at dy
        subst dx
        obtain ⟨a2, its2, rfl, p2, d2⟩ := dy
        simp only [eqR, Bool.not_false, Bool.not_true]
        exact RcNeAt.none_tuple p2 hu0
      | ls y =>
        simp only [Den] at dy
        subst dx
        obtain ⟨a2, its2, rfl, p2, d2⟩ := dy
        simp only [eqR, Bool.not_false, Bool.not_true]
        exact RcNeAt.none_list p2 hu0
      | ref y => exact (by simpa only [Den] using dy : False).elim
      | ty y => exact (by simpa only [Den] using dy : False).elim
    | bl x =>
      simp only [Den] at dx
      cases y with
      | non =>
        simp only [Den] at dy
        subst dx
        subst dy
        simp only [eqR, Bool.not_false, Bool.not_true]
        exact RcNeAt.bool_none _
      | bl y =>
        simp only [Den] at dy
        subst dx
        subst dy
        simp only [eqR, Bool.not_false, Bool.not_true]
        exact RcNeAt.bool_bool _ _
      | int y =>
        simp only [Den] at dy
        subst dx
        obtain ⟨t2, rfl⟩ := dy
        simp only [eqR, Bool.not_false, Bool.not_true]
        exact RcNeAt.bool_int _ _ _
      | str y =>
        simp only [Den] at dy
        subst dx
        obtain ⟨t2, rfl⟩ := dy
        simp only [eqR, Bool.not_false, Bool.not_true]
        exact RcNeAt.bool_str _ _ _
      | tup y =>
        simp only [Den] at dy
        subst dx
        obtain ⟨a2, its2, rfl, p2, d2⟩ := dy
        simp only [eqR, Bool.not_false, Bool.not_true]
        exact RcNeAt.bool_tuple _ p2 hu0
      | ls y =>
        simp only [Den] at dy
        subst dx
        obtain ⟨a2, its2, rfl, p2, d2⟩ := dy
        simp only [eqR, Bool.not_false, Bool.not_true]
        exact RcNeAt.bool_list _ p2 hu0
      | ref y => exact (by simpa only [Den] using dy : False).elim
      | ty y => exact (by simpa only [Den] using dy : False).elim
    | int x =>
      simp only [Den] at dx
      cases y with
      | non =>
        simp only [Den] at dy
        obtain ⟨t1, rfl⟩ := dx
        subst dy
        simp only [eqR, Bool.not_false, Bool.not_true]
        exact RcNeAt.int_none _ _
      | bl y =>
        simp only [Den] at dy
        obtain ⟨t1, rfl⟩ := dx
        subst dy
        simp only [eqR, Bool.not_false, Bool.not_true]
        exact RcNeAt.int_bool _ _ _
      | int y =>
        simp only [Den] at dy
        obtain ⟨t1, rfl⟩ := dx
        obtain ⟨t2, rfl⟩ := dy
        simp only [eqR, Bool.not_false, Bool.not_true]
        exact RcNeAt.int_int _ _ _ _
      | str y =>
        simp only [Den] at dy
        obtain ⟨t1, rfl⟩ := dx
        obtain ⟨t2, rfl⟩ := dy
        simp only [eqR, Bool.not_false, Bool.not_true]
        exact RcNeAt.int_str _ _ _ _
      | tup y =>
        simp only [Den] at dy
        obtain ⟨t1, rfl⟩ := dx
        obtain ⟨a2, its2, rfl, p2, d2⟩ := dy
        simp only [eqR, Bool.not_false, Bool.not_true]
        exact RcNeAt.int_tuple _ _ p2 hu0
      | ls y =>
        simp only [Den] at dy
        obtain ⟨t1, rfl⟩ := dx
        obtain ⟨a2, its2, rfl, p2, d2⟩ := dy
        simp only [eqR, Bool.not_false, Bool.not_true]
        exact RcNeAt.int_list _ _ p2 hu0
      | ref y => exact (by simpa only [Den] using dy : False).elim
      | ty y => exact (by simpa only [Den] using dy : False).elim
    | str x =>
      simp only [Den] at dx
      cases y with
      | non =>
        simp only [Den] at dy
        obtain ⟨t1, rfl⟩ := dx
        subst dy
        simp only [eqR, Bool.not_false, Bool.not_true]
        exact RcNeAt.str_none _ _
      | bl y =>
        simp only [Den] at dy
        obtain ⟨t1, rfl⟩ := dx
        subst dy
        simp only [eqR, Bool.not_false, Bool.not_true]
        exact RcNeAt.str_bool _ _ _
      | int y =>
        simp only [Den] at dy
        obtain ⟨t1, rfl⟩ := dx
        obtain ⟨t2, rfl⟩ := dy
        simp only [eqR, Bool.not_false, Bool.not_true]
        exact RcNeAt.str_int _ _ _ _
      | str y =>
        simp only [Den] at dy
        obtain ⟨t1, rfl⟩ := dx
        obtain ⟨t2, rfl⟩ := dy
        simp only [eqR, Bool.not_false, Bool.not_true]
        exact RcNeAt.str_str _ _ _ _
      | tup y =>
        simp only [Den] at dy
        obtain ⟨t1, rfl⟩ := dx
        obtain ⟨a2, its2, rfl, p2, d2⟩ := dy
        simp only [eqR, Bool.not_false, Bool.not_true]
        exact RcNeAt.str_tuple _ _ p2 hu0
      | ls y =>
        simp only [Den] at dy
        obtain ⟨t1, rfl⟩ := dx
        obtain ⟨a2, its2, rfl, p2, d2⟩ := dy
        simp only [eqR, Bool.not_false, Bool.not_true]
        exact RcNeAt.str_list _ _ p2 hu0
      | ref y => exact (by simpa only [Den] using dy : False).elim
      | ty y => exact (by simpa only [Den] using dy : False).elim
    | tup x =>
      simp only [Den] at dx
      cases y with
      | non =>
        simp only [Den] at dy
        obtain ⟨a1, its1, rfl, p1, d1⟩ := dx
        subst dy
        simp only [eqR, Bool.not_false, Bool.not_true]
        exact RcNeAt.tuple_none p1 hu0
      | bl y =>
        simp only [Den] at dy
        obtain ⟨a1, its1, rfl, p1, d1⟩ := dx
        subst dy
        simp only [eqR, Bool.not_false, Bool.not_true]
        exact RcNeAt.tuple_bool _ p1 hu0
      | int y =>
        simp only [Den] at dy
        obtain ⟨a1, its1, rfl, p1, d1⟩ := dx
        obtain ⟨t2, rfl⟩ := dy
        simp only [eqR, Bool.not_false, Bool.not_true]
        exact RcNeAt.tuple_int _ _ p1 hu0
      | str y =>
        simp only [Den] at dy
        obtain ⟨a1, its1, rfl, p1, d1⟩ := dx
        obtain ⟨t2, rfl⟩ := dy
        simp only [eqR, Bool.not_false, Bool.not_true]
        exact RcNeAt.tuple_str _ _ p1 hu0
      | tup y =>
        simp only [Den] at dy
        obtain ⟨a1, its1, rfl, p1, d1⟩ := dx
        obtain ⟨a2, its2, rfl, p2, d2⟩ := dy
        exact same_RcNeAt_tup x y _ _ _ _ p1 p2 d1 d2 ox oy
      | ls y =>
        simp only [Den] at dy
        obtain ⟨a1, its1, rfl, p1, d1⟩ := dx
        obtain ⟨a2, its2, rfl, p2, d2⟩ := dy
        simp only [eqR, Bool.not_false, Bool.not_true]
        exact RcNeAt.tuple_list p1 p2 hu0
      | ref y => exact (by simpa only [Den] using dy : False).elim
      | ty y => exact (by simpa only [Den] using dy : False).elim
    | ls x =>
      simp only [Den] at dx
      cases y with
      | non =>
        simp only [Den] at dy
        obtain ⟨a1, its1, rfl, p1, d1⟩ := dx
        subst dy
        simp only [eqR, Bool.not_false, Bool.not_true]
        exact RcNeAt.list_none p1 hu0
      | bl y =>
        simp only [Den] at dy
        obtain ⟨a1, its1, rfl, p1, d1⟩ := dx
        subst dy
        simp only [eqR, Bool.not_false, Bool.not_true]
        exact RcNeAt.list_bool _ p1 hu0
      | int y =>
        simp only [Den] at dy
        obtain ⟨a1, its1, rfl, p1, d1⟩ := dx
        obtain ⟨t2, rfl⟩ := dy
        simp only [eqR, Bool.not_false, Bool.not_true]
        exact RcNeAt.list_int _ _ p1 hu0
      | str y =>
        simp only [Den] at dy
        obtain ⟨a1, its1, rfl, p1, d1⟩ := dx
        obtain ⟨t2, rfl⟩ := dy
        simp only [eqR, Bool.not_false, Bool.not_true]
        exact RcNeAt.list_str _ _ p1 hu0
      | tup y =>
        simp only [Den] at dy
        obtain ⟨a1, its1, rfl, p1, d1⟩ := dx
        obtain ⟨a2, its2, rfl, p2, d2⟩ := dy
        simp only [eqR, Bool.not_false, Bool.not_true]
        exact RcNeAt.list_tuple p1 p2 hu0
      | ls y =>
        simp only [Den] at dy
        obtain ⟨a1, its1, rfl, p1, d1⟩ := dx
        obtain ⟨a2, its2, rfl, p2, d2⟩ := dy
        exact same_RcNeAt_ls x y _ _ _ _ p1 p2 d1 d2 ox oy
      | ref y => exact (by simpa only [Den] using dy : False).elim
      | ty y => exact (by simpa only [Den] using dy : False).elim
    | ref x => exact (by simpa only [Den] using dx : False).elim
    | ty x => exact (by simpa only [Den] using dx : False).elim
theorem rcAt_den (n : Nat) (x y : RV) (A : Around) (s : Shared) (u w : Value) (ox : okR (n + 1) x = true) (oy : okR (n + 1) y = true) (dx : Den s.heap x u) (dy : Den s.heap y w) (hu : A.units + (n + 1) < cLine) : RcAt A s u w (eqR x y) := by
    have hu0 : A.units < cLine := by omega
    have item : ∀ (xs ys : List RV) (us ws : List Value), xs.all (okR n) = true → ys.all (okR n) = true → Dens s.heap xs us → Dens s.heap ys ws →
        ∀ j (j1 : j < us.toArray.size) (j2 : j < ws.toArray.size), EqAt A.in1 s us.toArray[j] ws.toArray[j] (pairR xs ys j) := fun xs ys us ws o1 o2 d1 d2 j j1 j2 => by
      obtain ⟨a1, b1⟩ := d1.get (j := j) (u := us.toArray[j]) (by simp)
      obtain ⟨a2, b2⟩ := d2.get (j := j) (u := ws.toArray[j]) (by simp)
      exact eqAt_den n _ _ A.in1 s _ _ (List.all_eq_true.mp o1 _ b1) (List.all_eq_true.mp o2 _ b2) a1 a2 (by rw [in1_units]; omega)
    have same_RcAt_tup : ∀ (xs ys : List RV) (a a' : Addr) (its its' : List Value), s.heap.IsTuple a its.toArray → s.heap.IsTuple a' its'.toArray → Dens s.heap xs its → Dens s.heap ys its' → okR (n + 1) (.tup xs) = true → okR (n + 1) (.tup ys) = true → RcAt A s (.ref a) (.ref a') (eqR (RV.tup xs) (RV.tup ys)) := by
      intro xs ys a a' its its' p p' d d' ox oy
      rw [eqR, ← eqRs_eq, d.length, d'.length]
      have := RcAt.tuples p p' hu0 (item xs ys its its' ox oy d d')
      simpa using this
    have same_RcAt_ls : ∀ (xs ys : List RV) (a a' : Addr) (its its' : List Value), s.heap.IsList a its.toArray → s.heap.IsList a' its'.toArray → Dens s.heap xs its → Dens s.heap ys its' → okR (n + 1) (.ls xs) = true → okR (n + 1) (.ls ys) = true → RcAt A s (.ref a) (.ref a') (eqR (RV.ls xs) (RV.ls ys)) := by
      intro xs ys a a' its its' p p' d d' ox oy
      rw [eqR]
      by_cases hz : xs.length = ys.length
      · rw [← eqRs_same hz, d.length]
        have := RcAt.lists p p' (by simp [← d.length, ← d'.length, hz]) hu0 (item xs ys its its' ox oy d d')
        simpa using this
      · rw [eqRs_other hz]
        exact RcAt.lists_lengths p p' (by simp [← d.length, ← d'.length, hz]) hu0
    cases x with
    | non =>
      simp only [Den] at dx
      cases y with
      | non =>
        simp only [Den] at dy
        subst dx
        subst dy
        simp only [eqR, Bool.not_false, Bool.not_true]
        exact RcAt.none_none
      | bl y =>
        simp only [Den] at dy
        subst dx
        subst dy
        simp only [eqR, Bool.not_false, Bool.not_true]
        exact RcAt.none_bool _
      | int y =>
        simp only [Den] at dy
        subst dx
        obtain ⟨t2, rfl⟩ := dy
        simp only [eqR, Bool.not_false, Bool.not_true]
        exact RcAt.none_int _ _
      | str y =>
        simp only [Den] at dy
        subst dx
        obtain ⟨t2, rfl⟩ := dy
        simp only [eqR, Bool.not_false, Bool.not_true]
        exact RcAt.none_str _ _
      | tup y =>
        simp only [Den] at dy
        subst dx
        obtain ⟨a2, its2, rfl, p2, d2⟩ := dy
        simp only [eqR, Bool.not_false, Bool.not_true]
        exact RcAt.none_tuple p2 hu0
      | ls y =>
        simp only [Den] at dy
        subst dx
        obtain ⟨a2, its2, rfl, p2, d2⟩ := dy
        simp only [eqR, Bool.not_false, Bool.not_true]
        exact RcAt.none_list p2 hu0
      | ref y => exact (by simpa only [Den] using dy : False).elim
      | ty y => exact (by simpa only [Den] using dy : False).elim
    | bl x =>
      simp only [Den] at dx
      cases y with
      | non =>
        simp only [Den] at dy
        subst dx
        subst dy
        simp only [eqR, Bool.not_false, Bool.not_true]
        exact RcAt.bool_none _
      | bl y =>
        simp only [Den] at dy
        subst dx
        subst dy
        simp only [eqR, Bool.not_false, Bool.not_true]
        exact RcAt.bool_bool _ _
      | int y =>
        simp only [Den] at dy
        subst dx
        obtain ⟨t2, rfl⟩ := dy
        simp only [eqR, Bool.not_false, Bool.not_true]
        exact RcAt.bool_int _ _ _
      | str y =>
        simp only [Den] at dy
        subst dx
        obtain ⟨t2, rfl⟩ := dy
        simp only [eqR, Bool.not_false, Bool.not_true]
        exact RcAt.bool_str _ _ _
      | tup y =>
        simp only [Den] at dy
        subst dx
        obtain ⟨a2, its2, rfl, p2, d2⟩ := dy
        simp only [eqR, Bool.not_false, Bool.not_true]
        exact RcAt.bool_tuple _ p2 hu0
      | ls y =>
        simp only [Den] at dy
        subst dx
        obtain ⟨a2, its2, rfl, p2, d2⟩ := dy
        simp only [eqR, Bool.not_false, Bool.not_true]
        exact RcAt.bool_list _ p2 hu0
      | ref y => exact (by simpa only [Den] using dy : False).elim
      | ty y => exact (by simpa only [Den] using dy : False).elim
    | int x =>
      simp only [Den] at dx
      cases y with
      | non =>
        simp only [Den] at dy
        obtain ⟨t1, rfl⟩ := dx
        subst dy
        simp only [eqR, Bool.not_false, Bool.not_true]
        exact RcAt.int_none _ _
      | bl y =>
        simp only [Den] at dy
        obtain ⟨t1, rfl⟩ := dx
        subst dy
        simp only [eqR, Bool.not_false, Bool.not_true]
        exact RcAt.int_bool _ _ _
      | int y =>
        simp only [Den] at dy
        obtain ⟨t1, rfl⟩ := dx
        obtain ⟨t2, rfl⟩ := dy
        simp only [eqR, Bool.not_false, Bool.not_true]
        exact RcAt.int_int _ _ _ _
      | str y =>
        simp only [Den] at dy
        obtain ⟨t1, rfl⟩ := dx
        obtain ⟨t2, rfl⟩ := dy
        simp only [eqR, Bool.not_false, Bool.not_true]
        exact RcAt.int_str _ _ _ _
      | tup y =>
        simp only [Den] at dy
        obtain ⟨t1, rfl⟩ := dx
        obtain ⟨a2, its2, rfl, p2, d2⟩ := dy
        simp only [eqR, Bool.not_false, Bool.not_true]
        exact RcAt.int_tuple _ _ p2 hu0
      | ls y =>
        simp only [Den] at dy
        obtain ⟨t1, rfl⟩ := dx
        obtain ⟨a2, its2, rfl, p2, d2⟩ := dy
        simp only [eqR, Bool.not_false, Bool.not_true]
        exact RcAt.int_list _ _ p2 hu0
      | ref y => exact (by simpa only [Den] using dy : False).elim
      | ty y => exact (by simpa only [Den] using dy : False).elim
    | str x =>
      simp only [Den] at dx
      cases y with
      | non =>
        simp only [Den] at dy
        obtain ⟨t1, rfl⟩ := dx
        subst dy
        simp only [eqR, Bool.not_false, Bool.not_true]
        exact RcAt.str_none _ _
      | bl y =>
        simp only [Den] at dy
        obtain ⟨t1, rfl⟩ := dx
        subst dy
        simp only [eqR, Bool.not_false, Bool.not_true]
        exact RcAt.str_bool _ _ _
      | int y =>
        simp only [Den] at dy
        obtain ⟨t1, rfl⟩ := dx
        obtain ⟨t2, rfl⟩ := dy
        simp only [eqR, Bool.not_false, Bool.not_true]
        exact RcAt.str_int _ _ _ _
      | str y =>
        simp only [Den] at dy
        obtain ⟨t1, rfl⟩ := dx
        obtain ⟨t2, rfl⟩ := dy
        simp only [eqR, Bool.not_false, Bool.not_true]
        exact RcAt.str_str _ _ _ _
      | tup y =>
        simp only [Den] at dy
        obtain ⟨t1, rfl⟩ := dx
        obtain ⟨a2, its2, rfl, p2, d2⟩ := dy
        simp only [eqR, Bool.not_false, Bool.not_true]
        exact RcAt.str_tuple _ _ p2 hu0
      | ls y =>
        simp only [Den] at dy
        obtain ⟨t1, rfl⟩ := dx
        obtain ⟨a2, its2, rfl, p2, d2⟩ := dy
        simp only [eqR, Bool.not_false, Bool.not_true]
        exact RcAt.str_list _ _ p2 hu0
      | ref y => exact (by simpa only [Den] using dy : False).elim
      | ty y => exact (by simpa only [Den] using dy : False).elim
    | tup x =>
      simp only [Den] at dx
      cases y with
      | non =>
        simp only [Den] at dy
        obtain ⟨a1, its1, rfl, p1, d1⟩ := dx
        subst dy
        simp only [eqR, Bool.not_false, Bool.not_true]
        exact RcAt.tuple_none p1 hu0
      | bl y =>
        simp only [Den] at dy
        obtain ⟨a1, its1, rfl, p1, d1⟩ := dx
        subst dy
        simp only [eqR, Bool.not_false, Bool.not_true]
        exact RcAt.tuple_bool _ p1 hu0
      | int y =>
        simp only [Den] at dy
        obtain ⟨a1, its1, rfl, p1, d1⟩ := dx
        obtain ⟨t2, rfl⟩ := dy
        simp only [eqR, Bool.not_false, Bool.not_true]
        exact RcAt.tuple_int _ _ p1 hu0
      | str y =>
        simp only [Den] at dy
        obtain ⟨a1, its1, rfl, p1, d1⟩ := dx
        obtain ⟨t2, rfl⟩ := dy
        simp only [eqR, Bool.not_false, Bool.not_true]
        exact RcAt.tuple_str _ _ p1 hu0
      | tup y =>
        simp only [Den] at dy
        obtain ⟨a1, its1, rfl, p1, d1⟩ := dx
        obtain ⟨a2, its2, rfl, p2, d2⟩ := dy
        exact same_RcAt_tup x y _ _ _ _ p1 p2 d1 d2 ox oy
      | ls y =>
        simp only [Den] at dy
        obtain ⟨a1, its1, rfl, p1, d1⟩ := dx
        obtain ⟨a2, its2, rfl, p2, d2⟩ := dy
        simp only [eqR, Bool.not_false, Bool.not_true]
        exact RcAt.tuple_list p1 p2 hu0
      | ref y => exact (by simpa only [Den] using dy : False).elim
      | ty y => exact (by simpa only [Den] using dy : False).elim
    | ls x =>
      simp only [Den] at dx
      cases y with
      | non =>
        simp only [Den] at dy
        obtain ⟨a1, its1, rfl, p1, d1⟩ := dx
        subst dy
        simp only [eqR, Bool.not_false, Bool.not_true]
        exact RcAt.list_none p1 hu0
      | bl y =>
        simp only [Den] at dy
        obtain ⟨a1, its1, rfl, p1, d1⟩ := dx
        subst dy
        simp only [eqR, Bool.not_false, Bool.not_true]
        exact RcAt.list_bool _ p1 hu0
      | int y =>
        simp only [Den] at dy
        obtain ⟨a1, its1, rfl, p1, d1⟩ := dx
        obtain ⟨t2, rfl⟩ := dy
        simp only [eqR, Bool.not_false, Bool.not_true]
        exact RcAt.list_int _ _ p1 hu0
      | str y =>
        simp only [Den] at dy
        obtain ⟨a1, its1, rfl, p1, d1⟩ := dx
        obtain ⟨t2, rfl⟩ := dy
        simp only [eqR, Bool.not_false, Bool.not_true]
        exact RcAt.list_str _ _ p1 hu0
      | tup y =>
        simp only [Den] at dy
        obtain ⟨a1, its1, rfl, p1, d1⟩ := dx
        obtain ⟨a2, its2, rfl, p2, d2⟩ := dy
        simp only [eqR, Bool.not_false, Bool.not_true]
        exact RcAt.list_tuple p1 p2 hu0
      | ls y =>
        simp only [Den] at dy
        obtain ⟨a1, its1, rfl, p1, d1⟩ := dx
        obtain ⟨a2, its2, rfl, p2, d2⟩ := dy
        exact same_RcAt_ls x y _ _ _ _ p1 p2 d1 d2 ox oy
      | ref y => exact (by simpa only [Den] using dy : False).elim
      | ty y => exact (by simpa only [Den] using dy : False).elim
    | ref x => exact (by simpa only [Den] using dx : False).elim
    | ty x => exact (by simpa only [Den] using dx : False).elim
end R
set_option Elab.async false
set_option linter.all false
set_option maxRecDepth 100000
set_option maxHeartbeats 1000000
namespace R
open PySem PySem.Spec PyProof.Rows L2
section
variable {X : Cx}
theorem ropI {f : Value → Value → Sem Value} {r : R2} {rr : RR2} (h : OpR X f r) (ri : ∀ (i j : Int) M Q (H : Hp) (Q0 : VK), rr (.int i) (.int j) M Q → (∀ z : RV, Q z M → ∀ v, Rep X.K H z v → Q0 v H) → r (.int i) (.int j) H Q0)
    (no : ∀ x y M Q, rr x y M Q → ∃ i j, x = .int i ∧ y = .int j) : ROp X f rr := by
  intro pins s σ H x y v u Q0 I rx ry h'
  obtain ⟨a, b, M, Q, ra, rb, hv, hq, hk⟩ := h'
  obtain ⟨i, j, rfl, rfl⟩ := no a b M Q hq
  simp only [Rep] at ra rb
  subst ra; subst rb
  exact h pins s σ H _ _ v u Q0 I rx ry (ri i j M Q H Q0 hq fun z q v' rz => hk z M v' H q (.refl H) hv rz)
def rInt2 (C : Int → Int → Prop) (g : Int → Int → RV) : RR2 := fun x y M Q => match x, y with | .int i, .int j => C i j ∧ Q (g i j) M | _, _ => False
def rInt0 (g : Int → Int → RV) : RR2 := fun x y M Q => match x, y with | .int i, .int j => Q (g i j) M | _, _ => False
theorem rInt2_no {C : Int → Int → Prop} {g : Int → Int → RV} (x y : RV) (M : RM) (Q : RVK) (h : rInt2 C g x y M Q) : ∃ i j, x = .int i ∧ y = .int j := by
  unfold rInt2 at h
  split at h
  · exact ⟨_, _, rfl, rfl⟩
  · exact h.elim
theorem rInt0_no {g : Int → Int → RV} (x y : RV) (M : RM) (Q : RVK) (h : rInt0 g x y M Q) : ∃ i j, x = .int i ∧ y = .int j := by
  unfold rInt0 at h
  split at h
  · exact ⟨_, _, rfl, rfl⟩
  · exact h.elim
abbrev rSub : RR2 := rInt0 fun i j => .int (i - j)
theorem osub : ROp X (binaryOp .Sub) rSub := ropI op_sub (fun i j M Q H Q0 h k => ⟨i, j, rfl, rfl, k _ h _ (by simp only [Rep])⟩) rInt0_no
abbrev rMod : RR2 := rInt2 (fun _ j => 0 < j) fun i j => .int (i % j)
theorem omod : ROp X (binaryOp .Mod) rMod := ropI op_mod (fun i j M Q H Q0 h k => ⟨i, j, rfl, rfl, h.1, k _ h.2 _ (by simp only [Rep])⟩) rInt2_no
abbrev rDiv : RR2 := rInt2 (fun _ j => 0 < j ∧ j < 1073741824) fun i j => .int (i / j)
theorem odiv : ROp X (binaryOp .FloorDiv) rDiv := ropI op_fdiv (fun i j M Q H Q0 h k => ⟨i, j, rfl, rfl, h.1, k _ h.2 _ (by simp only [Rep])⟩) rInt2_no
abbrev rPow : RR2 := rInt2 (fun i j => 0 ≤ j ∧ j ≤ 1000000 ∧ i.natAbs < 2 ^ 64) fun i j => .int (i ^ j.toNat)
theorem opow : ROp X (binaryOp .Pow) rPow := ropI op_pow (fun i j M Q H Q0 h k => ⟨i, j, rfl, rfl, h.1, k _ h.2 _ (by simp only [Rep])⟩) rInt2_no
abbrev rShr : RR2 := rInt2 (fun _ j => 0 ≤ j) fun i j => .int (i / 2 ^ j.toNat)
abbrev rBand : RR2 := rInt0 fun i j => .int (Builtin.bitAnd i j)
abbrev rLt : RR2 := rInt0 fun i j => .bl (decide (i < j))
theorem olt : ROp X (compareOp .Lt) rLt := ropI op_lt (fun i j M Q H Q0 h k => ⟨i, j, rfl, rfl, k _ h _ (by simp only [Rep])⟩) rInt0_no
abbrev rLe : RR2 := rInt0 fun i j => .bl (decide (i ≤ j))
abbrev rGt : RR2 := rInt0 fun i j => .bl (decide (j < i))
theorem ogt : ROp X (compareOp .Gt) rGt := ropI op_gt (fun i j M Q H Q0 h k => ⟨i, j, rfl, rfl, k _ h _ (by simp only [Rep])⟩) rInt0_no
abbrev rGe : RR2 := rInt0 fun i j => .bl (decide (j ≤ i))
theorem oge : ROp X (compareOp .GtE) rGe := ropI op_ge (fun i j M Q H Q0 h k => ⟨i, j, rfl, rfl, k _ h _ (by simp only [Rep])⟩) rInt0_no
def rgNeg : RV → RM → RVK → Prop := fun x M Q => match x with | .int i => Q (.int (-i)) M | _ => False
def rMul : RR2 := fun x y M Q => match x, y with
  | .int i, .int j => CMul i j ∧ Q (.int (i * j)) M
  | .ref a, .int k => ∃ xs, M a = some (.lst xs) ∧ -(2 ^ 63) ≤ k ∧ k < 2 ^ 63 ∧ xs.length * k.toNat ≤ sizeLine ∧ Q (.ls (List.replicate k.toNat xs).flatten) M
  | _, _ => False
theorem reps_flat {K : PySem.W.Frag} {H : Hp} {xs : List RV} {vs : List V} (r : Reps K H xs vs) : ∀ n : Nat, Reps K H (List.replicate n xs).flatten (List.replicate n vs).flatten
  | 0 => by simpa using Reps.nil
  | n + 1 => by
    rw [List.replicate_succ, List.flatten_cons, List.replicate_succ, List.flatten_cons]
    exact r.append (reps_flat r n)
theorem omul : ROp X (binaryOp .Mult) rMul := by
  intro pins s σ H x y v u Q0 I rx ry h
  obtain ⟨a, b, M, Q, ra, rb, hv, hq, hk⟩ := h
  cases a with
  | int i =>
    cases b with
    | int j => simp only [Rep] at ra rb; exact op_mul pins s σ H x y v u Q0 I rx ry ⟨i, j, ra, rb, hq.1, hk _ M _ H hq.2 (.refl H) hv (by simp only [Rep])⟩
    | _ => exact (show False from hq).elim
  | ref p =>
    cases b with
    | int k =>
      simp only [Rep] at ra rb
      obtain ⟨xs, hm, h1, h2, h3, h4⟩ := hq
      obtain ⟨ho, e, r⟩ := hv p _ hm
      obtain ⟨vs, rfl, rr⟩ := r
      refine thn (op_rep pins s σ H x y v u (fun v H' => ∃ H1 p xs, v = .ref p ∧ H1 p = none ∧ H' = upd H1 p (.lst xs) ∧ ∀ o, Q0 (.ref p) (upd H1 p (.frz o (.lst xs)))) I rx ry ⟨p, k, vs, ra, rb, e, h1, h2, by rw [← rr.length]; exact h3, fun q hq => ⟨H, q, _, rfl, hq, rfl, fun o => ?_⟩⟩) fun _ _ e => frozen e
      exact hk _ M _ _ h4 (Ext.new hq) (hv.new hq) (rep_ls hq (reps_flat rr _))
    | _ => exact (show False from hq).elim
  | _ => cases b <;> exact (show False from hq).elim
def rAdd : RR2 := fun x y M Q => match x, y with
  | .int i, .int j => Q (.int (i + j)) M
  | .str i, .str j => i.length + j.length ≤ sizeLine ∧ Q (.str (i ++ j)) M
  | .tup xs, .tup ys => xs.length + ys.length ≤ sizeLine ∧ Q (.tup (xs ++ ys)) M
  | .ls xs, .ls ys => xs.length + ys.length ≤ sizeLine ∧ Q (.ls (xs ++ ys)) M
  | _, _ => False
theorem cat_tup0 {prog : Program} {w : World} {A : Around} {E : Value → Shared → Prop} {s : Shared} {t b : Addr} {ws : List Value} {Q : Value → Shared → Prop} (ht : IsTup s.heap t ([] : List Value).toArray) (hb : IsTup s.heap b ws.toArray) (h : Q (.ref b) s) :
    wpAny (model prog w) A (binaryOp .Add (.ref t) (.ref b)) Q E s := by
  obtain ⟨⟨cls, dd, data, sl⟩, ho, hc, n, hd⟩ := id ht
  obtain ⟨⟨cls2, dd2, data2, sl2⟩, ho2, hc2, n2, hd2⟩ := id hb
  simp only at hc hd hc2 hd2
  subst hc hd hc2 hd2
  exact concat_meets ⟨_, ho, rfl⟩ ⟨_, ho2, rfl⟩ noFill_tuple_add seq_tuple_add PySem.F.slot_tuple_add PySem.F.entry_tuple_add (PySem.F.args_tuple_add_2 _ _)
      (tuple_addW0 t b [].toArray ws.toArray n n2 dd dd2 sl sl2 (by simp)) ⟨ho, ho2, h⟩
theorem cat_lst {prog : Program} {w : World} {A : Around} {E : Value → Shared → Prop} {s : Shared} {l b : Addr} {vs ws : List Value} {Q : Value → Shared → Prop} (hl : s.heap.IsList l vs.toArray) (hb : s.heap.IsList b ws.toArray)
    (h : Q (.ref s.heap.objs.size) { s with heap := s.heap.push { cls := .type "list", data := .seq (vs ++ ws).toArray } }) (hsz : vs.length + ws.length ≤ sizeLine) :
    wpAny (model prog w) A (binaryOp .Add (.ref l) (.ref b)) Q E s := by
  obtain ⟨⟨cls, dd, data, sl⟩, ho, hc, n, hd⟩ := id hl
  obtain ⟨⟨cls2, dd2, data2, sl2⟩, ho2, hc2, n2, hd2⟩ := id hb
  simp only at hc hd hc2 hd2
  subst hc hd hc2 hd2
  have e : vs.toArray ++ ws.toArray = (vs ++ ws).toArray := by simp
  refine concat_meets ⟨_, ho, rfl⟩ ⟨_, ho2, rfl⟩ noFill_list_add seq_list_add PySem.F.slot_list_add PySem.F.entry_list_add (PySem.F.args_list_add_2 _ _) (list_addW l b vs.toArray ws.toArray n n2 dd dd2 sl sl2 (by simpa using hsz)) ⟨ho, ho2, ?_⟩
  rw [e]
  exact h
theorem oadd : ROp X (binaryOp .Add) rAdd := by
  intro pins s σ H x y v u Q0 I rx ry h
  obtain ⟨a, b, M, Q, ra, rb, hv, hq, hk⟩ := h
  cases a with
  | int i =>
    cases b with
    | int j => simp only [Rep] at ra rb; exact op_add pins s σ H x y v u Q0 I rx ry ⟨i, j, ra, rb, hk _ M _ H hq (.refl H) hv (by simp only [Rep])⟩
    | _ => exact (show False from hq).elim
  | str i =>
    cases b with
    | str j => simp only [Rep] at ra rb; exact op_add_str pins s σ H x y v u Q0 I rx ry ⟨i, j, ra, rb, hq.1, hk _ M _ H hq.2 (.refl H) hv (by simp only [Rep])⟩
    | _ => exact (show False from hq).elim
  | tup xs =>
    cases b with
    | tup ys =>
      obtain ⟨hz, hq⟩ := hq
      simp only [Rep] at ra rb
      obtain ⟨p, vs, rfl, hp, hr⟩ := ra
      obtain ⟨q, ws, rfl, hp2, hr2⟩ := rb
      by_cases hn : vs = []
      · subst hn
        have hx : xs = [] := by have := hr.length; simpa using this
        subst hx
        cases rx; cases ry
        obtain ⟨its, r1, p1, _⟩ := I.tuple hp
        obtain ⟨its2, r2, p2, _⟩ := I.tuple hp2
        cases r1
        exact cat_tup0 p1 p2 ⟨.ref q, H, I, rfl, hk _ M _ H hq (.refl H) hv (by simp only [Rep, List.nil_append]; exact ⟨q, ws, rfl, hp2, hr2⟩)⟩
      · refine op_catT pins s σ H _ _ v u Q0 I rx ry ⟨p, q, vs, ws, rfl, rfl, hp, hp2, hn, by rw [← hr.length, ← hr2.length]; exact hz, fun e => ?_, fun e l hl => ?_⟩
        · subst e
          have hy : ys = [] := by have := hr2.length; simpa using this
          subst hy
          exact hk _ M _ H hq (.refl H) hv (by simp only [Rep, List.append_nil]; exact ⟨p, vs, rfl, hp, hr⟩)
        · exact hk _ M _ _ hq (Ext.new hl) (hv.new hl) (rep_tup hl (hr.append hr2))
    | _ => exact (show False from hq).elim
  | ls xs =>
    cases b with
    | ls ys =>
      obtain ⟨hz, hq⟩ := hq
      simp only [Rep] at ra rb
      obtain ⟨p, vs, rfl, hp, hr⟩ := ra
      obtain ⟨q, ws, rfl, hp2, hr2⟩ := rb
      cases rx; cases ry
      obtain ⟨its, r1, p1, z1⟩ := I.list hp.sq
      obtain ⟨its2, r2, p2, z2⟩ := I.list hp2.sq
      have hz' : vs.length + ws.length ≤ sizeLine := by rw [← hr.length, ← hr2.length]; exact hz
      refine thn (cat_lst (Q := EP X pins σ (fun v H' => ∃ H1 p xs, v = .ref p ∧ H1 p = none ∧ H' = upd H1 p (.lst xs) ∧ ∀ o, Q0 (.ref p) (upd H1 p (.frz o (.lst xs))))) p1.isList p2.isList ?_ (by rw [← r1.length, ← r2.length]; exact hz')) fun _ _ e => frozen e
      have hf := I.hok.fresh (Nat.le_refl s.heap.objs.size)
      refine ⟨.ref s.heap.objs.size, upd H s.heap.objs.size (.lst (vs ++ ws)), I.laid (t' := s.toks) (fun b ob q => Heap.get?_push_of_some _ q) (Nat.le_refl _) ?_, rfl, H, _, _, rfl, hf, rfl, fun o => ?_⟩
      · exact ⟨by rw [List.length_append]; exact hz', _, 0, r1.append r2, Heap.get?_push_size _ rfl⟩
      · exact hk _ M _ _ hq (Ext.new hf) (hv.new hf) (rep_ls hf (hr.append hr2))
    | _ => exact (show False from hq).elim
  | _ => cases b <;> exact (show False from hq).elim
def rEqq : RR2 := fun x y M Q => okR 16 x = true ∧ okR 16 y = true ∧ Q (.bl (eqR x y)) M
def rNeq : RR2 := fun x y M Q => okR 16 x = true ∧ okR 16 y = true ∧ Q (.bl (!eqR x y)) M
theorem oeq (hu : X.A.units + 64 < cLine) : ROp X (compareOp .Eq) rEqq := by
  intro pins s σ H x y v u Q0 I rx ry h
  obtain ⟨a, b, M, Q, ra, rb, hv, ⟨o1, o2, hq⟩, hk⟩ := h
  exact rcAt_den 15 a b X.A s v u o1 o2 (den_of I 16 a x v o1 ra rx) (den_of I 16 b y u o2 rb ry) (by omega) _ _ _ _ ⟨.bl (eqR a b), H, I, rfl, hk _ M _ H hq (.refl H) hv (by simp only [Rep])⟩
theorem one (hu : X.A.units + 64 < cLine) : ROp X (compareOp .NotEq) rNeq := by
  intro pins s σ H x y v u Q0 I rx ry h
  obtain ⟨a, b, M, Q, ra, rb, hv, ⟨o1, o2, hq⟩, hk⟩ := h
  exact rcNeAt_den 15 a b X.A s v u o1 o2 (den_of I 16 a x v o1 ra rx) (den_of I 16 b y u o2 rb ry) (by omega) _ _ _ _ ⟨.bl (!eqR a b), H, I, rfl, hk _ M _ H hq (.refl H) hv (by simp only [Rep])⟩
def isN : RV → Bool
  | .non => true
  | _ => false
theorem isN_rep {K : PySem.W.Frag} {H : Hp} : ∀ {a : RV} {x : V}, Rep K H a x → decide (x = .non) = isN a := by
  intro a x h
  cases a with
  | tup xs => simp only [Rep] at h; obtain ⟨p, vs, rfl, _⟩ := h; simp [isN]
  | ls xs => simp only [Rep] at h; obtain ⟨p, vs, rfl, _⟩ := h; simp [isN]
  | _ => simp only [Rep] at h; subst h; simp [isN]
def rIs : RR2 := fun x y M Q => match y with | .non => Q (.bl (isN x)) M | _ => False
def rIsNot : RR2 := fun x y M Q => match y with | .non => Q (.bl (!isN x)) M | _ => False
theorem ois : ROp X (compareOp .Is) rIs := by
  intro pins s σ H x y v u Q0 I rx ry h
  obtain ⟨a, b, M, Q, ra, rb, hv, hq, hk⟩ := h
  cases b with
  | non => simp only [Rep] at rb; exact op_isN pins s σ H x y v u Q0 I rx ry ⟨rb, by rw [isN_rep ra]; exact hk _ M _ H hq (.refl H) hv (by simp only [Rep])⟩
  | _ => exact (show False from hq).elim
theorem oisnot : ROp X (compareOp .IsNot) rIsNot := by
  intro pins s σ H x y v u Q0 I rx ry h
  obtain ⟨a, b, M, Q, ra, rb, hv, hq, hk⟩ := h
  cases b with
  | non => simp only [Rep] at rb; exact op_notN pins s σ H x y v u Q0 I rx ry ⟨rb, by rw [isN_rep ra]; exact hk _ M _ H hq (.refl H) hv (by simp only [Rep])⟩
  | _ => exact (show False from hq).elim
def rIx : RR2 := fun x y M Q => match x, y with
  | .tup xs, .int i => match atI xs i with | some v => Q v M | none => False
  | .ls xs, .int i => match atI xs i with | some v => Q v M | none => False
  | .ref a, .int i => match M a with
    | some (.lst xs) => match atI xs i with | some v => Q v M | none => False
    | _ => False
  | .str z, .int i => z.length ≤ sizeLine ∧ match atI z.cps.toList i with | some c => Q (.str ⟨#[c]⟩) M | none => False
  | _, _ => False
theorem oix : IxR X (upO X.K rIx) := by
  intro value slice pins s σ H x y v u Q0 I rx ry h hs
  obtain ⟨a, b, M, Q, ra, rb, hv, hq, hk⟩ := h
  cases b with
  | int i =>
    simp only [Rep] at rb
    cases a with
    | tup xs =>
      simp only [Rep] at ra
      obtain ⟨p, vs, rfl, hp, hr⟩ := ra
      simp only [rIx] at hq
      cases e : atI xs i with
      | none => rw [e] at hq; exact hq.elim
      | some z =>
        rw [e] at hq
        obtain ⟨w, e1, r1⟩ := hr.atI e
        exact ix_tup value slice pins s σ H _ y v u Q0 I rx ry ⟨p, vs, i, w, rfl, rb, hp, e1, hk _ M _ H hq (.refl H) hv r1⟩ hs
    | ls xs =>
      simp only [Rep] at ra
      obtain ⟨p, vs, rfl, hp, hr⟩ := ra
      simp only [rIx] at hq
      cases e : atI xs i with
      | none => rw [e] at hq; exact hq.elim
      | some z =>
        rw [e] at hq
        obtain ⟨w, e1, r1⟩ := hr.atI e
        exact ix_list value slice pins s σ H _ y v u Q0 I rx ry ⟨p, vs, i, w, rfl, rb, hp.sq, e1, hk _ M _ H hq (.refl H) hv r1⟩ hs
    | ref p =>
      simp only [Rep] at ra
      simp only [rIx] at hq
      split at hq
      · rename_i xs em
        obtain ⟨ho, e, r⟩ := hv p _ em
        obtain ⟨vs, rfl, hr⟩ := r
        cases e2 : atI xs i with
        | none => rw [e2] at hq; exact hq.elim
        | some z =>
          rw [e2] at hq
          obtain ⟨w, e1, r1⟩ := hr.atI e2
          exact ix_list value slice pins s σ H x y v u Q0 I rx ry ⟨p, vs, i, w, ra, rb, SqL.of e, e1, hk _ M _ H hq (.refl H) hv r1⟩ hs
      · exact hq.elim
    | str z =>
      simp only [Rep] at ra
      simp only [rIx] at hq
      obtain ⟨hz, hq⟩ := hq
      cases e : atI z.cps.toList i with
      | none => rw [e] at hq; exact hq.elim
      | some c =>
        rw [e] at hq
        exact ix_str value slice pins s σ H x y v u Q0 I rx ry ⟨z, i, c, ra, rb, hz, e, hk _ M _ H hq (.refl H) hv (by simp only [Rep])⟩ hs
    | _ => exact (show False from hq).elim
  | _ => cases a <;> exact (show False from hq).elim
theorem rix {a b : Expr} {ta tb : RTE} {pos : Pos} (ha : RPE X a ta) (hb : RPE X b tb) (hs : PlainIx b := by intro _ _; rfl) : RPE X (.Subscript a b pos) (rOp rIx ta tb) := PE.imp (pe_ix oix ha hb hs) fun _ _ _ h => rop_imp h
def rSetL : RTSet := fun o i v M Q => match o, i with
  | .ref p, .int k => match M p with
    | some (.lst xs) => match ixN xs.length k with | some j => Q (put M p (.lst (xs.set j v))) | none => False
    | _ => False
  | _, _ => False
theorem osetl : PSet X (upSet X.K rSetL) := by
  intro pins s σ H o i v ov iv u Q0 I ro ri rv h
  obtain ⟨a, b, c, M, Q, ra, rb, rc, hv, hq, hk⟩ := h
  cases a with
  | ref p =>
    cases b with
    | int k =>
      simp only [Rep] at ra rb
      simp only [rSetL] at hq
      split at hq
      · rename_i xs em
        obtain ⟨ho, e, r⟩ := hv p _ em
        obtain ⟨vs, rfl, hr⟩ := r
        cases e2 : ixN xs.length k with
        | none => rw [e2] at hq; exact hq.elim
        | some j =>
          rw [e2] at hq
          have ex : Ext H (upd H p (.lst (vs.set j v))) := Ext.write e rfl
          exact set_list pins s σ H o i v ov iv u Q0 I ro ri rv ⟨p, vs, k, j, ra, rb, e, by rw [← hr.length]; exact e2, hk _ _ hq ex (hv.write em ⟨_, rfl, Reps.ext ex _ _ (hr.set rc j)⟩)⟩
      · exact hq.elim
    | _ => exact (show False from hq).elim
  | _ => cases b <;> exact (show False from hq).elim
def upC (K : PySem.W.Frag) (r : List RV → RM → RVK → Prop) : List V → Hp → VK → Prop := fun vs H Q0 => ∃ rs M Q, Reps K H rs vs ∧ View K H M ∧ r rs M Q ∧ UpK K H Q Q0
def rCall (r : List RV → RM → RVK → Prop) (t : RTA) : RTE := fun σ M Q => t σ M fun rs M1 => r rs M1 Q
theorem rcall_imp {K : PySem.W.Frag} {r : List RV → RM → RVK → Prop} {t : RTA} {σ0 : L2.St} {H : Hp} {Q0 : VK} (h : up K (rCall r t) σ0 H Q0) : tCB (upC K r) (upA K t) σ0 H Q0 := by
  obtain ⟨σ, M, Q, hs, hv, ht, hk⟩ := h
  exact ⟨σ, M, _, hs, hv, ht, fun rs M1 vs H1 q e1 v1 r1 => ⟨rs, M1, Q, r1, v1, q, hk.ext e1⟩⟩
variable {x : Str} {p pos : Pos} {e : Expr} {es : List Expr} {t : RTA} {id T : String} {r : List RV → RM → RVK → Prop}
theorem rcallB (hc : CallR X (.builtin id) (upC X.K r)) (hm : X.mg x = none) (hv : bootBuiltins x = some (.builtin id)) (ha : RPA X (e :: es) t) (hg : Gl X x := by rfl) (hn : x ≠ "__name__" := by decide) (hdb : (x == ("__debug__" : Str)) = false := by decide)
    (he : starEach (e :: es) X.env = (false, eval e X.env) :: starEach es X.env := by rfl) (hpl : (backTo pos (starEach es X.env)).any (·.1) = false := by rfl) : RPE X (.Call (.Name x p) (e :: es) [] pos) (rCall r t) :=
  PE.imp (pe_callB hc hg hm hv ha hn hdb he hpl) fun _ _ _ h => rcall_imp h
theorem Reps.one {K : PySem.W.Frag} {H : Hp} {x : RV} {vs : List V} (h : Reps K H [x] vs) : ∃ v, vs = [v] ∧ Rep K H x v := by
  simp only [Reps] at h
  obtain ⟨v, r, rfl, h1, rfl⟩ := h
  exact ⟨v, rfl, h1⟩
theorem Reps.two {K : PySem.W.Frag} {H : Hp} {x y : RV} {vs : List V} (h : Reps K H [x, y] vs) : ∃ v w, vs = [v, w] ∧ Rep K H x v ∧ Rep K H y w := by
  simp only [Reps] at h
  obtain ⟨v, r, rfl, h1, w, r', rfl, h2, rfl⟩ := h
  exact ⟨v, w, rfl, h1, h2⟩
def rLen : List RV → RM → RVK → Prop := fun rs M Q => match rs with
  | [.tup xs] => Q (.int xs.length) M
  | [.ls xs] => Q (.int xs.length) M
  | [.str z] => z.length ≤ sizeLine ∧ Q (.int z.length) M
  | [.ref a] => match M a with | some (.lst xs) => Q (.int xs.length) M | _ => False
  | _ => False
theorem clen : CallR X (.builtin "len") (upC X.K rLen) := by
  intro pins s σ H xs us Q0 I rl h
  obtain ⟨rs, M, Q, rr, hv, hq, hk⟩ := h
  unfold rLen at hq
  split at hq
  · rename_i ys
    obtain ⟨v, rfl, r1⟩ := rr.one
    simp only [Rep] at r1
    obtain ⟨q, vs, rfl, hp, hr⟩ := r1
    exact call_len_seq pins s σ H _ us Q0 I rl ⟨q, vs, rfl, .inr hp, by rw [← hr.length]; exact hk _ M _ H hq (.refl H) hv (by simp only [Rep])⟩
  · rename_i ys
    obtain ⟨v, rfl, r1⟩ := rr.one
    simp only [Rep] at r1
    obtain ⟨q, vs, rfl, hp, hr⟩ := r1
    exact call_len_seq pins s σ H _ us Q0 I rl ⟨q, vs, rfl, .inl hp.sq, by rw [← hr.length]; exact hk _ M _ H hq (.refl H) hv (by simp only [Rep])⟩
  · rename_i z
    obtain ⟨v, rfl, r1⟩ := rr.one
    simp only [Rep] at r1
    subst r1
    exact call_len_str pins s σ H _ us Q0 I rl ⟨z, rfl, hq.1, hk _ M _ H hq.2 (.refl H) hv (by simp only [Rep])⟩
  · rename_i a
    obtain ⟨v, rfl, r1⟩ := rr.one
    simp only [Rep] at r1
    subst r1
    split at hq
    · rename_i ys em
      obtain ⟨ho, e, r⟩ := hv a _ em
      obtain ⟨vs, rfl, hr⟩ := r
      exact call_len_seq pins s σ H _ us Q0 I rl ⟨a, vs, rfl, .inl (SqL.of e), by rw [← hr.length]; exact hk _ M _ H hq (.refl H) hv (by simp only [Rep])⟩
    · exact hq.elim
  · exact hq.elim
def rTuple : List RV → RM → RVK → Prop := fun rs M Q => match rs with
  | [.tup xs] => Q (.tup xs) M
  | [.ls xs] => Q (.tup xs) M
  | [.ref a] => match M a with | some (.lst xs) => Q (.tup xs) M | _ => False
  | _ => False
end
end R
set_option Elab.async false
set_option linter.all false
set_option maxRecDepth 100000
set_option maxHeartbeats 1000000
namespace R
open PySem PySem.Spec PyProof.Rows L2 HT
section
variable {prog : Program} {w : World} {A : Around} {E : Value → Shared → Prop} {s : Shared}
theorem getItem_tuple_whole {t sl : Addr} {items : Array Value} {vl vu : Value} {lo hi : Option Int} {Q : Value → Shared → Prop} (ht : IsTup s.heap t items) (hs : s.heap.IsSliceOf sl vl vu .none) (pl : IsPart vl lo) (pu : IsPart vu hi)
    (h0 : sIx items.size 0 lo = 0) (h1 : sIx items.size items.size hi = items.size)
    (h : Q (.ref t) s) : wpAny (model prog w) A (getItem (.ref t) (.ref sl)) Q E s := by
  obtain ⟨os, hos, hcs, hds⟩ := id hs
  have hTs : s.TypeIs (.ref sl) "slice" := ⟨os, hos, hcs⟩
  unfold getItem
  try with_reducible refine wpAny_holding ?_
  first | refine wpAny_bind (wpAny_pure ?_) | skip
  refine wpAny_bind (wpAny_sequenceKey ht.typeIs (by decide) ?_)
  refine wpAny_bind (wpAny_callSpecial?_slot (name := Str.ofString "__getitem__") ht.typeIs PyProof.Rows.slot_tuple_getitem
    (wpAny_call_entry PyProof.Rows.slot_tuple_getitem ht.typeIs entry_tuple_getitem ?_ (args_tuple_getitem _ _)))
  show wpAny _ _ (Builtin.Tuple.tupleItemsOf (.ref t) >>= _) _ _ s
  refine wpAny_bind (tupleItemsOf_ ht ?_)
  refine wpAny_bind (wpAny_typeOf hTs ?_)
  rw [if_pos (by decide)]
  refine wpAny_bind (sliceApplied_gen hs pl pu ?_)
  have hyes : (((sIx items.size 0 lo : Nat) : Int) == 0 && (1 : Int) == 1 && (sIx items.size items.size hi - sIx items.size 0 lo) == items.size) = true := by
    rw [h0, h1]; simp
  show wpAny _ _ (if (((sIx items.size 0 lo : Nat) : Int) == 0 && (1 : Int) == 1 && (sIx items.size items.size hi - sIx items.size 0 lo) == items.size) = true then _ else _) _ _ s
  rw [if_pos hyes]
  show wpAny _ _ (Builtin.Tuple.tupleIsExact (.ref t) >>= _) _ _ s
  unfold Builtin.Tuple.tupleIsExact
  refine wpAny_bind (wpAny_bind (wpAny_typeOf ht.typeIs (wpAny_pure ?_)))
  rw [if_pos (by decide)]
  refine wpAny_bind (wpAny_rule ?_)
  refine wpAny_bind (wpAny_pure ?_)
  exact wpAny_pure ⟨_, rfl, wpAny_pure h⟩
end
section
variable {X : Cx}
abbrev RTO := RSt → RM → (Option Int → RM → Prop) → Prop
def upP (K : PySem.W.Frag) (t : RTO) : TO := fun σ0 H Q0 => ∃ σ M Q, RepSt K H σ σ0 ∧ View K H M ∧ t σ M Q ∧ ∀ o M' H', Q o M' → Ext H H' → View K H' M' → Q0 o H'
def RPO (X : Cx) (e : Option Expr) (t : RTO) : Prop := PO X e (upP X.K t)
def rNoP : RTO := fun _ M Q => Q none M
def rPart (t : RTE) : RTO := fun σ M Q => t σ M fun x M1 => match x with | .int i => Q (some i) M1 | _ => False
theorem PO.imp {e : Option Expr} {t t' : TO} (h : PO X e t) (i : ∀ σ H Q, t' σ H Q → t σ H Q) : PO X e t' := fun pins s σ H Q I w => h pins s σ H Q I (i σ H Q w)
theorem pnone : RPO X none rNoP := PO.imp po_none fun σ0 H Q0 h => by
  obtain ⟨σ, M, Q, hs, hv, ht, hk⟩ := h
  exact hk none M H ht (.refl H) hv
theorem psome {e : Expr} {te : RTE} (h : RPE X e te) : RPO X (some e) (rPart te) := PO.imp (po_some h) fun σ0 H Q0 h => by
  obtain ⟨σ, M, Q, hs, hv, ht, hk⟩ := h
  refine ⟨σ, M, _, hs, hv, ht, fun rx M1 x H1 q e1 v1 r1 => ?_⟩
  cases rx with
  | int i => simp only [Rep] at r1; exact ⟨i, r1, hk _ M1 H1 q e1 v1⟩
  | _ => exact (show False from q).elim
def cutR (xs : List RV) (lo hi : Option Int) : List RV := (xs.drop (sIx xs.length 0 lo)).take (sIx xs.length xs.length hi - sIx xs.length 0 lo)
theorem reps_cut {K : PySem.W.Frag} {H : Hp} {xs : List RV} {vs : List V} (r : Reps K H xs vs) (lo hi : Option Int) : Reps K H (cutR xs lo hi) (cutV vs lo hi) := by
  unfold cutR cutV
  rw [r.length]
  exact (r.drop _).take _
def rSlc : RV → Option Int → Option Int → RM → RVK → Prop := fun x lo hi M Q => match x with
  | .tup xs => Q (.tup (cutR xs lo hi)) M
  | .ls xs => Q (.ls (cutR xs lo hi)) M
  | .ref a => match M a with | some (.lst xs) => Q (.ls (cutR xs lo hi)) M | _ => False
  | _ => False
def upL (K : PySem.W.Frag) (r : RV → Option Int → Option Int → RM → RVK → Prop) : V → Option Int → Option Int → Hp → VK → Prop := fun x lo hi H Q0 => ∃ rx M Q, Rep K H rx x ∧ View K H M ∧ r rx lo hi M Q ∧ UpK K H Q Q0
theorem oslc : SlR X (upL X.K rSlc) := by
  intro pins s σ H x v vl vu lo hi sl Q0 I rx hs pl pu h
  obtain ⟨a, M, Q, ra, hv, hq, hk⟩ := h
  have lstcase : ∀ (p : Addr) (xs : List RV) (vs : List V), x = .ref p → SqL X.K H p vs → Reps X.K H xs vs → Q (.ls (cutR xs lo hi)) M →
      ∃ T id, typeLookup (.type T) "__getitem__" = pure (some (.builtin id)) ∧ s.TypeIs v T ∧ wpAny (model X.prog X.w) X.A (getItem v (.ref sl)) (EP X pins σ Q0) X.xe s := by
    intro p xs vs ex hp hr hq
    obtain ⟨T, id, h1, h2, h3⟩ := sl_list pins s σ H x v vl vu lo hi sl (fun v H' => ∃ H1 p xs, v = .ref p ∧ H1 p = none ∧ H' = upd H1 p (.lst xs) ∧ ∀ o, Q0 (.ref p) (upd H1 p (.frz o (.lst xs)))) I rx hs pl pu
      ⟨p, vs, ex, hp, fun q hq' => ⟨H, q, _, rfl, hq', rfl, fun o => hk _ M _ _ hq (Ext.new hq') (hv.new hq') (rep_ls hq' (reps_cut hr lo hi))⟩⟩
    exact ⟨T, id, h1, h2, thn h3 fun _ _ e => frozen e⟩
  cases a with
  | tup xs =>
    simp only [rSlc] at hq
    simp only [Rep] at ra
    obtain ⟨p, vs, rfl, hp, hr⟩ := ra
    by_cases hw : sIx vs.length 0 lo = 0 ∧ sIx vs.length vs.length hi = vs.length
    · cases rx
      obtain ⟨its, r, ht, hz⟩ := I.tuple hp
      have hlen : its.toArray.size = vs.length := by rw [List.size_toArray]; exact r.length.symm
      refine ⟨"tuple", _, PyProof.Rows.slot_tuple_getitem.lookup, ht.typeIs, ?_⟩
      refine getItem_tuple_whole ht hs pl pu (by rw [hlen]; exact hw.1) (by rw [hlen]; exact hw.2) ⟨.ref p, H, I, rfl, ?_⟩
      have e : cutR xs lo hi = xs := by
        unfold cutR
        rw [hr.length, hw.1, hw.2, List.drop_zero, Nat.sub_zero, ← hr.length, List.take_length]
      rw [e] at hq
      exact hk _ M _ H hq (.refl H) hv (by simp only [Rep]; exact ⟨p, vs, rfl, hp, hr⟩)
    · exact sl_tup pins s σ H _ v vl vu lo hi sl Q0 I rx hs pl pu ⟨p, vs, rfl, hp, hw, fun q hq' => hk _ M _ _ hq (Ext.new hq') (hv.new hq') (rep_tup hq' (reps_cut hr lo hi))⟩
  | ls xs =>
    simp only [rSlc] at hq
    simp only [Rep] at ra
    obtain ⟨p, vs, rfl, hp, hr⟩ := ra
    exact lstcase p xs vs rfl hp.sq hr hq
  | ref p =>
    simp only [rSlc] at hq
    simp only [Rep] at ra
    split at hq
    · rename_i xs em
      obtain ⟨ho, e, r⟩ := hv p _ em
      obtain ⟨vs, rfl, hr⟩ := r
      exact lstcase p xs vs ra (SqL.of e) hr hq
    · exact hq.elim
  | _ => exact (show False from hq).elim
def rSl (te : RTE) (tl th : RTO) : RTE := fun σ M Q => te σ M fun x M1 => tl σ M1 fun l M2 => th σ M2 fun u M3 => rSlc x l u M3 Q
theorem rsl {e : Expr} {te : RTE} {lo hi : Option Expr} {tl th : RTO} {pos p2 : Pos} (he : RPE X e te) (hl : RPO X lo tl) (hu : RPO X hi th) : RPE X (.Subscript e (.Slice lo hi none p2) pos) (rSl te tl th) := PE.imp (pe_slice oslc he hl hu) fun σ0 H Q0 h => by
  obtain ⟨σ, M, Q, hs, hv, ht, hk⟩ := h
  refine ⟨σ, M, _, hs, hv, ht, fun rx M1 x H1 q e1 v1 r1 => ?_⟩
  refine ⟨σ, M1, _, hs.ext e1, v1, q, fun l M2 H2 q2 e2 v2 => ?_⟩
  refine ⟨σ, M2, _, hs.ext (e1.trans e2), v2, q2, fun u M3 H3 q3 e3 v3 => ?_⟩
  exact ⟨rx, M3, Q, Rep.ext (e2.trans e3) rx x r1, v3, q3, hk.ext ((e1.trans e2).trans e3)⟩
def is_int : RV → Option Bool
  | .non => some false
  | .bl _ => some true
  | .int _ => some true
  | .str _ => some false
  | .tup _ => some false
  | .ls _ => some false
  | _ => none
def is_bool : RV → Option Bool
  | .non => some false
  | .bl _ => some true
  | .int _ => some false
  | .str _ => some false
  | .tup _ => some false
  | .ls _ => some false
  | _ => none
theorem kit_non_str (K : PySem.W.Frag) : PySem.W.kitOne K (.type "NoneType") (.type "str") = some false := by kernel_rfl
theorem kit_bl_str (K : PySem.W.Frag) : PySem.W.kitOne K (.type "bool") (.type "str") = some false := by kernel_rfl
theorem kit_int_str (K : PySem.W.Frag) : PySem.W.kitOne K (.type "int") (.type "str") = some false := by kernel_rfl
theorem kit_str_str (K : PySem.W.Frag) : PySem.W.kitOne K (.type "str") (.type "str") = some true := by kernel_rfl
theorem kit_tup_str (K : PySem.W.Frag) : PySem.W.kitOne K (.type "tuple") (.type "str") = some false := by kernel_rfl
theorem kit_ls_str (K : PySem.W.Frag) : PySem.W.kitOne K (.type "list") (.type "str") = some false := by kernel_rfl
def is_str : RV → Option Bool
  | .non => some false
  | .bl _ => some false
  | .int _ => some false
  | .str _ => some true
  | .tup _ => some false
  | .ls _ => some false
  | _ => none
def is_tuple : RV → Option Bool
  | .non => some false
  | .bl _ => some false
  | .int _ => some false
  | .str _ => some false
  | .tup _ => some true
  | .ls _ => some false
  | _ => none
def is_list : RV → Option Bool
  | .non => some false
  | .bl _ => some false
  | .int _ => some false
  | .str _ => some false
  | .tup _ => some false
  | .ls _ => some true
  | _ => none
def tyN : RV → Option String
  | .non => some "NoneType"
  | .bl _ => some "bool"
  | .int _ => some "int"
  | .str _ => some "str"
  | .tup _ => some "tuple"
  | .ls _ => some "list"
  | _ => none
def rIsi (T : String) (test : RV → Option Bool) : List RV → RM → RVK → Prop := fun rs M Q => match rs with
  | [x, .ty T'] => T' = T ∧ (match test x with | some b => Q (.bl b) M | none => False)
  | _ => False
theorem cisi {T : String} {test : RV → Option Bool} (ht : ∀ a b, test a = some b → ∃ n, tyN a = some n ∧ PySem.W.kitOne X.K (.type n) (.type T) = some b) : CallR X (.builtin "isinstance") (upC X.K (rIsi T test)) := by
  intro pins s σ H xs us Q0 I rl h
  obtain ⟨rs, M, Q, rr, hv, hq, hk⟩ := h
  unfold rIsi at hq
  split at hq
  · rename_i a T'
    obtain ⟨rfl, hq⟩ := hq
    obtain ⟨v, w, rfl, r1, r2⟩ := rr.two
    obtain ⟨u, u', rfl, w1, w2⟩ := vals2 rl
    simp only [Rep] at r2
    subst r2
    obtain rfl : u' = Value.type T' := w2
    cases e : test a with
    | none => rw [e] at hq; exact hq.elim
    | some b =>
      rw [e] at hq
      obtain ⟨n, en, ek⟩ := ht a b e
      have fin : ∀ tk, EP X pins σ Q0 (.bool b) { s with toks := tk } := fun tk => ⟨.bl b, H, I.tok tk, rfl, hk _ M _ H hq (.refl H) hv (by simp only [Rep])⟩
      cases a with
      | non => cases en; simp only [Rep] at r1; subst r1; cases (show u = Value.none from w1); exact PySem.W.kia_one PySem.W.kitx_none I.kIn True.intro ek (fun z => nomatch z) fin
      | bl y => cases en; simp only [Rep] at r1; subst r1; cases (show u = Value.bool y from w1); exact PySem.W.kia_one PySem.W.kitx_bool I.kIn True.intro ek (fun z => nomatch z) fin
      | int y => cases en; simp only [Rep] at r1; subst r1; obtain ⟨t, q⟩ := (show ∃ t, u = Value.int y t from w1); cases q; exact PySem.W.kia_one PySem.W.kitx_int I.kIn True.intro ek (fun z => nomatch z) fin
      | str y => cases en; simp only [Rep] at r1; subst r1; obtain ⟨t, q⟩ := (show ∃ t, u = Value.str y t from w1); cases q; exact PySem.W.kia_one PySem.W.kitx_str I.kIn True.intro ek (fun z => nomatch z) fin
      | tup ys =>
        cases en; simp only [Rep] at r1
        obtain ⟨p, vs, rfl, hp, hr⟩ := r1
        cases (show u = Value.ref p from w1)
        obtain ⟨its, _, pt, _⟩ := I.tuple hp
        obtain ⟨o, h1, h2, _⟩ := pt
        exact PySem.W.kia_one PySem.W.kitx_tuple I.kIn ⟨o, h1, h2⟩ ek (fun z => nomatch z) fin
      | ls ys =>
        cases en; simp only [Rep] at r1
        obtain ⟨p, vs, rfl, hp, hr⟩ := r1
        cases (show u = Value.ref p from w1)
        obtain ⟨its, _, pt, _⟩ := I.list hp.sq
        obtain ⟨o, h1, h2, _⟩ := pt.isList
        exact PySem.W.kia_one PySem.W.kitx_list I.kIn ⟨o, h1, h2⟩ ek (fun z => nomatch z) fin
      | _ => cases en
  · exact hq.elim
theorem cisi_str : CallR X (.builtin "isinstance") (upC X.K (rIsi "str" is_str)) := cisi fun a b e => by
  cases a with
  | non => cases e; exact ⟨_, rfl, kit_non_str X.K⟩
  | bl _ => cases e; exact ⟨_, rfl, kit_bl_str X.K⟩
  | int _ => cases e; exact ⟨_, rfl, kit_int_str X.K⟩
  | str _ => cases e; exact ⟨_, rfl, kit_str_str X.K⟩
  | tup _ => cases e; exact ⟨_, rfl, kit_tup_str X.K⟩
  | ls _ => cases e; exact ⟨_, rfl, kit_ls_str X.K⟩
  | _ => cases e
abbrev RSp := List RV → RM → RVK → Prop
def upSp (K : PySem.W.Frag) (sp : RSp) : Sp := fun vs H Q0 _ => ∃ rs M Q, Reps K H rs vs ∧ View K H M ∧ sp rs M Q ∧ UpK K H Q Q0
end
structure RFn (P : Program) (w : World) (K : PySem.W.Frag) (mg : Str → Option Value) (base : Heap) (k : Nat) (x : Str) (ps : List Str) (sp : RSp) : Prop where
  ex : ∃ (f : Addr) (fd : FuncData), mg x = some (.ref f) ∧ PySem.W.keepIn K (.ref f) = true ∧ Binds K fd ps [] ∧ FnOk P w K mg base CX0 k f fd ps (upSp K sp)
section
variable {X : Cx} {x : Str} {p pos : Pos} {e : Expr} {es : List Expr} {t : RTA} {k : Nat} {ps : List Str} {sp : RSp}
theorem rcallF (F : RFn X.prog X.w X.K X.mg X.base k x ps sp) (hr : Room k X.A) (ha : RPA X (e :: es) t) (hg : Gl X x := by rfl) (hdb : (x == ("__debug__" : Str)) = false := by decide)
    (he : starEach (e :: es) X.env = (false, eval e X.env) :: starEach es X.env := by rfl) (hpl : (backTo pos (starEach es X.env)).any (·.1) = false := by rfl) : RPE X (.Call (.Name x p) (e :: es) [] pos) (rCall sp t) := by
  obtain ⟨f, fd, hm, hk, hb, F⟩ := F.ex
  refine PE.imp (pe_call F hr hg hm hk hb .nil pass0 ha hdb he hpl) fun σ0 H Q0 h => ?_
  obtain ⟨σ, M, Q, hs, hv, ht, hk⟩ := h
  exact ⟨σ, M, _, hs, hv, ht, fun rs M1 vs H1 q e1 v1 r1 => ⟨rs, M1, Q, by rw [List.append_nil]; exact r1, v1, q, hk.ext e1⟩⟩
def rstart (N : List Str) (rs : List RV) : RSt := rs.map some ++ List.replicate (N.length - rs.length) none
theorem start_rep {K : PySem.W.Frag} {H : Hp} {N : List Str} {rs : List RV} {vs : List V} (r : Reps K H rs vs) : RepSt K H (rstart N rs) (L2.start N vs) := by
  unfold rstart L2.start
  refine ⟨by simp [r.length], fun i z e => ?_⟩
  have hi : i < rs.length := by
    by_cases hi : i < rs.length
    · exact hi
    · rw [List.getElem?_append_right (by simpa using hi), List.getElem?_replicate] at e
      split at e <;> cases e
  rw [List.getElem?_append_left (by simpa using hi), List.getElem?_map] at e
  cases q : rs[i]? with
  | none => rw [q] at e; cases e
  | some y =>
    rw [q] at e; cases e
    obtain ⟨v, e1, r1⟩ := r.get q
    exact ⟨v, by rw [List.getElem?_append_left (by rw [List.length_map, ← r.length]; exact hi), List.getElem?_map, e1]; rfl, r1⟩
def nums (n : Nat) : List RV := (List.range n).map fun (i : Nat) => RV.int (i : Int)
theorem nums_len (n : Nat) : (nums n).length = n := by simp [nums]
end
section
variable {X : Cx}
end
end R
set_option Elab.async false
set_option linter.all false
set_option maxRecDepth 100000
set_option maxHeartbeats 1000000
namespace R
open PySem PySem.Spec PyProof.Rows L2
structure ItOf (K : PySem.W.Frag) (J : It) (xs : List RV) (H1 : Hp) : Prop where
  turn : ∀ i H, Ext H1 H → ∀ x, xs[i]? = some x → J.go i H ∧ ∀ v H', J.yld i H v H' → Ext H H' ∧ (∀ M, View K H M → View K H' M) ∧ Rep K H' x v
  stop : ∀ i H, Ext H1 H → xs.length ≤ i → J.stop i H
abbrev RTI := RSt → RM → (List RV → RM → Prop) → Prop
def upI (K : PySem.W.Frag) (ti : RTI) : TI := fun σ0 H R => ∃ σ M Q, RepSt K H σ σ0 ∧ View K H M ∧ ti σ M Q ∧ ∀ xs M' J H', Q xs M' → Ext H H' → View K H' M' → ItOf K J xs H' → R J H'
def RPI (X : Cx) (tg iter : Expr) (ti : RTI) : Prop := PI X tg iter (upI X.K ti)
section
variable {X : Cx} {tg : Expr}
def rItS (te : RTE) : RTI := fun σ M Q => te σ M fun v M1 => match v with
  | .tup xs => Q xs M1
  | .ls xs => Q xs M1
  | _ => False
theorem itl_of {K : PySem.W.Frag} {H1 : Hp} {a : Addr} {rs : List RV} {vs : List V} (h : Fz K H1 a vs) (r : Reps K H1 rs vs) : ItOf K (Itl K a) rs H1 where
  turn := fun i H e x hx => by
    obtain ⟨v, e1, r1⟩ := r.get hx
    refine ⟨⟨vs, v, (h.ext e).sq, e1⟩, fun v' H' y => ?_⟩
    obtain ⟨rfl, y⟩ := y
    have := y vs (h.ext e).sq
    rw [e1] at this; cases this
    exact ⟨.refl _, fun _ w => w, Rep.ext e x v r1⟩
  stop := fun i H e hi => ⟨vs, (h.ext e).sq, by rw [← r.length]; exact hi⟩
theorem itt_of {K : PySem.W.Frag} {H1 : Hp} {a : Addr} {rs : List RV} {vs : List V} (h : SqT K H1 a vs) (r : Reps K H1 rs vs) : ItOf K (Itt K a) rs H1 where
  turn := fun i H e x hx => by
    obtain ⟨v, e1, r1⟩ := r.get hx
    refine ⟨⟨vs, v, SqT.ext e h, e1⟩, fun v' H' y => ?_⟩
    obtain ⟨rfl, y⟩ := y
    have := y vs (SqT.ext e h)
    rw [e1] at this; cases this
    exact ⟨.refl _, fun _ w => w, Rep.ext e x v r1⟩
  stop := fun i H e hi => ⟨vs, SqT.ext e h, by rw [← r.length]; exact hi⟩
theorem itr_of {K : PySem.W.Frag} {H1 : Hp} (n : Nat) : ItOf K (Itr 0 n) (nums n) H1 where
  turn := fun i H e x hx => by
    have hi : i < n := by have := (List.getElem?_eq_some_iff.mp hx).1; rw [nums_len] at this; exact this
    have hx' : x = .int (i : Int) := by simp [nums, hi] at hx; exact hx.symm
    subst hx'
    refine ⟨hi, fun v' H' y => ?_⟩
    obtain ⟨rfl, rfl⟩ := y
    exact ⟨.refl _, fun _ w => w, by simp only [Rep]; simp⟩
  stop := fun i H e hi => by rw [nums_len] at hi; exact hi
theorem iseq {l : Expr} {te : RTE} (hl : RPE X l te) : RPI X tg l (rItS te) := by
  intro pins s σ0 H R I h
  obtain ⟨σ, M, Q, hs, hv, ht, hk⟩ := h
  refine thn (hl pins s σ0 H (fun x H1 => (∃ a vs rs M1, x = .ref a ∧ Fz X.K H1 a vs ∧ Reps X.K H1 rs vs ∧ Q rs M1 ∧ Ext H H1 ∧ View X.K H1 M1) ∨ ∃ a vs rs M1, x = .ref a ∧ SqT X.K H1 a vs ∧ Reps X.K H1 rs vs ∧ Q rs M1 ∧ Ext H H1 ∧ View X.K H1 M1) I ⟨σ, M, _, hs, hv, ht, fun rv M1 v H1 q e1 v1 r1 => ?_⟩) fun v s1 ⟨x, H1, I1, r1, q1⟩ => ?_
  · cases rv with
    | ls xs => simp only [Rep] at r1; obtain ⟨a, vs, rfl, h1, h2⟩ := r1; exact .inl ⟨a, vs, xs, M1, rfl, h1, h2, q, e1, v1⟩
    | tup xs => simp only [Rep] at r1; obtain ⟨a, vs, rfl, h1, h2⟩ := r1; exact .inr ⟨a, vs, xs, M1, rfl, h1, h2, q, e1, v1⟩
    | _ => exact (show False from q).elim
  · rcases q1 with ⟨a, vs, rs, M1, rfl, h1, h2, q, e1, v1⟩ | ⟨a, vs, rs, M1, rfl, h1, h2, q, e1, v1⟩
    · cases r1
      obtain ⟨its, rv, p, hz⟩ := I1.list h1.sq
      refine wpAny_pyIter_list p.isList ?_
      refine ⟨s1.heap.objs.size, [s1.heap.objs.size], _, _, H1, rfl, I1.kept (t' := s1.toks) fun b o e => Heap.get?_push_of_some _ e, turn_list a _, ⟨_, Heap.get?_push_size _ rfl, rfl, rfl⟩, fun b hb => ?_, hk rs M1 _ H1 q e1 v1 (itl_of h1 h2)⟩
      have e : b = s1.heap.objs.size := by simpa using hb
      subst e
      exact I1.fpOk (Nat.le_refl _) (I1.hok.fresh (Nat.le_refl _))
    · cases r1
      obtain ⟨its, rv, p, hz⟩ := I1.tuple h1
      refine wpAny_pyIter_tuple (show s1.heap.IsTuple a its.toArray from p) ?_
      refine ⟨s1.heap.objs.size, [s1.heap.objs.size], _, _, H1, rfl, I1.kept (t' := s1.toks) fun b o e => Heap.get?_push_of_some _ e, turn_tuple a _, ⟨_, Heap.get?_push_size _ rfl, rfl, rfl⟩, fun b hb => ?_, hk rs M1 _ H1 q e1 v1 (itt_of h1 h2)⟩
      have e : b = s1.heap.objs.size := by simpa using hb
      subst e
      exact I1.fpOk (Nat.le_refl _) (I1.hok.fresh (Nat.le_refl _))
def rRngI (Q : List RV → RM → Prop) : List RV → RM → Prop := fun rs M => match rs with
  | [.int n] => -(2 ^ 62) ≤ n ∧ n < 2 ^ 62 ∧ Q (nums n.toNat) M
  | _ => False
def rItR (te : RTE) : RTI := fun σ M Q => te σ M fun v M1 => rRngI Q [v] M1
theorem PI.imp {iter : Expr} {t t' : TI} (h : PI X tg iter t) (i : ∀ σ H R, t' σ H R → t σ H R) : PI X tg iter t' := fun pins s σ H R I w => h pins s σ H R I (i σ H R w)
theorem irange {a : Expr} {te : RTE} {p pos : Pos} (hm : X.mg "range" = none) (ha : RPE X a te) (hgl : Gl X "range" := by rfl) (hst : starEach [a] X.env = [(false, eval a X.env)] := by rfl) (hsc : starEach (a :: []) X.env = (false, eval a X.env) :: starEach [] X.env := by rfl) :
    RPI X tg (.Call (.Name "range" p) [a] [] pos) (rItR te) := PI.imp (pi_range1 hgl hm (acons ha anil hsc) hst) fun σ0 H R h => by
  obtain ⟨σ, M, Q, hs, hv, ht, hk⟩ := h
  refine ⟨σ, M, rRngI Q, hs, hv, ht, fun rs M1 vs H1 q e1 v1 r1 => ?_⟩
  unfold rRngI at q
  split at q
  · rename_i n
    obtain ⟨q1, q2, q⟩ := q
    obtain ⟨v, rfl, r2⟩ := r1.one
    simp only [Rep] at r2
    subst r2
    exact ⟨n, rfl, q1, q2, hk _ M1 _ H1 q e1 v1 (itr_of _)⟩
  · exact q.elim
def rForI (ti : RTI) (g : RTG) (tb : RTS) : RTS := fun D σ M => ti σ M fun xs M1 => rForL g tb D xs σ M1
theorem sfor {iter : Expr} {body : List Stmt} {ti : RTI} {g : RTG} {tb : RTS} {pos : Pos} (hp : PassesOwn (model X.prog X.w) X.A X.env X.xe) (hc : X.calm = true) (hi : RPI X tg iter ti) (hg : RPG X tg g) (hb : RPSs X body tb)
    (hs : ∀ x, foldedSetIterable iter X.env x = pure x := by intro _; rfl) : RPS X (.For tg iter body [] pos) (rForI ti g tb) := PS.imp (ps_for hp hc hi hg hb hs) fun D0 σ0 H h => by
  obtain ⟨σ, M, D, hs, hv, ht, hd⟩ := h
  refine ⟨σ, M, _, hs, hv, ht, fun xs M1 J H1 q e1 v1 hJ => ?_⟩
  refine ⟨fun i m σ0 H => m = xs.length - i ∧ i ≤ xs.length ∧ ∃ σ M, RepSt X.K H σ σ0 ∧ View X.K H M ∧ rForL g tb D (xs.drop i) σ M ∧ Ext H1 H, ⟨_, rfl, Nat.zero_le _, σ, M1, hs.ext e1, v1, by simpa using q, .refl _⟩, ?_⟩
  rintro i m σ0 H ⟨rfl, hi, σ, M, hs, hv, hf, e⟩
  by_cases hlt : i < xs.length
  · have ed : xs.drop i = xs[i] :: xs.drop (i + 1) := by simp
    rw [ed] at hf
    obtain ⟨hgo, hy⟩ := hJ.turn i H e xs[i] (by simp)
    refine .inr ⟨hgo, fun σ0 H => ∃ σ M, RepSt X.K H σ σ0 ∧ View X.K H M ∧ rForL g tb D (xs.drop (i + 1)) σ M ∧ Ext H1 H, fun σ' H' h => ⟨_, by omega, rfl, hlt, h⟩, fun x H' y => ?_⟩
    obtain ⟨e2, w2, r2⟩ := hy x H' y
    refine ⟨xs[i], σ, M, _, r2, hs.ext e2, w2 M hv, hf, fun σ' M' σ0' H'' q e3 v3 r3 => ?_⟩
    have e13 := (e.trans e2).trans e3
    refine ⟨σ', M', _, r3, v3, q, ⟨fun σ4 M4 σ04 H4 q4 e4 v4 r4 => ⟨σ4, M4, r4, v4, q4, e13.trans e4⟩, (hd.ext (e1.trans e13)).rt, (hd.ext (e1.trans e13)).nx, fun σ4 M4 σ04 H4 q4 e4 v4 r4 => ⟨σ4, M4, r4, v4, q4, e13.trans e4⟩⟩⟩
  · have ei : i = xs.length := by omega
    subst ei
    rw [List.drop_length] at hf
    exact .inl ⟨hJ.stop _ H e (Nat.le_refl _), hd.nx σ M σ0 H hf (e1.trans e) hv hs⟩
end
end R
set_option Elab.async false
set_option linter.all false
set_option maxRecDepth 100000
set_option maxHeartbeats 1000000
namespace R
open PySem PySem.Spec PyProof.Rows L2
section
variable {prog : Program} {w : World} {A : Around} {R : Result → Shared → Prop} {s : Shared}
end
def rYes : RTT := fun _ M Q => Q true M
def rCompL (tt : RTT) (te : RTE) (base : List (Option RV)) : List RV → List RV → RM → RVK → Prop
  | [], acc, M, Q => Q (.ls acc) M
  | x :: r, acc, M, Q => tt (some x :: base) M fun ok M1 => (ok = true → te (some x :: base) M1 fun v M2 => rCompL tt te base r (acc ++ [v]) M2 Q) ∧ (ok = false → rCompL tt te base r acc M1 Q)
def rComp (ti : RTI) (cap : List Nat) (tt : RTT) (te : RTE) : RTE := fun σ M Q => ti σ M fun xs M1 => xs.length < sizeLine ∧ rCompL tt te (cap.map fun i => (σ[i]?).join) xs [] M1 Q
section
variable {X : Cx}
end
end R
set_option Elab.async false
set_option linter.all false
set_option maxRecDepth 100000
set_option maxHeartbeats 1000000
namespace R
open PySem PySem.Spec PyProof.Rows L2
def keyR : RV → Option Key
  | .int i => some (.inl i)
  | .str x => some (.inr x)
  | _ => none
def lookK {α : Type} (kvs : List (Key × α)) (k : Key) : Option α := (kvs.find? fun p => decide (p.1 = k)).map (·.2)
structure KTab (P : Program) (w : World) (K : PySem.W.Frag) (mg : Str → Option Value) (x : Str) (kvs : List (Key × RV)) : Prop where
  ex : ∃ (a : Addr) (vs : List (Key × Value)) (ws : List (Key × V)), mg x = some (.ref a) ∧ (a == sysModules) = false ∧ (∀ h : Heap, K.In h → h.DictOf (mixKind P w) a vs) ∧ KV ws vs ∧ ∀ H, RepP K H kvs ws
section
variable {X : Cx}
def rTab (kvs : List (Key × RV)) (te : RTE) : RTE := fun σ M Q => te σ M fun k M1 => match keyR k with
  | some key => (match lookK kvs key with | some v => Q v M1 | none => False)
  | none => False
def rTabIn (neg : Bool) (kvs : List (Key × RV)) (te : RTE) : RTE := fun σ M Q => te σ M fun k M1 => match keyR k with
  | some key => Q (.bl (if neg then !(lookK kvs key).isSome else (lookK kvs key).isSome)) M1
  | none => False
def drop (M : RM) (p : Addr) : RM := fun b => if b = p then none else M b
theorem View.drop {K : PySem.W.Frag} {H : Hp} {M : RM} (w : View K H M) (p : Addr) : View K H (drop M p) := fun a o e => by
  unfold R.drop at e
  split at e
  · cases e
  · exact w a o e
def rDispGet (kvs : List (Key × RV)) (te : RTE) : RTE := fun σ M Q => ∀ p, M p = none → te σ (put M p (.dk kvs)) fun k M1 => M1 p = some (.dk kvs) ∧ (match keyR k with
  | some key => (match lookK kvs key with | some v => Q v (drop M1 p) | none => False)
  | none => False)
end
end R
set_option Elab.async false
set_option linter.all false
set_option maxRecDepth 100000
set_option maxHeartbeats 1000000
namespace R
open PySem PySem.Spec PyProof.Rows L2
theorem rfnok {P : Program} {w : World} {K : PySem.W.Frag} {mg : Str → Option Value} {base : Heap} {x qual : Str} {st : Stmt} {f : Addr} {fd : FuncData} {N ps : List Str} {k : Nat} {sp : RSp} {t : RTS} (F : Fun K x qual st f fd) (S : FnScope N ps (defScope st))
    (len : ∀ rs M Q, sp rs M Q → rs.length = ps.length)
    (term : ∀ (cdv : Value) (A : Around) (outer : List Env) (s : Shared) (H : Hp) (E : XK), Room k (A.deeper (envOfC qual (defScope st) s.heap.objs.size f cdv)) → RPSs (cxOf CX0 P w K mg base N qual (defScope st) f cdv A outer s H E).nox (defBody st) t)
    (body : ∀ rs M Q, sp rs M Q → t { nx := fun _ M' => Q .non M', rt := Q } (rstart N rs) M) : FnOk P w K mg base CX0 (k + 1) f fd ps (upSp K sp) := by
  refine F.ok S (fun vs H Q0 E h => ?_) fun cdv A outer s H vs Q0 E hr h => ?_
  · obtain ⟨rs, M, Q, rr, hv, hq, hk⟩ := h
    rw [← rr.length]; exact len rs M Q hq
  · obtain ⟨rs, M, Q, rr, hv, hq, hk⟩ := h
    refine ⟨_, term cdv A outer s H E hr, rstart N rs, M, { nx := fun _ M' => Q .non M', rt := Q }, start_rep rr, hv, body rs M Q hq, ⟨fun σ M' σ0 H' q e w r => hk .non M' .non H' q e w (by simp only [Rep]), hk, fun _ _ _ _ z => z.elim, fun _ _ _ _ z => z.elim⟩⟩
theorem bt_len : bootBuiltins "len" = some (.builtin "len") := by decide +kernel
theorem bt_isinstance : bootBuiltins "isinstance" = some (.builtin "isinstance") := by decide +kernel
theorem bt_str : bootBuiltins "str" = some (.type "str") := by decide +kernel
section
variable {X : Cx} {pos : Pos}
theorem rty_str (hm : X.mg "str" = none) (hg : Gl X "str" := by rfl) : RPE X (.Name "str" pos) (rC (.ty "str")) := rbltn hm bt_str (v := .ty "str") rfl (fun H => by simp only [Rep]) hg
def TupC (K : PySem.W.Frag) (mg : Str → Option Value) (x : Str) (ss : List Str) : Prop := ∃ a, mg x = some (.ref a) ∧ ∀ H, Rep K H (.tup (ss.map RV.str)) (.ref a)
theorem rgt {x : Str} {ss : List Str} (h : TupC X.K X.mg x ss) (hg : Gl X x := by rfl) (hd : (x == ("__debug__" : Str)) = false := by decide) : RPE X (.Name x pos) (rC (.tup (ss.map RV.str))) := by
  obtain ⟨a, hm, hr⟩ := h
  exact rglob hm (v := .ref a) rfl hr hg hd
end
theorem tupc_mk {K : PySem.W.Frag} {mg : Str → Option Value} {x : Str} {a : Addr} {ss : List Str} {its : Array Value} {n : Nat} {d : Option Addr} {sl : Array (Option Value)} (hm : mg x = some (.ref a)) (l : K.lookup a = some ⟨.type "tuple", d, .seq its n, sl⟩) (hz : its.size ≤ sizeLine)
    (hv : Vals (ss.map V.str) its.toList) : TupC K mg x ss := by
  refine ⟨a, hm, fun H => ?_⟩
  simp only [Rep]
  refine ⟨a, ss.map V.str, rfl, .inr ⟨_, its, n, l, rfl, rfl, hz, hv⟩, ?_⟩
  clear hv
  induction ss with
  | nil => exact Reps.nil
  | cons s r ih => exact Reps.cons (by simp only [Rep]) ih
theorem law_in {K : PySem.W.Frag} {sp : RSp} {H : Hp} {a : Addr} {ns : List Int} (hO : Only H) (hS : SqL K H a (ns.map V.int)) (h : sp [.ls (ns.map RV.int)] (fun _ => none) (fun v _ => v = .bl true)) : upSp K sp [.ref a] H (fun v _ => v = .bl true) (fun _ _ _ => False) := by
  have hr : ∀ l : List Int, Reps K H (l.map RV.int) (l.map V.int) := fun l => by
    induction l with
    | nil => exact Reps.nil
    | cons s r ih => exact Reps.cons (by simp only [Rep]) ih
  have hf : Fz K H a (ns.map V.int) := by
    rcases hS with (e | ⟨o, e⟩) | e
    · rcases hO a with z | ⟨o, xs, z⟩
      · rw [e] at z; cases z
      · rw [e] at z; cases z
    · exact .inl ⟨o, e⟩
    · exact .inr e
  refine ⟨[.ls (ns.map RV.int)], fun _ => none, fun v _ => v = .bl true, Reps.cons (by simp only [Rep]; exact ⟨a, _, rfl, hf, hr ns⟩) Reps.nil, fun _ _ z => (by cases z), h, fun rv M' v H' q _ _ r => ?_⟩
  have q' : rv = .bl true := q
  subst q'
  simpa only [Rep] using r
end R
set_option Elab.async false
set_option linter.all false
set_option maxRecDepth 100000
set_option maxHeartbeats 1000000
namespace R
open PySem PySem.Spec PyProof.Rows L2
structure NameOk (N : List Str) (sc : Scope) : Prop where
  nd : N.Nodup
  loc : ∀ x ∈ N, sc.names.lookup x = some .local ∨ sc.names.lookup x = some .cell
  dbg : ∀ x ∈ N, (x == ("__debug__" : Str)) = false ∧ (x == ("__classdict__" : Str)) = false
section
variable {X : Cx} {x : Str} {pos pos' : Pos}
theorem rvN (i : Nat) (S : NameOk X.N X.env.scope) (hN : X.N[i]? = some x := by rfl) : RPE X (.Name x pos) (rVar i) :=
  have m := List.mem_of_getElem? hN
  rv i hN ((S.loc x m).elim .inl fun z => .inr (.inl z)) (S.dbg x m).1 (S.dbg x m).2
theorem ssetN {e : Expr} {te : RTE} (i : Nat) (S : NameOk X.N X.env.scope) (he : RPE X e te) (hN : X.N[i]? = some x := by rfl) (hs : swapsWith e (some (.Name x pos')) pos.line X.env = pure false := by rfl) (hf : X.fn x = true := by rfl) :
    RPS X (.Assign [.Name x pos'] e pos) (rSet i te) := sset i he S.nd hN (S.loc x (List.mem_of_getElem? hN)) hs (.inl hf)
theorem gnameN (i : Nat) (S : NameOk X.N X.env.scope) (hN : X.N[i]? = some x := by rfl) (hf : X.fn x = true := by rfl) : RPG X (.Name x pos) (rgN i) := gname i S.nd hN (S.loc x (List.mem_of_getElem? hN)) (.inl hf)
structure VisB (X : Cx) : Prop where
  vis : ∀ x ∈ X.N, Vis X.env.scope x
  dbg : ∀ x ∈ X.N, (x == ("__debug__" : Str)) = false ∧ (x == ("__classdict__" : Str)) = false
end
end R
set_option Elab.async false
set_option linter.all false
set_option maxRecDepth 100000
set_option maxHeartbeats 1000000
namespace R
open PySem PySem.Spec PyProof.Rows L2
section
variable {σ : RSt} {M : RM} {Q : RVK} {QT : Bool → RM → Prop} {QA : List RV → RM → Prop} {QO : Option Int → RM → Prop} {n b c : RSt → RM → Prop} {r : RVK} {ta tb tc : RTE} {tA tB : RTT} {t u : RTS} {tr : RTA} {rr rr' : RR2} {N : RSt → RM → Prop}
def kTest (Q : Bool → RM → Prop) : RVK := fun v M' => match v with | .bl k => Q k M' | _ => False
def kIf (A B : RM → Prop) : Bool → RM → Prop := fun c M1 => (c = true → A M1) ∧ (c = false → B M1)
def kPart (Q : Option Int → RM → Prop) : RVK := fun x M1 => match x with | .int i => Q (some i) M1 | _ => False
def kAt (Q : RVK) (M : RM) : Option RV → Prop := fun o => match o with | some v => Q v M | none => False
def kItS (Q : List RV → RM → Prop) : RVK := fun v M1 => match v with | .tup xs => Q xs M1 | .ls xs => Q xs M1 | _ => False
def kCh (rr' : RR2) (tc : RTE) (σ : RSt) (y : RV) (Q : RVK) : RVK := fun z M3 => match z with
  | .bl k => (k = true → tc σ M3 fun w M4 => rr' y w M4 Q) ∧ (k = false → Q (.bl false) M3)
  | _ => False
theorem do_var {i : Nat} {v : RV} (e : σ[i]? = some (some v)) (h : Q v M) : rVar i σ M Q := by unfold rVar; rw [e]; exact h
theorem do_c {v : RV} (h : Q v M) : rC v σ M Q := h
theorem do_op (h : ta σ M fun x M1 => tb σ M1 fun y M2 => rr x y M2 Q) : rOp rr ta tb σ M Q := h
theorem do_un {g : RV → RM → RVK → Prop} (h : ta σ M fun x M1 => g x M1 Q) : rUn g ta σ M Q := h
theorem do_chain (h : ta σ M fun x M1 => tb σ M1 fun y M2 => rr x y M2 (kCh rr' tc σ y Q)) : rChain rr rr' ta tb tc σ M Q := h
theorem do_kchT {y : RV} (h : tc σ M fun w M4 => rr' y w M4 Q) : kCh rr' tc σ y Q (.bl true) M := ⟨fun _ => h, fun z => (by cases z)⟩
theorem do_kchF {y : RV} (h : Q (.bl false) M) : kCh rr' tc σ y Q (.bl false) M := ⟨fun z => (by cases z), fun _ => h⟩
theorem do_test (h : ta σ M (kTest QT)) : rTest ta σ M QT := h
theorem do_ktest {k : Bool} (h : QT k M) : kTest QT (.bl k) M := h
theorem do_and (h : tA σ M (kIf (fun M1 => tB σ M1 QT) (fun M1 => QT false M1))) : rAnd tA tB σ M QT := h
theorem do_or (h : tA σ M (kIf (fun M1 => QT true M1) (fun M1 => tB σ M1 QT))) : rOr tA tB σ M QT := h
theorem do_not (h : tA σ M fun c M1 => QT (!c) M1) : rNot tA σ M QT := h
theorem do_if (h : tA σ M (kIf (fun M1 => ta σ M1 Q) (fun M1 => tb σ M1 Q))) : rIf tA ta tb σ M Q := h
theorem do_ifs {D : RD} (h : tA σ M (kIf (fun M1 => t D σ M1) (fun M1 => u D σ M1))) : rIfS tA t u D σ M := h
theorem do_kT {A B : RM → Prop} (h : A M) : kIf A B true M := ⟨fun _ => h, fun z => (by cases z)⟩
theorem do_kF {A B : RM → Prop} (h : B M) : kIf A B false M := ⟨fun z => (by cases z), fun _ => h⟩
theorem do_kT' {A B : RM → Prop} {x : Bool} (e : x = true) (h : A M) : kIf A B x M := by subst e; exact do_kT h
theorem do_kF' {A B : RM → Prop} {x : Bool} (e : x = false) (h : B M) : kIf A B x M := by subst e; exact do_kF h
theorem do_kB {A B : RM → Prop} {x : Bool} (h1 : x = true → A M) (h2 : x = false → B M) : kIf A B x M := ⟨h1, h2⟩
theorem do_norm {P : RSt → RM → Prop} {l : RSt} {i : Nat} {v : Option RV} {σ' : RSt} (e : l.set i v = σ') (h : P σ' M) : P (l.set i v) M := by subst e; exact h
theorem do_normU {P : RSt → RM → Prop} {l : RSt} {is : List Nat} {vs : List RV} {σ' : RSt} (e : setAll l is vs = σ') (h : P σ' M) : P (setAll l is vs) M := by subst e; exact h
theorem do_knT {A B : RM → Prop} (h : B M) : kIf A B (!true) M := do_kF h
theorem do_knF {A B : RM → Prop} (h : A M) : kIf A B (!false) M := do_kT h
theorem neqF {x : RV} (e : eqR x x = true) : (!eqR x x) = false := by rw [e]; rfl
theorem do_nil (h : QA [] M) : rNil σ M QA := h
theorem do_cons (h : ta σ M fun x M1 => tr σ M1 fun xs M2 => QA (x :: xs) M2) : rCons ta tr σ M QA := h
theorem do_tup (h : tr σ M fun rs M1 => rs.length ≤ sizeLine ∧ Q (.tup rs) M1) : rTup tr σ M Q := h
theorem do_lsf (h : tr σ M fun rs M1 => rs.length ≤ sizeLine ∧ Q (.ls rs) M1) : rLsF tr σ M Q := h
theorem do_lst (h : tr σ M fun rs M1 => rs.length ≤ sizeLine ∧ ∀ p, M1 p = none → Q (.ref p) (put M1 p (.lst rs))) : rLst tr σ M Q := h
theorem do_size {rs : List RV} {P : Prop} (e : Nat.ble rs.length 1000 = true) (h : P) : rs.length ≤ sizeLine ∧ P := ⟨Nat.le_trans (Nat.le_of_ble_eq_true e) (by decide), h⟩
theorem do_call {f : List RV → RM → RVK → Prop} (h : tr σ M fun rs M1 => f rs M1 Q) : rCall f tr σ M Q := h
theorem do_next : n σ M → rNext ⟨n, r, b, c⟩ σ M := fun h => h
theorem do_break : b σ M → rBreak ⟨n, r, b, c⟩ σ M := fun h => h
theorem do_cont : c σ M → rCont ⟨n, r, b, c⟩ σ M := fun h => h
theorem do_seq (h : t ⟨u ⟨n, r, b, c⟩, r, b, c⟩ σ M) : rSeq t u ⟨n, r, b, c⟩ σ M := h
theorem do_set {i : Nat} (h : ta σ M fun x M1 => n (σ.set i (some x)) M1) : rSet i ta ⟨n, r, b, c⟩ σ M := h
theorem do_ret (h : ta σ M r) : rRet ta ⟨n, r, b, c⟩ σ M := h
theorem do_retN (h : r .non M) : rRetN ⟨n, r, b, c⟩ σ M := h
theorem do_drop (h : ta σ M fun _ M1 => n σ M1) : rDrop ta ⟨n, r, b, c⟩ σ M := h
theorem do_asg {g : RTG} (h : ta σ M fun x M1 => g x σ M1 n) : rAsg ta g ⟨n, r, b, c⟩ σ M := h
theorem do_gN {i : Nat} {x : RV} (h : N (σ.set i (some x)) M) : rgN i x σ M N := h
theorem do_gU {is : List Nat} {xs : List RV} (e : xs.length = is.length) (h : N (setAll σ is xs) M) : rgU is (.tup xs) σ M N := ⟨e, h⟩
theorem do_gSub {to ti : RTE} {g : RTSet} {v : RV} (h : to σ M fun o M1 => ti σ M1 fun i M2 => g o i v M2 fun M3 => N σ M3) : rgSub to ti g v σ M N := h
theorem do_forI {ti : RTI} {g : RTG} (h : ti σ M fun xs M1 => rForL g t ⟨n, r, b, c⟩ xs σ M1) : rForI ti g t ⟨n, r, b, c⟩ σ M := h
theorem do_itS (h : ta σ M (kItS QA)) : rItS ta σ M QA := h
theorem do_kits_t {xs : List RV} (h : QA xs M) : kItS QA (.tup xs) M := h
theorem do_kits_l {xs : List RV} (h : QA xs M) : kItS QA (.ls xs) M := h
theorem do_itR (h : ta σ M fun v M1 => rRngI QA [v] M1) : rItR ta σ M QA := h
theorem do_rng {k : Int} (h0 : -(2 ^ 62) ≤ k) (h1 : k < 2 ^ 62) (h : QA (nums k.toNat) M) : rRngI QA [.int k] M := ⟨h0, h1, h⟩
theorem do_forNil {g : RTG} (h : n σ M) : rForL g t ⟨n, r, b, c⟩ [] σ M := h
theorem do_forCons {g : RTG} {x : RV} {xs : List RV} (h : g x σ M fun σ2 M2 => t ⟨rForL g t ⟨n, r, b, c⟩ xs, r, n, rForL g t ⟨n, r, b, c⟩ xs⟩ σ2 M2) : rForL g t ⟨n, r, b, c⟩ (x :: xs) σ M := h
theorem do_comp {ti : RTI} {cap : List Nat} (h : ti σ M fun xs M1 => xs.length < sizeLine ∧ rCompL tA ta (cap.map fun i => (σ[i]?).join) xs [] M1 Q) : rComp ti cap tA ta σ M Q := h
theorem do_compNil {base : List (Option RV)} {acc : List RV} (h : Q (.ls acc) M) : rCompL tA ta base [] acc M Q := h
theorem do_compYes {base : List (Option RV)} {acc : List RV} {x : RV} {xs : List RV} (h : ta (some x :: base) M fun v M2 => rCompL rYes ta base xs (acc ++ [v]) M2 Q) : rCompL rYes ta base (x :: xs) acc M Q := ⟨fun _ => h, fun z => (by cases z)⟩
theorem do_compT {base : List (Option RV)} {acc : List RV} {x : RV} {xs : List RV} (h : tA (some x :: base) M (kIf (fun M1 => ta (some x :: base) M1 fun v M2 => rCompL tA ta base xs (acc ++ [v]) M2 Q) (fun M1 => rCompL tA ta base xs acc M1 Q))) : rCompL tA ta base (x :: xs) acc M Q := h
theorem do_sl {tl th : RTO} (h : ta σ M fun x M1 => tl σ M1 fun l M2 => th σ M2 fun u M3 => rSlc x l u M3 Q) : rSl ta tl th σ M Q := h
theorem do_noP (h : QO none M) : rNoP σ M QO := h
theorem do_part (h : ta σ M (kPart QO)) : rPart ta σ M QO := h
theorem do_kpart {i : Int} (h : QO (some i) M) : kPart QO (.int i) M := h
theorem do_slT {xs : List RV} {lo hi : Option Int} (h : Q (.tup (cutR xs lo hi)) M) : rSlc (.tup xs) lo hi M Q := h
theorem do_slL {xs : List RV} {lo hi : Option Int} (h : Q (.ls (cutR xs lo hi)) M) : rSlc (.ls xs) lo hi M Q := h
theorem do_int0 {g : Int → Int → RV} {i j : Int} (h : Q (g i j) M) : rInt0 g (.int i) (.int j) M Q := h
theorem do_addI {i j : Int} (h : Q (.int (i + j)) M) : R.rAdd (.int i) (.int j) M Q := h
theorem do_addT {xs ys : List RV} (e : Nat.ble (xs.length + ys.length) 1000 = true) (h : Q (.tup (xs ++ ys)) M) : R.rAdd (.tup xs) (.tup ys) M Q := ⟨Nat.le_trans (Nat.le_of_ble_eq_true e) (by decide), h⟩
theorem do_addL {xs ys : List RV} (e : Nat.ble (xs.length + ys.length) 1000 = true) (h : Q (.ls (xs ++ ys)) M) : R.rAdd (.ls xs) (.ls ys) M Q := ⟨Nat.le_trans (Nat.le_of_ble_eq_true e) (by decide), h⟩
theorem do_eq {x y : RV} (e1 : okR 16 x = true) (e2 : okR 16 y = true) (h : Q (.bl (eqR x y)) M) : rEqq x y M Q := ⟨e1, e2, h⟩
theorem do_ne {x y : RV} (e1 : okR 16 x = true) (e2 : okR 16 y = true) (h : Q (.bl (!eqR x y)) M) : rNeq x y M Q := ⟨e1, e2, h⟩
theorem do_is {x : RV} (h : Q (.bl (isN x)) M) : rIs x .non M Q := h
theorem do_isnot {x : RV} (h : Q (.bl (!isN x)) M) : rIsNot x .non M Q := h
theorem do_ixT {xs : List RV} {i : Int} (h : kAt Q M (atI xs i)) : R.rIx (.tup xs) (.int i) M Q := h
theorem do_ixL {xs : List RV} {i : Int} (h : kAt Q M (atI xs i)) : R.rIx (.ls xs) (.int i) M Q := h
theorem do_kat {o : Option RV} {v : RV} (e : o = some v) (h : Q v M) : kAt Q M o := by subst e; exact h
theorem do_len_t {xs : List RV} (h : Q (.int xs.length) M) : rLen [.tup xs] M Q := h
theorem do_len_l {xs : List RV} (h : Q (.int xs.length) M) : rLen [.ls xs] M Q := h
theorem do_tuple_l {xs : List RV} (h : Q (.tup xs) M) : rTuple [.ls xs] M Q := h
theorem do_tuple_t {xs : List RV} (h : Q (.tup xs) M) : rTuple [.tup xs] M Q := h
theorem do_isi {T : String} {test : RV → Option Bool} {x : RV} {b : Bool} (e : test x = some b) (h : Q (.bl b) M) : rIsi T test [x, .ty T] M Q := by
  refine ⟨rfl, ?_⟩; rw [e]; exact h
def kTab (kvs : List (Key × RV)) (Q : RVK) : RVK := fun k M1 => match keyR k with
  | some key => (match lookK kvs key with | some v => Q v M1 | none => False)
  | none => False
theorem do_tab {kvs : List (Key × RV)} (h : ta σ M (kTab kvs Q)) : rTab kvs ta σ M Q := h
end
end R
set_option Elab.async false
set_option linter.all false
set_option maxRecDepth 100000
set_option maxHeartbeats 1000000
namespace R
open PySem PySem.Spec PyProof.Rows L2
theorem any_den {h : Heap} {e : Value → Bool} {p : RV → Bool} : ∀ {xs : List RV} {us : List Value}, Dens h xs us → (∀ x ∈ xs, ∀ u, Den h x u → e u = p x) → us.any e = xs.any p
  | [], us, d, _ => by simp only [Dens] at d; subst d; rfl
  | x :: xs, us, d, k => by
    simp only [Dens] at d
    obtain ⟨u, r, rfl, d1, d2⟩ := d
    rw [List.any_cons, List.any_cons, k x List.mem_cons_self u d1, any_den d2 fun y hy => k y (List.mem_cons_of_mem _ hy)]
theorem mem_den {h : Heap} : ∀ {xs : List RV} {us : List Value}, Dens h xs us → ∀ u ∈ us, ∃ x ∈ xs, Den h x u
  | [], us, d, u, hu => by simp only [Dens] at d; subst d; cases hu
  | x :: xs, us, d, u, hu => by
    simp only [Dens] at d
    obtain ⟨w, r, rfl, d1, d2⟩ := d
    rcases List.mem_cons.mp hu with rfl | hu
    · exact ⟨x, List.mem_cons_self, d1⟩
    · obtain ⟨y, hy, dy⟩ := mem_den d2 u hu
      exact ⟨y, List.mem_cons_of_mem _ hy, dy⟩
open Classical in
noncomputable def eqD (h : Heap) (a : RV) (w : Value) : Bool := if q : ∃ r, okR 15 r = true ∧ Den h r w then eqR (choose q) a else false
theorem eqD_of {h : Heap} {a x : RV} {u : Value} (o : okR 15 x = true) (d : Den h x u) : eqD h a u = eqR x a := by
  have q : ∃ r, okR 15 r = true ∧ Den h r u := ⟨x, o, d⟩
  unfold eqD
  rw [dif_pos q]
  have e := den_inj 15 _ x u (Classical.choose_spec q).1 o (Classical.choose_spec q).2 d
  rw [e]
def inR (x : RV) (xs : List RV) : Bool := xs.any fun y => eqR y x
def rIn2 (neg : Bool) : RR2 := fun x y M Q => match y with
  | .tup xs => okR 15 x = true ∧ xs.all (okR 15) = true ∧ Q (.bl (if neg then !inR x xs else inR x xs)) M
  | .ls xs => okR 15 x = true ∧ xs.all (okR 15) = true ∧ Q (.bl (if neg then !inR x xs else inR x xs)) M
  | _ => False
section
variable {X : Cx}
theorem den_items {s : Shared} {A : Around} {xs : List RV} {its : List Value} {a : RV} {v : Value} (hu : A.units + 15 < cLine) (os : xs.all (okR 15) = true) (oa : okR 15 a = true) (d : Dens s.heap xs its) (da : Den s.heap a v) :
    (∀ w, w ∈ its.toArray → SeqAt.EqAt A s w v (eqD s.heap a w)) ∧ its.toArray.any (eqD s.heap a) = inR a xs := by
  have os' : ∀ x ∈ xs, okR 15 x = true := by simpa [List.all_eq_true] using os
  refine ⟨fun w hw => ?_, ?_⟩
  · obtain ⟨x, hx, dx⟩ := mem_den d w (by simpa using hw)
    rw [eqD_of (os' x hx) dx]
    exact eqAt_den 15 x a A s w v (os' x hx) oa dx da hu
  · rw [show its.toArray.any (eqD s.heap a) = its.any (eqD s.heap a) by simp]
    exact any_den d fun x hx u du => eqD_of (os' x hx) du
theorem ok_up {xs : List RV} (os : xs.all (okR 15) = true) : okR 16 (.tup xs) = true ∧ okR 16 (.ls xs) = true := ⟨os, os⟩
theorem oin (hu : X.A.units + 64 < cLine) : ROp X (compareOp .In) (rIn2 false) := by
  intro pins s σ H x y v u Q0 I rx ry h
  obtain ⟨a, b, M, Q, ra, rb, hv, hq, hk⟩ := h
  cases b with
  | tup xs =>
    obtain ⟨oa, os, hq⟩ := hq
    have d := den_of I 16 (.tup xs) y u (ok_up os).1 rb ry
    simp only [Den] at d
    obtain ⟨p, its, rfl, ht, ds⟩ := d
    have z := den_items (A := X.A.in1) (by rw [in1_units]; omega) os oa ds (den_of I 15 a x v oa ra rx)
    refine SeqAt.in_tupleAt _ ht z.1 ⟨.bl (inR a xs), H, I, by rw [z.2]; rfl, hk _ M _ H hq (.refl H) hv (by simp only [Rep]; rfl)⟩
  | ls xs =>
    obtain ⟨oa, os, hq⟩ := hq
    have d := den_of I 16 (.ls xs) y u (ok_up os).2 rb ry
    simp only [Den] at d
    obtain ⟨p, its, rfl, ht, ds⟩ := d
    have z := den_items (A := X.A.in1) (by rw [in1_units]; omega) os oa ds (den_of I 15 a x v oa ra rx)
    refine SeqAt.in_listAt _ ht z.1 ⟨.bl (inR a xs), H, I, by rw [z.2]; rfl, hk _ M _ H hq (.refl H) hv (by simp only [Rep]; rfl)⟩
  | _ => exact (show False from hq).elim
def rLtS : RR2 := fun x y M Q => match x, y with | .str i, .str j => Q (.bl (decide (i.cps.toList < j.cps.toList))) M | _, _ => False
def rGtS : RR2 := fun x y M Q => match x, y with | .str i, .str j => Q (.bl (decide (j.cps.toList < i.cps.toList))) M | _, _ => False
def rOrd : List RV → RM → RVK → Prop := fun rs M Q => match rs with
  | [.str x] => x.length = 1 ∧ Q (.int (x.cps.getD 0 0 : Nat)) M
  | _ => False
end
end R
set_option Elab.async false
set_option linter.all false
set_option maxRecDepth 100000
set_option maxHeartbeats 1000000
namespace R
open PySem PySem.Spec PyProof.Rows L2
section
variable {X : Cx}
def signsR (x : Str) : List RV := x.cps.toList.map fun c => .str ⟨#[c]⟩
def rItX (te : RTE) : RTI := fun σ M Q => te σ M fun v M1 => match v with | .str x => Q (signsR x) M1 | _ => False
end
end R
set_option Elab.async false
set_option linter.all false
set_option maxRecDepth 100000
set_option maxHeartbeats 1000000
namespace R
open PySem PySem.Spec PyProof.Rows L2
section
variable {X : Cx}
def rJoin (to : RTE) (t : RTA) : RTE := fun σ M Q => to σ M fun x M1 => match x with
  | .str z => t σ M1 fun rs M2 => ∃ ys : List Str, rs = [.ls (ys.map RV.str)] ∧ (ys.map (·.length)).sum + ys.length * z.length ≤ 16777216 ∧ Q (.str (Txt.join z ys)) M2
  | _ => False
def rApp (to : RTE) (t : RTA) : RTE := fun σ M Q => to σ M fun x M1 => match x with
  | .ref p => (∃ ys, M1 p = some (.lst ys)) ∧ t σ M1 fun rs M2 => ∃ ys y, rs = [y] ∧ M2 p = some (.lst ys) ∧ ys.length < sizeLine ∧ Q .non (put M2 p (.lst (ys ++ [y])))
  | _ => False
def rList : List RV → RM → RVK → Prop := fun rs M Q => match rs with
  | [.tup xs] => Q (.ls xs) M
  | [.ls xs] => Q (.ls xs) M
  | _ => False
def rCallV (fs : List (Addr × RSp)) (tx : RTE) (t : RTA) : RTE := fun σ M Q => tx σ M fun v M1 => match v with
  | .ref f => ∃ sp, (f, sp) ∈ fs ∧ t σ M1 fun rs M2 => sp rs M2 Q
  | _ => False
end
theorem RFn.at {P : Program} {w : World} {K : PySem.W.Frag} {mg : Str → Option Value} {base : Heap} {k : Nat} {x : Str} {ps : List Str} {sp : RSp} {f : Addr} (F : RFn P w K mg base k x ps sp) (hm : mg x = some (.ref f)) :
    ∃ fd, PySem.W.keepIn K (.ref f) = true ∧ Binds K fd ps [] ∧ FnOk P w K mg base CX0 k f fd ps (upSp K sp) := by
  obtain ⟨g, fd, hg, h1, h2, h3⟩ := F.ex
  have e := hm.symm.trans hg
  cases e
  exact ⟨fd, h1, h2, h3⟩
end R
set_option Elab.async false
set_option linter.all false
set_option maxRecDepth 100000
set_option maxHeartbeats 1000000
namespace R
open PySem PySem.Spec PyProof.Rows L2
section
variable {σ : RSt} {M : RM} {Q : RVK} {QA : List RV → RM → Prop} {ta tb : RTE} {tr : RTA}
def kAndV (tb : RTE) (σ : RSt) (Q : RVK) : RVK := fun x M1 => match x with | .bl c => (c = true → tb σ M1 Q) ∧ (c = false → Q (.bl false) M1) | _ => False
def kOrV (tb : RTE) (σ : RSt) (Q : RVK) : RVK := fun x M1 => match x with | .bl c => (c = true → Q (.bl true) M1) ∧ (c = false → tb σ M1 Q) | _ => False
def kNotV (Q : RVK) : RVK := fun x M1 => match x with | .bl c => Q (.bl (!c)) M1 | _ => False
theorem do_andv (h : ta σ M (kAndV tb σ Q)) : rAndV ta tb σ M Q := h
theorem do_orv (h : ta σ M (kOrV tb σ Q)) : rOrV ta tb σ M Q := h
theorem do_notv (h : ta σ M (kNotV Q)) : rNotV ta σ M Q := h
theorem do_knotv {c : Bool} (h : Q (.bl (!c)) M) : kNotV Q (.bl c) M := h
theorem do_kandT (h : tb σ M Q) : kAndV tb σ Q (.bl true) M := ⟨fun _ => h, fun z => (by cases z)⟩
theorem do_kandF (h : Q (.bl false) M) : kAndV tb σ Q (.bl false) M := ⟨fun z => (by cases z), fun _ => h⟩
theorem do_korT (h : Q (.bl true) M) : kOrV tb σ Q (.bl true) M := ⟨fun _ => h, fun z => (by cases z)⟩
theorem do_korF (h : tb σ M Q) : kOrV tb σ Q (.bl false) M := ⟨fun z => (by cases z), fun _ => h⟩
theorem do_inT {x : RV} {xs : List RV} (e1 : okR 15 x = true) (e2 : xs.all (okR 15) = true) (h : Q (.bl (inR x xs)) M) : rIn2 false x (.tup xs) M Q := ⟨e1, e2, h⟩
theorem do_ord {c : Nat} (h : Q (.int (c : Int)) M) : rOrd [.str ⟨#[c]⟩] M Q := ⟨rfl, h⟩
def kItX (Q : List RV → RM → Prop) : RVK := fun v M1 => match v with | .str x => Q (signsR x) M1 | _ => False
theorem do_itX (h : ta σ M (kItX QA)) : rItX ta σ M QA := h
theorem do_kitx {x : Str} (h : QA (signsR x) M) : kItX QA (.str x) M := h
theorem do_list_t {xs : List RV} (h : Q (.ls xs) M) : rList [.tup xs] M Q := h
theorem do_ltS {i j : Str} (h : Q (.bl (decide (i.cps.toList < j.cps.toList))) M) : rLtS (.str i) (.str j) M Q := h
theorem do_gtS {i j : Str} (h : Q (.bl (decide (j.cps.toList < i.cps.toList))) M) : rGtS (.str i) (.str j) M Q := h
def kCallV (fs : List (Addr × RSp)) (t : RTA) (σ : RSt) (Q : RVK) : RVK := fun v M1 => match v with
  | .ref f => ∃ sp, (f, sp) ∈ fs ∧ t σ M1 fun rs M2 => sp rs M2 Q
  | _ => False
theorem do_callV {fs : List (Addr × RSp)} (h : ta σ M (kCallV fs tr σ Q)) : rCallV fs ta tr σ M Q := h
def kTabIn (neg : Bool) (kvs : List (Key × RV)) (Q : RVK) : RVK := fun k M1 => match keyR k with
  | some key => Q (.bl (if neg then !(lookK kvs key).isSome else (lookK kvs key).isSome)) M1
  | none => False
theorem do_tabin {neg : Bool} {kvs : List (Key × RV)} (h : ta σ M (kTabIn neg kvs Q)) : rTabIn neg kvs ta σ M Q := h
theorem do_ktabnot {kvs : List (Key × RV)} {n : Str} (h : Q (.bl (!(lookK kvs (Sum.inr n)).isSome)) M) : kTabIn true kvs Q (.str n) M := h
theorem do_neg {i : Int} (h : Q (.int (-i)) M) : rgNeg (.int i) M Q := h
def kJoin (t : RTA) (σ : RSt) (Q : RVK) : RVK := fun x M1 => match x with
  | .str z => t σ M1 fun rs M2 => ∃ ys : List Str, rs = [.ls (ys.map RV.str)] ∧ (ys.map (·.length)).sum + ys.length * z.length ≤ 16777216 ∧ Q (.str (Txt.join z ys)) M2
  | _ => False
theorem do_join (h : ta σ M (kJoin tr σ Q)) : rJoin ta tr σ M Q := h
theorem do_kjoin {z : Str} (h : tr σ M fun rs M2 => ∃ ys : List Str, rs = [.ls (ys.map RV.str)] ∧ (ys.map (·.length)).sum + ys.length * z.length ≤ 16777216 ∧ Q (.str (Txt.join z ys)) M2) : kJoin tr σ Q (.str z) M := h
def kApp (t : RTA) (σ : RSt) (Q : RVK) : RVK := fun x M1 => match x with
  | .ref p => (∃ ys, M1 p = some (.lst ys)) ∧ t σ M1 fun rs M2 => ∃ ys y, rs = [y] ∧ M2 p = some (.lst ys) ∧ ys.length < sizeLine ∧ Q .non (put M2 p (.lst (ys ++ [y])))
  | _ => False
theorem do_append (h : ta σ M (kApp tr σ Q)) : rApp ta tr σ M Q := h
theorem forL_ix {g : RTG} {tb : RTS} {n b c : RSt → RM → Prop} {r : RVK} (J : Nat → RSt → RM → Prop) (p : RV → Prop) (L : Nat) (hs : ∀ i x σ M (N : RSt → RM → Prop), i < L → p x → J i σ M → (∀ σ' M', J (i + 1) σ' M' → N σ' M') → g x σ M fun σ2 M2 => tb ⟨N, r, n, N⟩ σ2 M2)
    (hd : ∀ σ M, J L σ M → n σ M) : ∀ (xs : List RV) (i : Nat), (∀ x ∈ xs, p x) → i + xs.length = L → ∀ σ M, J i σ M → rForL g tb ⟨n, r, b, c⟩ xs σ M
  | [], i, _, hl, σ, M, j => hd σ M (by have : i = L := by simpa using hl
                                        subst this; exact j)
  | x :: xs, i, hp, hl, σ, M, j => by
    have hl' : i + 1 + xs.length = L := by rw [List.length_cons] at hl; omega
    exact do_forCons (hs i x σ M _ (by omega) (hp x List.mem_cons_self) j fun σ' M' j' => forL_ix J p L hs hd xs (i + 1) (fun y hy => hp y (List.mem_cons_of_mem _ hy)) hl' σ' M' j')
end
end R
set_option Elab.async false
set_option linter.all false
set_option maxRecDepth 100000
set_option maxHeartbeats 1000000
namespace R
open PySem PySem.Spec PyProof.Rows L2
def okIs : Option Key → Value → Bool
  | none, .none => true
  | none, _ => false
  | some k, v => keyIs k v
def okH (w : World) : Option Key → Int
  | none => 0xFCA86420
  | some k => keyH w k
theorem okIs_shape : ∀ {k : Option Key} {v : Value}, okIs k v = true → (k = none ∧ v = Value.none) ∨ ∃ j, k = some j ∧ keyIs j v = true
  | none, v, h => by cases v <;> first | exact .inl ⟨rfl, rfl⟩ | (simp [okIs] at h)
  | some k, v, h => .inr ⟨k, rfl, h⟩
theorem keyIs_none {k : Key} : keyIs k Value.none = false := by cases k <;> rfl
section
variable {prog : Program} {w : World} {A : Around} {E : Value → Shared → Prop} {s : Shared}
theorem hash_none {Q : Int → Shared → Prop} (h : Q 0xFCA86420 { s with toks := s.toks + 1 }) : wpAny (model prog w) A (PySem.pyHash .none) Q E s := by
  have hT : s.TypeIs .none "NoneType" := rfl
  unfold PySem.pyHash
  have hv : [Value.none].any Value.onHeap = false := rfl
  refine wpAny_bind ?_
  rw [cRoomFor, if_neg (by rw [hv]; exact Bool.false_ne_true)]; refine wpAny_pure ?_
  refine wpAny_bind (wpAny_specialOf hT F.slot_NoneType_hash.lookup ?_)
  show wpAny _ _ (if (some (Value.builtin "NoneType.__hash__") == some Value.none) = true then _ else _) Q E s
  rw [if_neg (by rw [beq_builtin_none]; exact Bool.false_ne_true)]
  refine wpAny_bind (wpAny_specialOf hT F.slot_NoneType_hash.lookup ?_)
  show wpAny _ _ (callSpecialIfBoundUnlessNone? .none "__hash__" _ >>= _) Q E s
  refine wpAny_bind (wpAny_callSpecialIfBoundUnlessNone?_slot hT F.slot_NoneType_hash
    (wpAny_call_entry F.slot_NoneType_hash hT F.entry_NoneType_hash
      (show wpAny _ _ (do ret (← mkInt 0xFCA86420)) _ _ s from wpAny_ret_mkInt ?_) (F.args_NoneType_hash_1 _)))
  show wpAny _ _ (if (decide (-(2 : Int) ^ 63 ≤ 0xFCA86420) && decide ((0xFCA86420 : Int) < 2 ^ 63)) = true then _ else _) Q E _
  rw [if_pos (by decide)]
  exact wpAny_pure h
end
def optKind (prog : Program) (w : World) : PySem.KeyKind prog w (Option Key) where
  is := okIs
  hash := okH w
  inj := fun v a b ha hb => by
    rcases okIs_shape ha with ⟨rfl, rfl⟩ | ⟨j, rfl, hj⟩
    · rcases okIs_shape hb with ⟨rfl, _⟩ | ⟨i, rfl, hi⟩
      · rfl
      · rw [keyIs_none] at hi; cases hi
    · rcases okIs_shape hb with ⟨rfl, rfl⟩ | ⟨i, rfl, hi⟩
      · rw [keyIs_none] at hj; cases hj
      · rw [(mixKind prog w).inj v j i hj hi]
  byValue := fun k v h => by
    rcases okIs_shape h with ⟨rfl, rfl⟩ | ⟨j, rfl, hj⟩
    · rfl
    · exact (mixKind prog w).byValue j v hj
  pyHash := fun hv h => by
    rcases okIs_shape hv with ⟨rfl, rfl⟩ | ⟨j, rfl, hj⟩
    · exact hash_none h
    · exact (mixKind prog w).pyHash hj h
  eqBool := fun {A E s a b u v Q} hu hv h => by
    rcases okIs_shape hu with ⟨rfl, rfl⟩ | ⟨i, rfl, hi⟩
    · rcases okIs_shape hv with ⟨rfl, rfl⟩ | ⟨j, rfl, hj⟩
      · exact SeqAt.EqAt.same _ _ _ _ _ (by simpa using h)
      · have e : decide ((none : Option Key) = some j) = false := decide_eq_false (fun q => nomatch q)
        rw [e] at h
        rcases keyIs_shape hj with ⟨k, t, rfl, rfl⟩ | ⟨x, t, rfl, rfl⟩
        · exact SeqAt.EqAt.none_int k t _ _ _ _ h
        · exact SeqAt.EqAt.none_str x t _ _ _ _ h
    · rcases okIs_shape hv with ⟨rfl, rfl⟩ | ⟨j, rfl, hj⟩
      · have e : decide ((some i : Option Key) = none) = false := decide_eq_false (fun q => nomatch q)
        rw [e] at h
        rcases keyIs_shape hi with ⟨k, t, rfl, rfl⟩ | ⟨x, t, rfl, rfl⟩
        · exact SeqAt.EqAt.int_none k t _ _ _ _ h
        · exact SeqAt.EqAt.str_none x t _ _ _ _ h
      · have e : decide (some i = some j) = decide (i = j) := by
          by_cases q : i = j
          · subst q; simp
          · rw [decide_eq_false q, decide_eq_false fun z => q (Option.some.inj z)]
        rw [e] at h
        exact (mixKind prog w).eqBool hi hj h
  «strs» := fun k x t v h => by
    rcases okIs_shape h with ⟨rfl, e⟩ | ⟨j, rfl, hj⟩
    · cases e
    · exact (mixKind prog w).strs j x t v hj
section
variable {X : Cx}
def kTabNotN (kvs : List (Key × RV)) (Q : RVK) : RVK := fun k M1 => match k with
  | .non => Q (.bl true) M1
  | k => kTabIn true kvs Q k M1
def rTabNotN (kvs : List (Key × RV)) (te : RTE) : RTE := fun σ M Q => te σ M (kTabNotN kvs Q)
end
section
variable {σ : RSt} {M : RM} {Q : RVK} {ta : RTE}
theorem do_tabnotN {kvs : List (Key × RV)} (h : ta σ M (kTabNotN kvs Q)) : rTabNotN kvs ta σ M Q := h
end
end R
set_option Elab.async false
set_option linter.all false
set_option maxRecDepth 100000
set_option maxHeartbeats 4000000
namespace R
open PySem PySem.Spec PyProof.Rows L2
section
variable {prog : Program} {w : World} {A : Around} {E : Value → Shared → Prop} {s : Shared}
structure Apart (z T O i j l m : Addr) : Prop where
  ne : [z, T, O, i, j].Nodup
  src : l ∉ [z, O, i, j] ∧ m ∉ [z, O, i, j]
structure ZipSt (h : Heap) (z T O i j l m : Addr) (n : Nat) (xs ys : Array Value) (f : Value) : Prop where
  zp : IsZip h z T O f
  its : IsPair h T (.ref i) (.ref j)
  own : ∃ a b, IsPair h O a b
  it1 : h.IsTupleIter i l n
  it2 : h.IsListIter j m n
  src1 : h.IsTuple l xs
  src2 : h.IsList m ys
end
section
variable {X : Cx} {pins : List (Addr × Obj)} {σ : L2.St} {H : Hp} {s : Shared} {h' : Heap}
end
structure ZipTn (h : Heap) (z T O i j l m : Addr) (n : Nat) : Prop where
  zp : IsZip h z T O .none
  its : IsPair h T (.ref i) (.ref j)
  own : ∃ a b, IsPair h O a b
  it1 : h.IsTupleIter i l n
  it2 : h.IsListIter j m n
section
variable {X : Cx}
def zRs (Q : List RV → RM → Prop) : List RV → RM → Prop := fun rs M2 => match rs with
  | [.tup xs, .ls ys] => xs.length = ys.length ∧ Q ((xs.zip ys).map fun p => .tup [p.1, p.2]) M2
  | _ => False
def rItZ (t1 t2 : RTE) : RTI := fun σ M Q => rCons t1 (rCons t2 rNil) σ M (zRs Q)
def kItZ (Q : List RV → RM → Prop) (x : RV) : RVK := fun y M2 => zRs Q [x, y] M2
theorem do_itZ {t1 t2 : RTE} {σ : RSt} {M : RM} {Q : List RV → RM → Prop} (h : t1 σ M fun x M1 => t2 σ M1 (kItZ Q x)) : rItZ t1 t2 σ M Q := h
end
end R
set_option Elab.async false
set_option linter.all false
set_option maxRecDepth 100000
set_option maxHeartbeats 1000000
namespace R
open PySem PySem.Spec PyProof.Rows L2
section
variable {X : Cx}
section
variable {prog : Program} {w : World} {A : Around} {E : Value → Shared → Prop} {s : Shared} {z y : Str} {t u : Tok} {Q : Value → Shared → Prop}
open PySem.Builtin PySem.Builtin.Str in
theorem split_len (hsz : z.length + 2 ≤ sizeLine) : (Txt.split z y).length ≤ sizeLine := by
  have oc := StrLaws.occ_length_le z y 0 z.length (z.length + 1)
  unfold Txt.split
  split
  · exact Nat.le_trans (show 1 ≤ 2 by decide) (by omega)
  · split
    · exact Nat.le_trans (show 1 ≤ 2 by decide) (by omega)
    · rw [length_partsBetween]; omega
open PySem.Builtin PySem.Builtin.Str in
theorem split_new (hy : (y.length == 0) = false) (hsz : z.length + 2 ≤ sizeLine)
    (h : ∀ l k, l.map (fun p : Str × Tok => p.1) = Txt.split z y → Q (.ref s.heap.objs.size) { s with heap := s.heap.push { cls := .type "list", data := .seq (strValues l).toArray }, toks := k }) :
    wpAny (model prog w) A (call (.builtin "str.split") [.str z t, .str y u]) Q E s := by
  have oc := StrLaws.occ_length_le z y 0 z.length (z.length + 1)
  have sl := F.slot_str_split
  have ty : s.TypeIs (.str z t) "str" := typeIs_str s z t
  have en := F.entry_str_split
  have ar := F.args_str_split_2 (.str z t) (.str y u)
  by_cases c1 : (decide (z.length < y.length) || decide (strKind z < strKind y)) = true
  · refine call_meets sl ty en ar (meets_str_split_cannot_occur z y t u c1) ?_
    exact h [(z, t)] s.toks (by unfold Txt.split; rw [if_pos c1]; rfl)
  · have c1' := Bool.eq_false_iff.mpr c1
    by_cases c2 : (occurrences z y 0 z.length (z.length + 1)).isEmpty = true
    · refine call_meets sl ty en ar (meets_str_split_not_found z y t u c1' hy c2) ?_
      exact h [(z, t)] s.toks (by unfold Txt.split; rw [if_neg c1, if_pos c2]; rfl)
    · refine call_meets sl ty en ar (meets_str_split_sep z y t u c1' hy (Bool.eq_false_iff.mpr c2) (by omega) (by rw [length_partsBetween]; omega)) ?_
      have e := h (numbered s.toks (partsBetween z (occurrences z y 0 z.length (z.length + 1)) y.length)) (s.toks + (partsBetween z (occurrences z y 0 z.length (z.length + 1)) y.length).length) (by rw [numbered_texts]; unfold Txt.split; rw [if_neg c1, if_neg c2])
      rw [← strsFrom_eq] at e
      exact e
open PySem.Builtin PySem.Builtin.Str in
end
theorem vals_texts : ∀ (l : List (Str × Tok)), Vals ((l.map (fun p : Str × Tok => p.1)).map V.str) (strValues l)
  | [] => .nil
  | p :: r => .cons ⟨p.2, rfl⟩ (vals_texts r)
def mSplit : V → List V → Hp → VK → Prop := fun x vs H Q => ∃ z y, x = .str z ∧ vs = [.str y] ∧ (y.length == 0) = false ∧ z.length + 2 ≤ sizeLine ∧ ∀ p, H p = none → Q (.ref p) (upd H p (.lst ((Txt.split z y).map V.str)))
theorem mt_split : MtR X "str.split" mSplit := by
  intro pins s σ H x vs v us Q I rx rv h
  obtain ⟨z, y, rfl, rfl, hy, hz, q⟩ := h
  obtain ⟨t, rfl⟩ := rx
  obtain ⟨u, rfl, ru⟩ := rv.one
  obtain ⟨t2, rfl⟩ := ru
  refine split_new hy hz fun l k e => ?_
  have r := vals_texts l
  rw [e] at r
  refine ⟨.ref s.heap.objs.size, _, I.laid (fun b o e => Heap.get?_push_of_some _ e) (Nat.le_refl _) (show ObjOk X.prog X.w _ _ _ (.lst ((Txt.split z y).map V.str)) from ⟨by rw [List.length_map]; exact split_len hz, strValues l, 0, r, Heap.get?_push_size s.heap rfl⟩), rfl, q _ (I.hok.fresh (Nat.le_refl _))⟩
def kSplit (t : RTA) (σ : RSt) (Q : RVK) : RVK := fun x M1 => match x with
  | .str z => t σ M1 fun rs M2 => ∃ y, rs = [.str y] ∧ (y.length == 0) = false ∧ z.length + 2 ≤ sizeLine ∧ Q (.ls ((Txt.split z y).map RV.str)) M2
  | _ => False
def rSplit (to : RTE) (t : RTA) : RTE := fun σ M Q => to σ M (kSplit t σ Q)
theorem str_reps {K : PySem.W.Frag} {H : Hp} : ∀ (ys : List Str), Reps K H (ys.map RV.str) (ys.map V.str)
  | [] => Reps.nil
  | y :: r => Reps.cons (by simp only [Rep]) (str_reps r)
theorem rsplit {o e : Expr} {to : RTE} {t : RTA} {apos cpos : Pos} (ho : RPE X o to) (ha : RPA X [e] t)
    (hbase : attributeBase o "split" X.env (eval o X.env) = eval o X.env := by rfl)
    (hfew : ((backTo cpos (starEach [e] X.env)).all (fun x => !x.1) && (backToKw cpos (keywordEach [] X.env)).all (fun x => x.1.isSome) && decide ([e].length + ([] : List Keyword).length + (if ([] : List Keyword).isEmpty then 0 else 1) < 30)) = true := by rfl)
    (hline : (apos.endLine == cpos.line) = true := by rfl) (hs : starEach [e] X.env = (false, eval e X.env) :: starEach [] X.env := by rfl) (hplain : (backTo cpos (starEach [] X.env)).any (·.1) = false := by rfl) :
    RPE X (.Call (.Attribute o "split" apos) [e] [] cpos) (rSplit to t) := by
  intro pins s σ0 H Q0 I h
  refine thn (pe_bm PySem.F.plainAttrs_str PySem.F.slot_str_split PySem.F.type_str_split mt_split ho ha hbase hfew hline hs hplain pins s σ0 H (fun v H' => ∃ H1 p xs, v = .ref p ∧ H1 p = none ∧ H' = upd H1 p (.lst xs) ∧ ∀ o, Q0 (.ref p) (upd H1 p (.frz o (.lst xs)))) I ?_) fun _ _ e => frozen e
  obtain ⟨σ, M, Q, hs, hv, ht, hk⟩ := h
  refine ⟨σ, M, _, hs, hv, ht, fun rx M1 x H1 q e1 v1 r1 => ?_⟩
  cases rx with
  | str z =>
    simp only [Rep] at r1
    subst r1
    refine ⟨rfl, σ, M1, _, hs.ext e1, v1, q, fun rs M2 vs H2 q2 e2 v2 r2 => ?_⟩
    obtain ⟨y, rfl, hy, hz, q2⟩ := q2
    obtain ⟨v, rfl, r3⟩ := r2.one
    simp only [Rep] at r3
    subst r3
    refine ⟨z, y, rfl, rfl, hy, hz, fun p hp => ⟨H2, p, _, rfl, hp, rfl, fun o => ?_⟩⟩
    exact hk _ M2 _ _ q2 ((e1.trans e2).trans (Ext.new hp)) (v2.new hp) (rep_ls hp (str_reps _))
  | _ => exact (show False from q).elim
end
end R
set_option Elab.async false
set_option linter.all false
set_option maxRecDepth 100000
set_option maxHeartbeats 1000000
namespace R
open PySem PySem.Spec PyProof.Rows L2
abbrev TK := List (Option Key)
def okR1 : RV → Option (Option Key)
  | .non => some none
  | .int i => some (some (.inl i))
  | .str x => some (some (.inr x))
  | _ => none
def okRs : List RV → Option TK
  | [] => some []
  | r :: rs => match okR1 r, okRs rs with
    | some k, some ks => some (k :: ks)
    | _, _ => none
def keyT : RV → Option TK
  | .tup rs => okRs rs
  | _ => none
def lookT (kvs : List (TK × Str)) (k : TK) : RV := match kvs.find? fun p => decide (p.1 = k) with
  | some p => .str p.2
  | none => .non
def ValT : List (TK × Str) → List (TK × Addr × Value) → Prop
  | [], [] => True
  | (k, y) :: r, (k', _, v) :: r' => k = k' ∧ (∃ t, v = .str y t) ∧ ValT r r'
  | _, _ => False
theorem valT_look {k : TK} : ∀ {kvs : List (TK × Str)} {xs : List (TK × Addr × Value)}, ValT kvs xs →
    (∃ y t, lookT kvs k = .str y ∧ ((PySem.atKey xs k).map (·.2)).getD .none = .str y t) ∨ (lookT kvs k = .non ∧ ((PySem.atKey xs k).map (·.2)).getD .none = .none)
  | [], [], _ => .inr ⟨rfl, rfl⟩
  | (k1, y) :: r, (k', a, v) :: r', ⟨e, ⟨t, ev⟩, h⟩ => by
    subst e; subst ev
    by_cases q : k1 = k
    · subst q
      exact .inl ⟨y, t, by simp [lookT], by simp [PySem.atKey]⟩
    · have e1 : lookT ((k1, y) :: r) k = lookT r k := by simp [lookT, q]
      have e2 : PySem.atKey ((k1, a, Value.str y t) :: r') k = PySem.atKey r' k := by simp [PySem.atKey, q]
      rw [e1, e2]
      exact valT_look h
structure KTabT (P : Program) (w : World) (K : PySem.W.Frag) (mg : Str → Option Value) (x : Str) (kvs : List (TK × Str)) : Prop where
  ex : ∃ a xs, mg x = some (.ref a) ∧ (a == sysModules) = false ∧ (∀ h : Heap, K.In h → h.DictOfH (tupleKind (optKind P w)) a xs) ∧ ValT kvs xs
theorem ktabT_mk {P : Program} {w : World} {K : PySem.W.Frag} {mg : Str → Option Value} {x : Str} {a : Addr} {es : Array DictEntry} {ep : Nat} {sl : Array (Option Value)} {xs : List (TK × Addr × Value)} {kvs : List (TK × Str)}
    (hm : mg x = some (.ref a)) (l : K.lookup a = some ⟨.type "dict", none, .dict es ep, sl⟩) (ha : (a == sysModules) = false) (hsl : Obj.ExactDict ⟨.type "dict", none, .dict es ep, sl⟩)
    (he : es.toList = xs.map (entryOfKey (tupleKind (optKind P w)))) (hi : ∀ y ∈ xs, ∃ o items n, K.lookup y.2.1 = some o ∧ o.cls = .type "tuple" ∧ o.data = .seq items n ∧ ItemsAre (optKind P w) y.1 items.toList)
    (hn : (xs.map (·.1)).Nodup) (hv : ValT kvs xs) : KTabT P w K mg x kvs :=
  ⟨a, xs, hm, ha, fun h X => ⟨_, es, ep, X _ _ l, hsl, rfl, he, fun y hy => by
    obtain ⟨o, items, n, h1, h2, h3, h4⟩ := hi y hy
    exact ⟨o, items, n, X _ _ h1, h2, h3, h4⟩, hn⟩, hv⟩
theorem ok_items {P : Program} {w : World} {K : PySem.W.Frag} {H : Hp} : ∀ {rs : List RV} {ks : TK} {vs : List V} {its : List Value}, okRs rs = some ks → Reps K H rs vs → Vals vs its → ItemsAre (optKind P w) ks its
  | [], ks, vs, its, e, r, v => by
    cases e
    simp only [Reps] at r
    subst r
    cases v
    exact .nil
  | r :: rs, ks, vs, its, e, hr, v => by
    obtain ⟨x, xs, rfl, h1, h2⟩ := (by simpa only [Reps] using hr : ∃ v r', vs = v :: r' ∧ Rep K H r v ∧ Reps K H rs r')
    cases v with
    | cons v1 v2 =>
      rename_i u its'
      simp only [okRs] at e
      cases e1 : okR1 r with
      | none => rw [e1] at e; cases e
      | some k =>
        cases e2 : okRs rs with
        | none => rw [e1, e2] at e; cases e
        | some ks' =>
          rw [e1, e2] at e
          cases e
          refine .cons ?_ (ok_items e2 h2 v2)
          cases r with
          | non =>
            cases e1
            have : x = .non := by simpa only [Rep] using h1
            subst this
            cases (show u = Value.none from v1)
            rfl
          | int i =>
            cases e1
            have : x = .int i := by simpa only [Rep] using h1
            subst this
            exact kV_is (P := P) (w := w) (k := .inl i) v1
          | str y =>
            cases e1
            have : x = .str y := by simpa only [Rep] using h1
            subst this
            exact kV_is (P := P) (w := w) (k := .inr y) v1
          | _ => cases e1
section
variable {X : Cx}
def kTabGet (kvs : List (TK × Str)) (Q : RVK) : RVK := fun k M1 => match keyT k with
  | some ks => Q (lookT kvs ks) M1
  | none => False
def rTabGet (kvs : List (TK × Str)) (te : RTE) : RTE := fun σ M Q => te σ M (kTabGet kvs Q)
theorem rtabget {x : Str} {kvs : List (TK × Str)} {e : Expr} {te : RTE} {p apos cpos : Pos} (hu : X.A.units + 1 < cLine) (T : KTabT X.prog X.w X.K X.mg x kvs) (he : RPE X e te) (m : M1 X (.Name x p) "get" apos e cpos := by exact ⟨rfl, rfl, rfl, rfl⟩)
    (hg : Gl X x := by rfl) (hd : (x == ("__debug__" : Str)) = false := by decide) : RPE X (.Call (.Attribute (.Name x p) "get" apos) [e] [] cpos) (rTabGet kvs te) := by
  obtain ⟨a, xs, hm, ha, hD, hk⟩ := T.ex
  intro pins s σ0 H Q0 I h
  obtain ⟨σ, M, Q, hs', hv, ht, hq⟩ := h
  have d0 := hD _ I.kIn
  refine wpAny_Call_method m.base m.few m.line PySem.F.plainAttrs_dict PySem.F.slot_dict_get PySem.F.type_dict_get (ld_glob I hg hm ⟨d0.typeIs, fun b q => ?_, ?_⟩ hd)
  · cases q
    obtain ⟨ob, _, _, h1, h2, _⟩ := d0
    exact ⟨ob, h1, h2.2.1⟩
  rw [m.trees]
  refine Calls.callWith_builtin rfl (Calls.evalArgs_plain (Calls.spliced_cons (thn (he pins s σ0 H (fun v H1 => ∃ r M1, Rep X.K H1 r v ∧ Ext H H1 ∧ View X.K H1 M1 ∧ kTabGet kvs Q r M1) I ⟨σ, M, _, hs', hv, ht, fun r M1 v H1 q e w r1 => ⟨r, M1, r1, e, w, q⟩⟩)
    fun iv s2 ⟨y, H2, I2, ry, r, M2, rr, e2, w2, q2⟩ => Calls.spliced_nil ?_)))
  unfold kTabGet at q2
  cases ek : keyT r with
  | none => rw [ek] at q2; exact q2.elim
  | some ks =>
    rw [ek] at q2
    simp only at q2
    cases r with
    | tup rs =>
      obtain ⟨b, vs, rfl, hS, hR⟩ := (by simpa only [Rep] using rr : ∃ a vs, y = .ref a ∧ SqT X.K H2 a vs ∧ Reps X.K H2 rs vs)
      cases (show iv = Value.ref b from ry)
      obtain ⟨its, hV, ⟨o, h1, h2, n, h3⟩, _⟩ := I2.tuple hS
      have key : IsTupleKey (optKind X.prog X.w) s2.heap ks b := ⟨o, its.toArray, n, h1, h2, h3, by simpa using ok_items ek hR hV⟩
      have dd := hD _ I2.kIn
      rcases valT_look (k := ks) hk with ⟨z, t, e1, e2'⟩ | ⟨e1, e2'⟩
      · refine call_meetsIn PySem.F.slot_dict_get dd.typeIs PySem.F.entry_dict_get (PySem.F.args_dict_get_2 _ _) (meetsH_dict_get (tupleKind (optKind X.prog X.w)) a b ha) ⟨tupleKind_room_in1 hu, ks, xs, key, dd, .str z, H2, I2.tok _, by rw [e2']; exact ⟨t, rfl⟩, ?_⟩
        exact hq _ M2 _ H2 q2 e2 w2 (by rw [e1]; simp only [Rep])
      · refine call_meetsIn PySem.F.slot_dict_get dd.typeIs PySem.F.entry_dict_get (PySem.F.args_dict_get_2 _ _) (meetsH_dict_get (tupleKind (optKind X.prog X.w)) a b ha) ⟨tupleKind_room_in1 hu, ks, xs, key, dd, .non, H2, I2.tok _, by rw [e2']; rfl, ?_⟩
        exact hq _ M2 _ H2 q2 e2 w2 (by rw [e1]; simp only [Rep])
    | _ => cases ek
end
section
variable {σ : RSt} {M : RM} {Q : RVK} {ta : RTE}
theorem do_tabget {kvs : List (TK × Str)} (h : ta σ M (kTabGet kvs Q)) : rTabGet kvs ta σ M Q := h
theorem do_ktabget {kvs : List (TK × Str)} {rs : List RV} {ks : TK} (e : okRs rs = some ks) (h : Q (lookT kvs ks) M) : kTabGet kvs Q (.tup rs) M := by
  show (match okRs rs with | some ks => Q (lookT kvs ks) M | none => False)
  rw [e]; exact h
end
end R
set_option Elab.async false
set_option linter.all false
set_option maxRecDepth 100000
namespace K01
open PySem PySem.Spec PyProof.Rows L2 R
def top (i : Nat) : Stmt := PySem.Challenge.pw_lentgate_k01_words_lead_states.main.body.getD i (.Pass ⟨0, 0, 0, 0⟩)
abbrev s_note_state : Stmt := top 3
abbrev N_note_state : List Str := ["state", "word"]
theorem sc_note_state : FnScope N_note_state ["state", "word"] (defScope s_note_state) := ⟨rfl, rfl, rfl, by decide +kernel, rfl, by decide +kernel, by decide +kernel⟩
theorem no_note_state : NameOk N_note_state (defScope s_note_state) := ⟨by decide +kernel, by decide +kernel, by decide +kernel⟩
abbrev s_line_state : Stmt := top 4
abbrev N_line_state : List Str := ["state", "side", "word"]
theorem sc_line_state : FnScope N_line_state ["state", "side", "word"] (defScope s_line_state) := ⟨rfl, rfl, rfl, by decide +kernel, rfl, by decide +kernel, by decide +kernel⟩
theorem no_line_state : NameOk N_line_state (defScope s_line_state) := ⟨by decide +kernel, by decide +kernel, by decide +kernel⟩
theorem gl_line_state_BREAKABLE : (defScope s_line_state).names.lookup ("BREAKABLE" : Str) = some .globalImplicit := by decide +kernel
theorem gl_line_state_LINE_STEPS : (defScope s_line_state).names.lookup ("LINE_STEPS" : Str) = some .globalImplicit := by decide +kernel
abbrev s__law_cell : Stmt := top 7
abbrev N__law_cell : List Str := ["script", "k"]
theorem sc__law_cell : FnScope N__law_cell ["script", "k"] (defScope s__law_cell) := ⟨rfl, rfl, rfl, by decide +kernel, rfl, by decide +kernel, by decide +kernel⟩
theorem no__law_cell : NameOk N__law_cell (defScope s__law_cell) := ⟨by decide +kernel, by decide +kernel, by decide +kernel⟩
theorem gl__law_cell_len : (defScope s__law_cell).names.lookup ("len" : Str) = some .globalImplicit := by decide +kernel
abbrev s__law_well : Stmt := top 8
abbrev N__law_well : List Str := ["cell", "turn"]
theorem sc__law_well : FnScope N__law_well ["cell", "turn"] (defScope s__law_well) := ⟨rfl, rfl, rfl, by decide +kernel, rfl, by decide +kernel, by decide +kernel⟩
theorem no__law_well : NameOk N__law_well (defScope s__law_well) := ⟨by decide +kernel, by decide +kernel, by decide +kernel⟩
abbrev s__law_take : Stmt := top 9
abbrev N__law_take : List Str := ["bag", "many", "p", "n", "found"]
theorem sc__law_take : FnScope N__law_take ["bag", "many"] (defScope s__law_take) := ⟨rfl, rfl, rfl, by decide +kernel, rfl, by decide +kernel, by decide +kernel⟩
theorem no__law_take : NameOk N__law_take (defScope s__law_take) := ⟨by decide +kernel, by decide +kernel, by decide +kernel⟩
abbrev s__law_step : Stmt := top 10
abbrev N__law_step : List Str := ["kind", "state", "side", "word", "rows", "row", "one"]
theorem sc__law_step : FnScope N__law_step ["kind", "state", "side", "word"] (defScope s__law_step) := ⟨rfl, rfl, rfl, by decide +kernel, rfl, by decide +kernel, by decide +kernel⟩
theorem no__law_step : NameOk N__law_step (defScope s__law_step) := ⟨by decide +kernel, by decide +kernel, by decide +kernel⟩
abbrev s_next_state : Stmt := top 5
abbrev N_next_state : List Str := ["kind", "state", "side", "word"]
theorem sc_next_state : FnScope N_next_state ["kind", "state", "side", "word"] (defScope s_next_state) := ⟨rfl, rfl, rfl, by decide +kernel, rfl, by decide +kernel, by decide +kernel⟩
theorem no_next_state : NameOk N_next_state (defScope s_next_state) := ⟨by decide +kernel, by decide +kernel, by decide +kernel⟩
theorem gl_next_state_line_state : (defScope s_next_state).names.lookup ("line_state" : Str) = some .globalImplicit := by decide +kernel
theorem gl_next_state_note_state : (defScope s_next_state).names.lookup ("note_state" : Str) = some .globalImplicit := by decide +kernel
abbrev s_law : Stmt := top 11
abbrev N_law : List Str := ["script", "kind", "cell", "state", "bag", "due", "turn", "side", "word", "found", "wanted"]
theorem sc_law : FnScope N_law ["script"] (defScope s_law) := ⟨rfl, rfl, rfl, by decide +kernel, rfl, by decide +kernel, by decide +kernel⟩
theorem no_law : NameOk N_law (defScope s_law) := ⟨by decide +kernel, by decide +kernel, by decide +kernel⟩
theorem gl_law__law_cell : (defScope s_law).names.lookup ("_law_cell" : Str) = some .globalImplicit := by decide +kernel
theorem gl_law__law_step : (defScope s_law).names.lookup ("_law_step" : Str) = some .globalImplicit := by decide +kernel
theorem gl_law__law_take : (defScope s_law).names.lookup ("_law_take" : Str) = some .globalImplicit := by decide +kernel
theorem gl_law__law_well : (defScope s_law).names.lookup ("_law_well" : Str) = some .globalImplicit := by decide +kernel
theorem gl_law_isinstance : (defScope s_law).names.lookup ("isinstance" : Str) = some .globalImplicit := by decide +kernel
theorem gl_law_next_state : (defScope s_law).names.lookup ("next_state" : Str) = some .globalImplicit := by decide +kernel
theorem gl_law_range : (defScope s_law).names.lookup ("range" : Str) = some .globalImplicit := by decide +kernel
theorem gl_law_str : (defScope s_law).names.lookup ("str" : Str) = some .globalImplicit := by decide +kernel
theorem db_BREAKABLE : (("BREAKABLE" : Str) == ("__debug__" : Str)) = false := by decide +kernel
theorem nn_BREAKABLE : ("BREAKABLE" : Str) ≠ "__name__" := by decide +kernel
theorem db_LINE_STEPS : (("LINE_STEPS" : Str) == ("__debug__" : Str)) = false := by decide +kernel
theorem nn_LINE_STEPS : ("LINE_STEPS" : Str) ≠ "__name__" := by decide +kernel
theorem db__law_cell : (("_law_cell" : Str) == ("__debug__" : Str)) = false := by decide +kernel
theorem nn__law_cell : ("_law_cell" : Str) ≠ "__name__" := by decide +kernel
theorem db__law_step : (("_law_step" : Str) == ("__debug__" : Str)) = false := by decide +kernel
theorem nn__law_step : ("_law_step" : Str) ≠ "__name__" := by decide +kernel
theorem db__law_take : (("_law_take" : Str) == ("__debug__" : Str)) = false := by decide +kernel
theorem nn__law_take : ("_law_take" : Str) ≠ "__name__" := by decide +kernel
theorem db__law_well : (("_law_well" : Str) == ("__debug__" : Str)) = false := by decide +kernel
theorem nn__law_well : ("_law_well" : Str) ≠ "__name__" := by decide +kernel
theorem db_isinstance : (("isinstance" : Str) == ("__debug__" : Str)) = false := by decide +kernel
theorem nn_isinstance : ("isinstance" : Str) ≠ "__name__" := by decide +kernel
theorem db_len : (("len" : Str) == ("__debug__" : Str)) = false := by decide +kernel
theorem nn_len : ("len" : Str) ≠ "__name__" := by decide +kernel
theorem db_line_state : (("line_state" : Str) == ("__debug__" : Str)) = false := by decide +kernel
theorem nn_line_state : ("line_state" : Str) ≠ "__name__" := by decide +kernel
theorem db_next_state : (("next_state" : Str) == ("__debug__" : Str)) = false := by decide +kernel
theorem nn_next_state : ("next_state" : Str) ≠ "__name__" := by decide +kernel
theorem db_note_state : (("note_state" : Str) == ("__debug__" : Str)) = false := by decide +kernel
theorem nn_note_state : ("note_state" : Str) ≠ "__name__" := by decide +kernel
def TAB : List (TK × Str) := [([some (.inr "house"), none, some (.inr "open")], "asked"), ([some (.inr "house"), some (.inr "asked"), some (.inr "open")], "asked"), ([some (.inr "house"), some (.inr "called"), some (.inr "open")], "up"), ([some (.inr "house"), some (.inr "up"), some (.inr "say")], "up"), ([some (.inr "house"), some (.inr "far"), some (.inr "say")], "far"), ([some (.inr "house"), some (.inr "up"), some (.inr "close")], "near"), ([some (.inr "house"), some (.inr "far"), some (.inr "close")], "shut"), ([some (.inr "far"), none, some (.inr "open")], "called"), ([some (.inr "far"), some (.inr "called"), some (.inr "open")], "called"), ([some (.inr "far"), some (.inr "asked"), some (.inr "open")], "up"), ([some (.inr "far"), some (.inr "up"), some (.inr "say")], "up"), ([some (.inr "far"), some (.inr "near"), some (.inr "say")], "near"), ([some (.inr "far"), some (.inr "up"), some (.inr "close")], "far"), ([some (.inr "far"), some (.inr "near"), some (.inr "close")], "shut")]

structure Txt (P : Program) (w : World) (K : PySem.W.Frag) (mg : Str → Option Value) : Prop where
  b_isinstance : mg "isinstance" = none
  b_len : mg "len" = none
  b_range : mg "range" = none
  b_str : mg "str" = none
  c_BREAKABLE : TupC K mg "BREAKABLE" ["asked", "called", "up", "near", "far"]
  c_LINE_STEPS : KTabT P w K mg "LINE_STEPS" TAB
section
variable {P : Program} {w : World} {K : PySem.W.Frag} {mg : Str → Option Value} {base : Heap}
local macro_rules | `(tactic| walk_at "rs1") => `(tactic| first | ((with_reducible refine' do_norm ?_ ?_); rotate_left; simp only [List.set_cons_succ, List.set_cons_zero]; exact rfl) | ((with_reducible refine' do_normU ?_ ?_); rotate_left; simp only [setAll, List.set_cons_succ, List.set_cons_zero]; exact rfl) | ((with_reducible refine' do_var ?_ ?_); rotate_left; exact rfl) | with_reducible refine do_c ?_ | with_reducible refine do_tab ?_ | with_reducible refine do_op ?_ | with_reducible refine do_seq ?_ | with_reducible refine do_set ?_ | with_reducible refine do_cons ?_ | with_reducible refine do_nil ?_ | with_reducible refine do_call ?_ | with_reducible refine do_ifs ?_ | with_reducible refine do_test ?_ | with_reducible refine do_ktest ?_ | with_reducible refine do_kT ?_ | with_reducible refine do_kF ?_ | with_reducible refine do_knT ?_ | with_reducible refine do_knF ?_ | with_reducible refine do_and ?_ | with_reducible refine do_or ?_ | with_reducible refine do_not ?_ | with_reducible refine do_if ?_ | with_reducible refine do_un ?_ | with_reducible refine do_chain ?_ | with_reducible refine do_kchT ?_ | with_reducible refine do_kchF ?_ | with_reducible refine do_tup ?_ | with_reducible refine do_lsf ?_ | with_reducible refine do_lst ?_ | ((with_reducible refine' do_size ?_ ?_); exact rfl) | with_reducible refine do_next ?_ | with_reducible refine do_ret ?_ | with_reducible refine do_retN ?_ | with_reducible refine do_drop ?_ | with_reducible refine do_asg ?_ | with_reducible refine do_gN ?_ | ((with_reducible refine' do_gU ?_ ?_); exact rfl) | with_reducible refine do_gSub ?_ | with_reducible refine do_forI ?_ | with_reducible refine do_itS ?_ | with_reducible refine do_kits_t ?_ | with_reducible refine do_kits_l ?_ | with_reducible refine do_itR ?_ | with_reducible refine do_forNil ?_ | with_reducible refine do_forCons ?_ | with_reducible refine do_comp ?_ | with_reducible refine do_split ?_ | with_reducible refine do_ksplit ?_ | with_reducible refine do_tabget ?_ | with_reducible refine do_compNil ?_ | with_reducible refine do_compYes ?_ | with_reducible refine do_compT ?_ | with_reducible refine do_sl ?_ | with_reducible refine do_noP ?_ | with_reducible refine do_part ?_ | with_reducible refine do_kpart ?_ | with_reducible refine do_slT ?_ | with_reducible refine do_slL ?_ | with_reducible refine do_int0 ?_ | with_reducible refine do_addI ?_ | ((with_reducible refine' do_addT ?_ ?_); exact rfl) | ((with_reducible refine' do_addL ?_ ?_); exact rfl) | ((with_reducible refine' do_eq ?_ ?_ ?_); exact rfl; exact rfl) | ((with_reducible refine' do_ne ?_ ?_ ?_); exact rfl; exact rfl) | with_reducible refine do_is ?_ | with_reducible refine do_isnot ?_ | with_reducible refine do_ixT ?_ | with_reducible refine do_ixL ?_ | with_reducible refine do_len_t ?_ | with_reducible refine do_len_l ?_ | with_reducible refine do_tuple_l ?_ | with_reducible refine do_tuple_t ?_ | ((with_reducible refine' do_isi ?_ ?_); rotate_left; exact rfl) | with_reducible refine do_break ?_ | with_reducible refine do_cont ?_ | with_reducible refine do_andv ?_ | with_reducible refine do_orv ?_ | with_reducible refine do_notv ?_ | with_reducible refine do_knotv ?_ | with_reducible refine do_kandT ?_ | with_reducible refine do_kandF ?_ | with_reducible refine do_korT ?_ | with_reducible refine do_korF ?_ | with_reducible refine do_ord ?_ | with_reducible refine do_itX ?_ | with_reducible refine do_kitx ?_ | with_reducible refine do_list_t ?_ | with_reducible refine do_ltS ?_ | with_reducible refine do_gtS ?_ | with_reducible refine do_callV ?_ | with_reducible refine do_tabin ?_ | with_reducible refine do_tabnotN ?_ | with_reducible refine do_ktabnot ?_ | with_reducible refine do_neg ?_ | with_reducible refine do_join ?_ | with_reducible refine do_kjoin ?_ | with_reducible refine do_append ?_ | with_reducible refine do_itZ ?_)
local macro_rules | `(tactic| walk_at "rs") => `(tactic| (repeat walk_at "rs1"))
local macro_rules | `(tactic| walk_at "rd1") => `(tactic| first | ((with_reducible refine' do_norm ?_ ?_); rotate_left; simp only [List.set_cons_succ, List.set_cons_zero]; exact rfl) | ((with_reducible refine' do_normU ?_ ?_); rotate_left; simp only [setAll, List.set_cons_succ, List.set_cons_zero]; exact rfl) | ((with_reducible refine' do_var ?_ ?_); rotate_left; exact rfl) | with_reducible refine do_c ?_ | with_reducible refine do_tab ?_ | with_reducible refine do_op ?_ | with_reducible refine do_seq ?_ | with_reducible refine do_set ?_ | with_reducible refine do_cons ?_ | with_reducible refine do_nil ?_ | with_reducible refine do_call ?_ | with_reducible refine do_ifs ?_ | with_reducible refine do_test ?_ | with_reducible refine do_ktest ?_ | with_reducible refine do_kT ?_ | with_reducible refine do_kF ?_ | with_reducible refine do_knT ?_ | with_reducible refine do_knF ?_ | ((with_reducible refine' do_kT' ?_ ?_); exact rfl) | ((with_reducible refine' do_kF' ?_ ?_); exact rfl) | with_reducible refine do_and ?_ | with_reducible refine do_or ?_ | with_reducible refine do_not ?_ | with_reducible refine do_if ?_ | with_reducible refine do_un ?_ | with_reducible refine do_chain ?_ | with_reducible refine do_kchT ?_ | with_reducible refine do_kchF ?_ | with_reducible refine do_tup ?_ | with_reducible refine do_lsf ?_ | with_reducible refine do_lst ?_ | ((with_reducible refine' do_size ?_ ?_); exact rfl) | with_reducible refine do_next ?_ | with_reducible refine do_ret ?_ | with_reducible refine do_retN ?_ | with_reducible refine do_drop ?_ | with_reducible refine do_asg ?_ | with_reducible refine do_gN ?_ | ((with_reducible refine' do_gU ?_ ?_); exact rfl) | with_reducible refine do_gSub ?_ | with_reducible refine do_forI ?_ | with_reducible refine do_itS ?_ | with_reducible refine do_kits_t ?_ | with_reducible refine do_kits_l ?_ | with_reducible refine do_itR ?_ | with_reducible refine do_forNil ?_ | with_reducible refine do_forCons ?_ | with_reducible refine do_comp ?_ | with_reducible refine do_split ?_ | with_reducible refine do_ksplit ?_ | with_reducible refine do_tabget ?_ | with_reducible refine do_compNil ?_ | with_reducible refine do_compYes ?_ | with_reducible refine do_compT ?_ | with_reducible refine do_sl ?_ | with_reducible refine do_noP ?_ | with_reducible refine do_part ?_ | with_reducible refine do_kpart ?_ | with_reducible refine do_slT ?_ | with_reducible refine do_slL ?_ | with_reducible refine do_int0 ?_ | with_reducible refine do_addI ?_ | ((with_reducible refine' do_addT ?_ ?_); exact rfl) | ((with_reducible refine' do_addL ?_ ?_); exact rfl) | ((with_reducible refine' do_eq ?_ ?_ ?_); exact rfl; exact rfl) | ((with_reducible refine' do_ne ?_ ?_ ?_); exact rfl; exact rfl) | with_reducible refine do_is ?_ | with_reducible refine do_isnot ?_ | with_reducible refine do_ixT ?_ | with_reducible refine do_ixL ?_ | with_reducible refine do_len_t ?_ | with_reducible refine do_len_l ?_ | with_reducible refine do_tuple_l ?_ | with_reducible refine do_tuple_t ?_ | ((with_reducible refine' do_isi ?_ ?_); rotate_left; exact rfl) | with_reducible refine do_break ?_ | with_reducible refine do_cont ?_ | with_reducible refine do_andv ?_ | with_reducible refine do_orv ?_ | with_reducible refine do_notv ?_ | with_reducible refine do_knotv ?_ | with_reducible refine do_kandT ?_ | with_reducible refine do_kandF ?_ | with_reducible refine do_korT ?_ | with_reducible refine do_korF ?_ | with_reducible refine do_ord ?_ | with_reducible refine do_itX ?_ | with_reducible refine do_kitx ?_ | with_reducible refine do_list_t ?_ | with_reducible refine do_ltS ?_ | with_reducible refine do_gtS ?_ | with_reducible refine do_callV ?_ | with_reducible refine do_tabin ?_ | with_reducible refine do_tabnotN ?_ | with_reducible refine do_ktabnot ?_ | with_reducible refine do_neg ?_ | with_reducible refine do_join ?_ | with_reducible refine do_kjoin ?_ | with_reducible refine do_append ?_ | with_reducible refine do_itZ ?_)
local macro_rules | `(tactic| walk_at "rd") => `(tactic| (repeat walk_at "rd1"))
local macro_rules | `(tactic| walk_at "rf1") => `(tactic| first | ((with_reducible refine' do_norm ?_ ?_); rotate_left; simp only [List.set_cons_succ, List.set_cons_zero]; exact rfl) | ((with_reducible refine' do_normU ?_ ?_); rotate_left; simp only [setAll, List.set_cons_succ, List.set_cons_zero]; exact rfl) | ((with_reducible refine' do_var ?_ ?_); rotate_left; exact rfl) | with_reducible refine do_c ?_ | with_reducible refine do_tab ?_ | with_reducible refine do_op ?_ | with_reducible refine do_seq ?_ | with_reducible refine do_set ?_ | with_reducible refine do_cons ?_ | with_reducible refine do_nil ?_ | with_reducible refine do_call ?_ | with_reducible refine do_ifs ?_ | with_reducible refine do_test ?_ | with_reducible refine do_ktest ?_ | with_reducible refine do_kT ?_ | with_reducible refine do_kF ?_ | with_reducible refine do_knT ?_ | with_reducible refine do_knF ?_ | with_reducible refine do_and ?_ | with_reducible refine do_or ?_ | with_reducible refine do_not ?_ | with_reducible refine do_if ?_ | with_reducible refine do_un ?_ | with_reducible refine do_chain ?_ | with_reducible refine do_kchT ?_ | with_reducible refine do_kchF ?_ | with_reducible refine do_tup ?_ | with_reducible refine do_lsf ?_ | with_reducible refine do_lst ?_ | ((with_reducible refine' do_size ?_ ?_); exact rfl) | with_reducible refine do_next ?_ | with_reducible refine do_ret ?_ | with_reducible refine do_retN ?_ | with_reducible refine do_drop ?_ | with_reducible refine do_asg ?_ | with_reducible refine do_gN ?_ | ((with_reducible refine' do_gU ?_ ?_); exact rfl) | with_reducible refine do_gSub ?_ | with_reducible refine do_forI ?_ | with_reducible refine do_itS ?_ | with_reducible refine do_kits_t ?_ | with_reducible refine do_kits_l ?_ | with_reducible refine do_itR ?_ | with_reducible refine do_comp ?_ | with_reducible refine do_split ?_ | with_reducible refine do_ksplit ?_ | with_reducible refine do_tabget ?_ | with_reducible refine do_compNil ?_ | with_reducible refine do_compYes ?_ | with_reducible refine do_compT ?_ | with_reducible refine do_sl ?_ | with_reducible refine do_noP ?_ | with_reducible refine do_part ?_ | with_reducible refine do_kpart ?_ | with_reducible refine do_slT ?_ | with_reducible refine do_slL ?_ | with_reducible refine do_int0 ?_ | with_reducible refine do_addI ?_ | ((with_reducible refine' do_addT ?_ ?_); exact rfl) | ((with_reducible refine' do_addL ?_ ?_); exact rfl) | ((with_reducible refine' do_eq ?_ ?_ ?_); exact rfl; exact rfl) | ((with_reducible refine' do_ne ?_ ?_ ?_); exact rfl; exact rfl) | with_reducible refine do_is ?_ | with_reducible refine do_isnot ?_ | with_reducible refine do_ixT ?_ | with_reducible refine do_ixL ?_ | with_reducible refine do_len_t ?_ | with_reducible refine do_len_l ?_ | with_reducible refine do_tuple_l ?_ | with_reducible refine do_tuple_t ?_ | ((with_reducible refine' do_isi ?_ ?_); rotate_left; exact rfl) | with_reducible refine do_break ?_ | with_reducible refine do_cont ?_ | with_reducible refine do_andv ?_ | with_reducible refine do_orv ?_ | with_reducible refine do_notv ?_ | with_reducible refine do_knotv ?_ | with_reducible refine do_kandT ?_ | with_reducible refine do_kandF ?_ | with_reducible refine do_korT ?_ | with_reducible refine do_korF ?_ | with_reducible refine do_ord ?_ | with_reducible refine do_itX ?_ | with_reducible refine do_kitx ?_ | with_reducible refine do_list_t ?_ | with_reducible refine do_ltS ?_ | with_reducible refine do_gtS ?_ | with_reducible refine do_callV ?_ | with_reducible refine do_tabin ?_ | with_reducible refine do_tabnotN ?_ | with_reducible refine do_ktabnot ?_ | with_reducible refine do_neg ?_ | with_reducible refine do_join ?_ | with_reducible refine do_kjoin ?_ | with_reducible refine do_append ?_ | with_reducible refine do_itZ ?_)
local macro_rules | `(tactic| walk_at "rf") => `(tactic| (repeat walk_at "rf1"))
local macro_rules | `(tactic| walk_at "rg1") => `(tactic| first | ((with_reducible refine' do_norm ?_ ?_); rotate_left; simp only [List.set_cons_succ, List.set_cons_zero]; exact rfl) | ((with_reducible refine' do_normU ?_ ?_); rotate_left; simp only [setAll, List.set_cons_succ, List.set_cons_zero]; exact rfl) | ((with_reducible refine' do_var ?_ ?_); rotate_left; exact rfl) | with_reducible refine do_c ?_ | with_reducible refine do_tab ?_ | with_reducible refine do_op ?_ | with_reducible refine do_seq ?_ | with_reducible refine do_set ?_ | with_reducible refine do_cons ?_ | with_reducible refine do_nil ?_ | with_reducible refine do_call ?_ | with_reducible refine do_ifs ?_ | with_reducible refine do_test ?_ | with_reducible refine do_ktest ?_ | with_reducible refine do_kT ?_ | with_reducible refine do_kF ?_ | with_reducible refine do_knT ?_ | with_reducible refine do_knF ?_ | ((with_reducible refine' do_kT' ?_ ?_); exact rfl) | ((with_reducible refine' do_kF' ?_ ?_); exact rfl) | with_reducible refine do_and ?_ | with_reducible refine do_or ?_ | with_reducible refine do_not ?_ | with_reducible refine do_if ?_ | with_reducible refine do_un ?_ | with_reducible refine do_chain ?_ | with_reducible refine do_kchT ?_ | with_reducible refine do_kchF ?_ | with_reducible refine do_tup ?_ | with_reducible refine do_lsf ?_ | with_reducible refine do_lst ?_ | ((with_reducible refine' do_size ?_ ?_); exact rfl) | with_reducible refine do_next ?_ | with_reducible refine do_ret ?_ | with_reducible refine do_retN ?_ | with_reducible refine do_drop ?_ | with_reducible refine do_asg ?_ | with_reducible refine do_gN ?_ | ((with_reducible refine' do_gU ?_ ?_); exact rfl) | with_reducible refine do_gSub ?_ | with_reducible refine do_forI ?_ | with_reducible refine do_itS ?_ | with_reducible refine do_kits_t ?_ | with_reducible refine do_kits_l ?_ | with_reducible refine do_itR ?_ | with_reducible refine do_comp ?_ | with_reducible refine do_split ?_ | with_reducible refine do_ksplit ?_ | with_reducible refine do_tabget ?_ | with_reducible refine do_compNil ?_ | with_reducible refine do_compYes ?_ | with_reducible refine do_compT ?_ | with_reducible refine do_sl ?_ | with_reducible refine do_noP ?_ | with_reducible refine do_part ?_ | with_reducible refine do_kpart ?_ | with_reducible refine do_slT ?_ | with_reducible refine do_slL ?_ | with_reducible refine do_int0 ?_ | with_reducible refine do_addI ?_ | ((with_reducible refine' do_addT ?_ ?_); exact rfl) | ((with_reducible refine' do_addL ?_ ?_); exact rfl) | ((with_reducible refine' do_eq ?_ ?_ ?_); exact rfl; exact rfl) | ((with_reducible refine' do_ne ?_ ?_ ?_); exact rfl; exact rfl) | with_reducible refine do_is ?_ | with_reducible refine do_isnot ?_ | with_reducible refine do_ixT ?_ | with_reducible refine do_ixL ?_ | with_reducible refine do_len_t ?_ | with_reducible refine do_len_l ?_ | with_reducible refine do_tuple_l ?_ | with_reducible refine do_tuple_t ?_ | ((with_reducible refine' do_isi ?_ ?_); rotate_left; exact rfl) | with_reducible refine do_break ?_ | with_reducible refine do_cont ?_ | with_reducible refine do_andv ?_ | with_reducible refine do_orv ?_ | with_reducible refine do_notv ?_ | with_reducible refine do_knotv ?_ | with_reducible refine do_kandT ?_ | with_reducible refine do_kandF ?_ | with_reducible refine do_korT ?_ | with_reducible refine do_korF ?_ | with_reducible refine do_ord ?_ | with_reducible refine do_itX ?_ | with_reducible refine do_kitx ?_ | with_reducible refine do_list_t ?_ | with_reducible refine do_ltS ?_ | with_reducible refine do_gtS ?_ | with_reducible refine do_callV ?_ | with_reducible refine do_tabin ?_ | with_reducible refine do_tabnotN ?_ | with_reducible refine do_ktabnot ?_ | with_reducible refine do_neg ?_ | with_reducible refine do_join ?_ | with_reducible refine do_kjoin ?_ | with_reducible refine do_append ?_ | with_reducible refine do_itZ ?_)
local macro_rules | `(tactic| walk_at "rg") => `(tactic| (repeat walk_at "rg1"))
/-- the bag: a list of three ints, drawn on at most n times -/
def BagO (o : RO) (n : Int) : Prop := ∃ x y t : Int, o = .lst [.int x, .int y, .int t] ∧ 0 ≤ x ∧ 0 ≤ y ∧ y < 2305843009213693951 ∧ 0 ≤ t ∧ t ≤ n
def Bag (M : RM) (b : Addr) (n : Int) : Prop := ∃ o, M b = some o ∧ BagO o n
theorem Bag.put {M : RM} {b : Addr} {o : RO} {n : Int} (h : BagO o n) : Bag (put M b o) b n := ⟨o, put_same, h⟩
theorem BagO.mono {o : RO} {m n : Int} (h : BagO o m) (l : m ≤ n) : BagO o n := by
  obtain ⟨x, y, t, e, h1, h2, h3, h4, h5⟩ := h
  exact ⟨x, y, t, e, h1, h2, h3, h4, Int.le_trans h5 l⟩
theorem small64 {i : Int} (h0 : 0 ≤ i) (h1 : i < 18446744073709551616) : i.natAbs < 2 ^ 64 := by
  have : (2 : Nat) ^ 64 = 18446744073709551616 := by decide
  omega
theorem cmul_left {i j : Int} (h0 : -18446744073709551616 < i) (h1 : i < 18446744073709551616) : CMul i j := .inl ⟨h0, h1⟩
theorem szl {n : Nat} (h : n ≤ 1000 := by first | decide | (simp only [List.length_cons, List.length_nil, List.length_append]; decide)) : n ≤ sizeLine := Nat.le_trans h (by decide)
theorem at0 {a : RV} {r : List RV} : atI (a :: r) 0 = some a := atI_nat (j := 0) rfl
theorem at1 {a b : RV} {r : List RV} : atI (a :: b :: r) 1 = some b := atI_nat (j := 1) rfl
theorem at2 {a b c : RV} {r : List RV} : atI (a :: b :: c :: r) 2 = some c := atI_nat (j := 2) rfl
theorem ix0 {n : Nat} : ixN (n + 1) 0 = some 0 := by unfold ixN; rw [if_pos (by omega), if_pos (by omega)]; rfl
theorem ix2 {n : Nat} : ixN (n + 3) 2 = some 2 := by unfold ixN; rw [if_pos (by omega), if_pos (by omega)]; rfl
/-- an item of a written list at a drawn place -/
theorem at_some {xs : List RV} {i : Int} (h0 : 0 ≤ i) (h1 : i < xs.length) : ∃ v, atI xs i = some v ∧ v ∈ xs := by
  obtain ⟨j, rfl⟩ := Int.eq_ofNat_of_zero_le h0
  have hj : j < xs.length := by omega
  exact ⟨xs[j], atI_nat (by simp [hj]), List.getElem_mem hj⟩
theorem at_eq {xs : List RV} {i : Int} {v : RV} {P : RV → Prop} (e : atI xs i = some v) (h : P v) : (match atI xs i with | some v => P v | none => False) := by rw [e]; exact h
theorem lk_here {α : Type} {k : Key} {v : α} {r : List (Key × α)} : lookK ((k, v) :: r) k = some v := by unfold lookK; rw [List.find?_cons, decide_eq_true rfl]; rfl
theorem lk_next {α : Type} {j k : Key} {v : α} {r : List (Key × α)} (h : ¬ j = k) : lookK ((j, v) :: r) k = lookK r k := by unfold lookK; rw [List.find?_cons, decide_eq_false h]
theorem lk_eq {kvs : List (Key × RV)} {k : Key} {v : RV} {P : RV → Prop} (e : lookK kvs k = some v) (h : P v) : (match lookK kvs k with | some v => P v | none => False) := by rw [e]; exact h
theorem ne_inr {a b : Str} (h : ¬ a = b) : ¬ (Sum.inr a : Key) = Sum.inr b := fun e => h (Sum.inr.inj e)
theorem rif_any {t : RTT} {ta tb : RTE} {σ : RSt} {M : RM} {Q : RVK} (p : RV → Prop) (h : ∀ v, p v → Q v M) (ht : ∀ Q' : Bool → RM → Prop, (∀ c, Q' c M) → t σ M Q') (ha : ∀ Q' : RVK, (∀ v, p v → Q' v M) → ta σ M Q') (hb : ∀ Q' : RVK, (∀ v, p v → Q' v M) → tb σ M Q') : rIf t ta tb σ M Q :=
  ht _ fun c => ⟨fun _ => ha Q h, fun _ => hb Q h⟩
theorem forL_inv {g : RTG} {tb : RTS} {D : RD} (J : RSt → RM → Prop) (p : RV → Prop) : ∀ (xs : List RV), (∀ x ∈ xs, p x) → (∀ x σ M (N : RSt → RM → Prop), p x → J σ M → (∀ σ' M', J σ' M' → N σ' M') → g x σ M fun σ2 M2 => tb { D with nx := N, ct := N, bk := D.nx } σ2 M2) →
    (∀ σ M, J σ M → D.nx σ M) → ∀ σ M, J σ M → rForL g tb D xs σ M
  | [], _, _, hd, σ, M, j => hd σ M j
  | x :: r, hp, hs, hd, σ, M, j => hs x σ M _ (hp x List.mem_cons_self) j fun σ' M' j' => forL_inv J p r (fun y hy => hp y (List.mem_cons_of_mem _ hy)) hs hd σ' M' j'
/-- what a reading wants of an item at a drawn place -/
theorem at_do {xs : List RV} {i : Int} {P : RV → Prop} (h0 : 0 ≤ i) (h1 : i < xs.length) (h : ∀ v ∈ xs, P v) : (match atI xs i with | some v => P v | none => False) := by
  obtain ⟨v, e, m⟩ := at_some h0 h1
  rw [e]
  exact h v m
def wholeR : RV → Option Bool
  | .int _ => some true
  | .bl _ => some false
  | .non => some false
  | .str _ => some false
  | .tup _ => some false
  | .ls _ => some false
  | _ => none
def AllI (lo hi : Int) : List RV → Prop
  | [] => True
  | .int k :: r => (lo ≤ k ∧ k ≤ hi) ∧ AllI lo hi r
  | _ :: _ => False
def AllS (p : Str → Prop) : List RV → Prop
  | [] => True
  | .str k :: r => p k ∧ AllS p r
  | _ :: _ => False
theorem allI_mem {lo hi : Int} : ∀ {xs : List RV}, AllI lo hi xs → ∀ v ∈ xs, ∃ k : Int, v = .int k ∧ lo ≤ k ∧ k ≤ hi
  | x :: r, h, v, m => by
    cases x with
    | int k =>
      rcases List.mem_cons.mp m with rfl | m
      · exact ⟨k, rfl, h.1.1, h.1.2⟩
      · exact allI_mem h.2 v m
    | _ => exact (show False from h).elim
theorem allS_mem {p : Str → Prop} : ∀ {xs : List RV}, AllS p xs → ∀ v ∈ xs, ∃ k : Str, v = .str k ∧ p k
  | x :: r, h, v, m => by
    cases x with
    | str k =>
      rcases List.mem_cons.mp m with rfl | m
      · exact ⟨k, rfl, h.1⟩
      · exact allS_mem h.2 v m
    | _ => exact (show False from h).elim
theorem at_ints (lo hi : Int) {xs : List RV} {i : Int} {P : RV → Prop} (h0 : 0 ≤ i) (h : ∀ k : Int, lo ≤ k → k ≤ hi → P (.int k)) (h1 : i < xs.length := by (simp only [List.length_cons, List.length_nil]; omega)) (ha : AllI lo hi xs := by (simp only [AllI, and_true]; omega)) : (match atI xs i with | some v => P v | none => False) :=
  at_do h0 h1 fun v hv => by obtain ⟨k, rfl, a, b⟩ := allI_mem ha v hv; exact h k a b
theorem at_strs (p : Str → Prop) {xs : List RV} {i : Int} {P : RV → Prop} (h0 : 0 ≤ i) (ha : AllS p xs) (h : ∀ k : Str, p k → P (.str k)) (h1 : i < xs.length := by (simp only [List.length_cons, List.length_nil]; omega)) : (match atI xs i with | some v => P v | none => False) :=
  at_do h0 h1 fun v hv => by obtain ⟨k, rfl, a⟩ := allS_mem ha v hv; exact h k a
theorem nums3 : R.nums (Int.toNat 3) = [.int 0, .int 1, .int 2] := rfl
theorem nums5 : R.nums (Int.toNat 5) = [.int 0, .int 1, .int 2, .int 3, .int 4] := rfl

def stR : Option Str → RV
  | none => .non
  | some x => .str x
def STS : List (Option Str) := [none, some "note", some "asked", some "called", some "up", some "near", some "far", some "shut"]
def SIDES : List Str := ["house", "far"]
def WORDS : List Str := ["open", "say", "close", "break"]
def noteO (st : Option Str) (word : Str) : Option Str := if word = "say" ∧ (st = none ∨ st = some ("note" : Str)) then some "note" else none
def brkO (st : Option Str) : Option Str := if st = some ("asked" : Str) ∨ st = some ("called" : Str) ∨ st = some ("up" : Str) ∨ st = some ("near" : Str) ∨ st = some ("far" : Str) then some "shut" else none
def tabO (st : Option Str) (side word : Str) : Option Str := (TAB.find? fun p => decide (p.1 = [some (.inr side), st.map .inr, some (.inr word)])).map (·.2)
def lineO (st : Option Str) (side word : Str) : Option Str := if word = "break" then brkO st else tabO st side word
def nextO (kind : Str) (st : Option Str) (side word : Str) : Option Str := if kind = "note" then noteO st word else lineO st side word
def RWS : List (List Str) := [["house", "open", "-", "asked"], ["house", "open", "asked", "asked"], ["house", "open", "called", "up"], ["house", "say", "up", "up"], ["house", "say", "far", "far"], ["house", "close", "up", "near"], ["house", "close", "far", "shut"], ["far", "open", "-", "called"], ["far", "open", "called", "called"], ["far", "open", "asked", "up"], ["far", "say", "up", "up"], ["far", "say", "near", "near"], ["far", "close", "up", "far"], ["far", "close", "near", "shut"]]
def hitO (st : Option Str) (side word : Str) (r : List Str) : Bool := decide (r.getD 0 "" = side) && decide (r.getD 1 "" = word) && decide (r.getD 2 "" = st.getD "-")
def rowO (st : Option Str) (side word : Str) : Option Str := (RWS.find? (hitO st side word)).map fun r => r.getD 3 ""
def stepO (kind : Str) (st : Option Str) (side word : Str) : Option Str := if kind = "note" then noteO st word else if word = "break" then brkO st else rowO st side word
theorem line_same : ∀ st ∈ STS, ∀ side ∈ SIDES, ∀ word ∈ WORDS, tabO st side word = rowO st side word := by decide +kernel
theorem line_in : ∀ st ∈ STS, ∀ side ∈ SIDES, ∀ word ∈ WORDS, lineO st side word ∈ STS := by decide +kernel
theorem next_same {kind : Str} {st : Option Str} {side word : Str} (h1 : st ∈ STS) (h2 : side ∈ SIDES) (h3 : word ∈ WORDS) : stepO kind st side word = nextO kind st side word := by
  unfold stepO nextO lineO
  rw [line_same st h1 side h2 word h3]
theorem lookT_tab {side word : Str} {st : Option Str} : lookT TAB [some (.inr side), st.map .inr, some (.inr word)] = stR (tabO st side word) := by
  unfold lookT tabO
  cases TAB.find? fun p => decide (p.1 = [some (.inr side), st.map .inr, some (.inr word)]) <;> rfl

section
variable {σ : RSt} {M : RM} {Q : RVK}
theorem do_split {to : RTE} {t : RTA} (h : to σ M (kSplit t σ Q)) : rSplit to t σ M Q := h
theorem do_ksplit {t : RTA} {z : Str} (h : t σ M fun rs M2 => ∃ y, rs = [.str y] ∧ (y.length == 0) = false ∧ z.length + 2 ≤ sizeLine ∧ Q (.ls ((Txt.split z y).map RV.str)) M2) : kSplit t σ Q (.str z) M := h
end
theorem noteO_no {st : Option Str} {word : Str} (h : ¬ word = "say") : noteO st word = none := if_neg fun e => h e.1
theorem noteO_non : noteO none "say" = some "note" := if_pos ⟨rfl, .inl rfl⟩
theorem noteO_note : noteO (some "note") "say" = some "note" := if_pos ⟨rfl, .inr rfl⟩
theorem noteO_other {x : Str} (h : ¬ x = "note") : noteO (some x) "say" = none := if_neg fun e => e.2.elim (fun z => by cases z) fun z => h (Option.some.inj z)
theorem of_eqS {a b : Str} (h : eqR (.str a) (.str b) = true) : a = b := by simpa [eqR] using h
theorem of_neS {a b : Str} (h : eqR (.str a) (.str b) = false) : ¬ a = b := by simpa [eqR] using h
theorem eqS_ne {a b : Str} (h : ¬ a = b) : eqR (.str a) (.str b) = false := by simpa [eqR] using h
theorem ok_stR {n : Nat} (st : Option Str) : okR (n + 1) (stR st) = true := by cases st <;> rfl
theorem in_brk {st : Option Str} : R.inR (stR st) ([.str "asked", .str "called", .str "up", .str "near", .str "far"] : List RV) = (brkO st).isSome := by
  unfold brkO
  cases st with
  | none => rfl
  | some x =>
    simp only [R.inR, eqR, stR, List.any_cons, List.any_nil, Bool.or_false, Option.some.injEq]
    by_cases h1 : x = "asked"
    · subst h1; simp
    by_cases h2 : x = "called"
    · subst h2; simp
    by_cases h3 : x = "up"
    · subst h3; simp
    by_cases h4 : x = "near"
    · subst h4; simp
    by_cases h5 : x = "far"
    · subst h5; simp
    have e : ∀ y : Str, ¬ x = y → ((y == x) = false) := fun y h => beq_eq_false_iff_ne.mpr fun z => h z.symm
    rw [e _ h1, e _ h2, e _ h3, e _ h4, e _ h5]
    simp [h1, h2, h3, h4, h5]
theorem in_brk' {st : Option Str} : R.inR (stR st) (List.map RV.str ["asked", "called", "up", "near", "far"]) = (brkO st).isSome := in_brk
theorem brk_some {st : Option Str} (h : (brkO st).isSome = true) : brkO st = some "shut" := by
  unfold brkO at h ⊢
  split <;> first | rfl | (rename_i z; rw [if_neg z] at h; cases h)
theorem brk_none {st : Option Str} (h : (brkO st).isSome = false) : brkO st = none := by
  cases e : brkO st with
  | none => rfl
  | some x => rw [e] at h; cases h
/-- a loop that may hand back -/
theorem forL_first {g : RTG} {tb : RTS} {n b c : RSt → RM → Prop} {r : RVK} {M : RM} (J : RSt → Prop) (p : RV → Prop) (hit : RV → Option RV)
    (hs : ∀ x σ (N : RSt → RM → Prop), p x → J σ → (∀ v, hit x = some v → r v M) → (hit x = none → ∀ σ', J σ' → N σ' M) → g x σ M fun σ2 M2 => tb ⟨N, r, n, N⟩ σ2 M2) :
    ∀ (xs : List RV), (∀ x ∈ xs, p x) → (∀ v, xs.findSome? hit = some v → r v M) → (xs.findSome? hit = none → ∀ σ', J σ' → n σ' M) → ∀ σ, J σ → rForL g tb ⟨n, r, b, c⟩ xs σ M
  | [], _, _, h2, σ, j => do_forNil (h2 rfl σ j)
  | x :: xs, hp, h1, h2, σ, j => by
    refine do_forCons (hs x σ _ (hp x List.mem_cons_self) j (fun v e => h1 v (by rw [List.findSome?_cons, e])) fun e σ' j' => ?_)
    rw [List.findSome?_cons, e] at h1 h2
    exact forL_first J p hit hs xs (fun y hy => hp y (List.mem_cons_of_mem _ hy)) h1 h2 σ' j'
def ROWT : List (Str × List Str) := [("house open - asked", ["house", "open", "-", "asked"]), ("house open asked asked", ["house", "open", "asked", "asked"]), ("house open called up", ["house", "open", "called", "up"]), ("house say up up", ["house", "say", "up", "up"]), ("house say far far", ["house", "say", "far", "far"]), ("house close up near", ["house", "close", "up", "near"]), ("house close far shut", ["house", "close", "far", "shut"]), ("far open - called", ["far", "open", "-", "called"]), ("far open called called", ["far", "open", "called", "called"]), ("far open asked up", ["far", "open", "asked", "up"]), ("far say up up", ["far", "say", "up", "up"]), ("far say near near", ["far", "say", "near", "near"]), ("far close up far", ["far", "close", "up", "far"]), ("far close near shut", ["far", "close", "near", "shut"])]
theorem rowt_ok : ∀ p ∈ ROWT, Txt.split p.1 " " = p.2 ∧ p.2.length = 4 ∧ p.1.length + 2 ≤ 100 := by decide +kernel
def hitR (st : Option Str) (side word : Str) : RV → Option RV
  | .str z => if hitO st side word (Txt.split z " ") then some (.str ((Txt.split z " ").getD 3 "")) else none
  | _ => none
theorem hit_all {st : Option Str} {side word : Str} : ∀ l : List (Str × List Str), (∀ p ∈ l, Txt.split p.1 " " = p.2) → (l.map fun p => RV.str p.1).findSome? (hitR st side word) = ((l.map (·.2)).find? (hitO st side word)).map fun r => .str (r.getD 3 "")
  | [], _ => rfl
  | p :: l, h => by
    have e := h p List.mem_cons_self
    rw [List.map_cons, List.map_cons, List.findSome?_cons, List.find?_cons]
    simp only [hitR]
    rw [e]
    cases hitO st side word p.2 with
    | true => rfl
    | false => exact hit_all l fun q hq => h q (List.mem_cons_of_mem _ hq)
theorem hit_rows {st : Option Str} {side word : Str} : (ROWT.map fun p => RV.str p.1).findSome? (hitR st side word) = (rowO st side word).map RV.str := by
  rw [hit_all ROWT fun p hp => (rowt_ok p hp).1]
  have : ROWT.map (·.2) = RWS := by decide +kernel
  rw [this]
  unfold rowO
  cases RWS.find? (hitO st side word) <;> rfl
theorem hitO_mk {st : Option Str} {side word a b c d : Str} : hitO st side word [a, b, c, d] = (decide (a = side) && decide (b = word) && decide (c = st.getD "-")) := rfl
theorem cut_mem {ns : List Int} {lo hi : Option Int} {x : RV} (h : x ∈ cutR (ns.map RV.int) lo hi) : ∃ c : Int, x = .int c := by
  have h2 : x ∈ ns.map RV.int := by
    unfold cutR at h
    exact List.mem_of_mem_drop (List.mem_of_mem_take h)
  obtain ⟨c, _, rfl⟩ := List.mem_map.mp h2
  exact ⟨c, rfl⟩
theorem cut_len (ns : List Int) (lo hi : Option Int) : (cutR (ns.map RV.int) lo hi).length ≤ ns.length := by
  unfold cutR
  simp only [List.length_take, List.length_drop, List.length_map]
  omega
theorem do_addL' {M : RM} {Q : RVK} {xs ys : List RV} (e : xs.length + ys.length ≤ sizeLine) (h : Q (.ls (xs ++ ys)) M) : R.rAdd (.ls xs) (.ls ys) M Q := ⟨e, h⟩
theorem at_strs' (p : Str → Prop) {xs : List RV} {i : Int} {M : RM} {Q : RVK} (h0 : 0 ≤ i) (ha : AllS p xs) (h : ∀ k : Str, p k → Q (.str k) M) (h1 : i < xs.length := by (simp only [List.length_cons, List.length_nil]; omega)) : kAt Q M (atI xs i) := by
  obtain ⟨v, e, m⟩ := at_some h0 h1
  obtain ⟨k, rfl, hk⟩ := allS_mem ha v m
  exact do_kat e (h k hk)
theorem nums_len {n : Nat} : (R.nums n).length = n := by unfold R.nums; simp
theorem sts_list : ∀ x ∈ ([.non, .str "note", .str "asked", .str "called", .str "up", .str "near", .str "far", .str "shut"] : List RV), ∃ st ∈ STS, x = stR st := by
  intro x hx
  have : x ∈ STS.map stR := hx
  obtain ⟨st, h, e⟩ := List.mem_map.mp this
  exact ⟨st, h, e.symm⟩
theorem sides_list : ∀ x ∈ ([.str "house", .str "far"] : List RV), ∃ side ∈ SIDES, x = .str side := by
  intro x hx
  have : x ∈ SIDES.map RV.str := hx
  obtain ⟨st, h, e⟩ := List.mem_map.mp this
  exact ⟨st, h, e.symm⟩
theorem words_list : ∀ x ∈ ([.str "open", .str "say", .str "close", .str "break"] : List RV), ∃ word ∈ WORDS, x = .str word := by
  intro x hx
  have : x ∈ WORDS.map RV.str := hx
  obtain ⟨st, h, e⟩ := List.mem_map.mp this
  exact ⟨st, h, e.symm⟩

@[irreducible] def sp_note_state : RSp := fun rs M Q => ∃ (st : Option Str) (word : Str), rs = [stR st, .str word] ∧ Q (stR (noteO st word)) M
set_option maxHeartbeats 4000000 in
theorem fn_note_state {f : Addr} {fd : FuncData} (F : Fun K "note_state" "note_state" s_note_state f fd) (T : Txt P w K mg)  : FnOk P w K mg base CX0 1 f fd ["state", "word"] (upSp K sp_note_state) := by
  refine' rfnok F sc_note_state (fun rs M Q h => ?len) (fun cdv A outer s H E hr => ?term) (fun rs M Q h => ?body)
  case term =>
   refine' scons ?h22 ?h23
   case' h22 => refine' sif ?h19 ?h20 ?h21
   case' h19 => refine' rtw ?h16
   case' h16 => refine' rand ?h14 ?h15
   case' h14 => refine' rtcmp (oeq hr.units) ?h12 ?h13
   case' h12 => exact rvN 1 no_note_state
   case' h13 => exact rs
   case' h15 => refine' rand1 ?h11
   case' h11 => refine' rtw ?h10
   case' h10 => refine' ror ?h8 ?h9
   case' h8 => refine' rtcmp ois ?h6 ?h7
   case' h6 => exact rvN 0 no_note_state
   case' h7 => exact rn
   case' h9 => refine' ror1 ?h5
   case' h5 => refine' rtcmp (oeq hr.units) ?h3 ?h4
   case' h3 => exact rvN 0 no_note_state
   case' h4 => exact rs
   case' h20 => refine' sone ?h18
   case' h18 => refine' sret ?h17
   case' h17 => exact rs
   case' h21 => exact snil
   case' h23 => refine' sone ?h2
   case' h2 => refine' sret ?h1
   case' h1 => exact rn
  case len =>
    unfold sp_note_state at h; obtain ⟨st, word, rfl, _⟩ := h; rfl
  case body =>
    unfold sp_note_state at h
    obtain ⟨st, word, rfl, h⟩ := h
    walk_at "rs"
    refine do_kB (fun e => ?_) (fun e => ?_)
    · have := of_eqS e
      subst this
      cases st with
      | none =>
        rw [noteO_non] at h
        dsimp only [stR] at h ⊢
        walk_at "rd"
        exact h
      | some x =>
        dsimp only [stR]
        walk_at "rd"
        refine do_kB (fun e2 => ?_) (fun e2 => ?_)
        · have := of_eqS e2
          subst this
          rw [noteO_note] at h
          walk_at "rs"
          exact h
        · rw [noteO_other (of_neS e2)] at h
          walk_at "rs"
          exact h
    · rw [noteO_no (of_neS e)] at h
      walk_at "rs"
      exact h
theorem note_do {M : RM} {word : Str} {st : Option Str} {Q : RVK} (h : Q (stR (noteO st word)) M) : sp_note_state [stR st, .str word] M Q := by
  unfold sp_note_state; exact ⟨st, word, rfl, h⟩
@[irreducible] def sp_line_state : RSp := fun rs M Q => ∃ (st : Option Str) (side word : Str), rs = [stR st, .str side, .str word] ∧ Q (stR (lineO st side word)) M
set_option maxHeartbeats 4000000 in
theorem fn_line_state {f : Addr} {fd : FuncData} (F : Fun K "line_state" "line_state" s_line_state f fd) (T : Txt P w K mg)  : FnOk P w K mg base CX0 1 f fd ["state", "side", "word"] (upSp K sp_line_state) := by
  refine' rfnok F sc_line_state (fun rs M Q h => ?len) (fun cdv A outer s H E hr => ?term) (fun rs M Q h => ?body)
  case term =>
   refine' scons ?h23 ?h24
   case' h23 => refine' sif ?h20 ?h21 ?h22
   case' h20 => refine' rtcmp (oeq hr.units) ?h11 ?h12
   case' h11 => exact rvN 2 no_line_state
   case' h12 => exact rs
   case' h21 => refine' sone ?h19
   case' h19 => refine' sret ?h18
   case' h18 => refine' rif ?h15 ?h16 ?h17
   case' h15 => refine' rtcmp (oin hr.units) ?h13 ?h14
   case' h13 => exact rvN 0 no_line_state
   case' h14 => exact rgt T.c_BREAKABLE (hg := gl_line_state_BREAKABLE) (hd := db_BREAKABLE)
   case' h16 => exact rs
   case' h17 => exact rn
   case' h22 => exact snil
   case' h24 => refine' sone ?h10
   case' h10 => refine' sret ?h9
   case' h9 => refine' rtabget (hu_of hr) T.c_LINE_STEPS ?h8 (hg := gl_line_state_LINE_STEPS) (hd := db_LINE_STEPS)
   case' h8 => refine' rtup ?h7
   case' h7 => refine' acons ?h5 ?h6
   case' h5 => exact rvN 1 no_line_state
   case' h6 => refine' acons ?h3 ?h4
   case' h3 => exact rvN 0 no_line_state
   case' h4 => refine' acons ?h1 ?h2
   case' h1 => exact rvN 2 no_line_state
   case' h2 => exact anil
  case len =>
    unfold sp_line_state at h; obtain ⟨st, side, word, rfl, _⟩ := h; rfl
  case body =>
    unfold sp_line_state at h
    obtain ⟨st, side, word, rfl, h⟩ := h
    walk_at "rs"
    refine do_kB (fun e => ?_) (fun e => ?_)
    · have := of_eqS e
      subst this
      walk_at "rs"
      refine do_inT (ok_stR st) rfl ?_
      rw [in_brk']
      have e1 : lineO st side "break" = brkO st := if_pos rfl
      rw [e1] at h
      walk_at "rs"
      refine do_kB (fun e2 => ?_) (fun e2 => ?_)
      · rw [brk_some e2] at h
        walk_at "rs"
        exact h
      · rw [brk_none e2] at h
        walk_at "rs"
        exact h
    · have e1 : lineO st side word = tabO st side word := if_neg (of_neS e)
      rw [e1] at h
      walk_at "rs"
      refine do_ktabget (ks := [some (.inr side), st.map .inr, some (.inr word)]) (by cases st <;> rfl) ?_
      rw [lookT_tab]
      exact h
theorem line_do {M : RM} {side word : Str} {st : Option Str} {Q : RVK} (h : Q (stR (lineO st side word)) M) : sp_line_state [stR st, .str side, .str word] M Q := by
  unfold sp_line_state; exact ⟨st, side, word, rfl, h⟩
@[irreducible] def sp__law_cell : RSp := fun rs M Q => ∃ (ns : List Int) (k : Int), rs = [.ls (ns.map RV.int), .int k] ∧ 0 ≤ k ∧ ∀ i : Int, Q (.int i) M
set_option maxHeartbeats 4000000 in
theorem fn__law_cell {f : Addr} {fd : FuncData} (F : Fun K "_law_cell" "_law_cell" s__law_cell f fd) (T : Txt P w K mg)  : FnOk P w K mg base CX0 1 f fd ["script", "k"] (upSp K sp__law_cell) := by
  refine' rfnok F sc__law_cell (fun rs M Q h => ?len) (fun cdv A outer s H E hr => ?term) (fun rs M Q h => ?body)
  case term =>
   refine' scons ?h15 ?h16
   case' h15 => refine' sif ?h12 ?h13 ?h14
   case' h12 => refine' rtcmp olt ?h6 ?h7
   case' h6 => exact rvN 1 no__law_cell
   case' h7 => refine' rcallB clen T.b_len bt_len ?h5 (hg := gl__law_cell_len) (hdb := db_len) (hn := nn_len)
   case' h5 => refine' acons ?h3 ?h4
   case' h3 => exact rvN 0 no__law_cell
   case' h4 => exact anil
   case' h13 => refine' sone ?h11
   case' h11 => refine' sret ?h10
   case' h10 => refine' rix ?h8 ?h9
   case' h8 => exact rvN 0 no__law_cell
   case' h9 => exact rvN 1 no__law_cell
   case' h14 => exact snil
   case' h16 => refine' sone ?h2
   case' h2 => refine' sret ?h1
   case' h1 => exact ri
  case len =>
    unfold sp__law_cell at h; obtain ⟨ns, k, rfl, _⟩ := h; rfl
  case body =>
    unfold sp__law_cell at h
    obtain ⟨ns, k, rfl, h0, h⟩ := h
    simp only [R.rSeq, R.rIfS, R.rSet, R.rRet, R.rRetN, R.rTest, R.rOp, R.rVar, R.rC, R.rCons, R.rNil, R.rCall, R.rTup, R.rLsF, R.rLst, R.rIx, R.rAsg, R.rgSub, R.rgN, R.rgU, R.setAll, R.rInt0, R.rInt2, R.rAdd, R.rNext, R.rDrop, R.rIf, R.rAnd, R.rOr, R.rNot, R.rAndV, R.rOrV, R.rNotV, R.rChain, R.rUn, R.rgNeg, R.rSl, R.rPart, R.rNoP, R.rSlc, R.rForI, R.rItS, R.rItR, R.rRngI, R.rComp, R.rYes, R.rTuple, R.rLen, R.rIsi, R.rEqq, R.rNeq, R.rIs, R.rIsNot, R.rTab, R.rDispGet, R.rSetL, R.rMul, R.isN, R.keyR, R.rstart, R.is_int, R.is_bool, R.is_str, R.is_tuple, R.is_list, R.rGt, R.rMod, R.rDiv, R.rPow, R.rShr, R.rBand, R.rLt, R.rLe, R.rGe, R.rSub, List.map_cons, List.map_nil, List.set_cons_zero, List.set_cons_succ, List.length_cons, List.length_nil, List.replicate_succ, List.replicate_zero, List.cons_append, List.nil_append, List.getElem?_cons_zero, List.getElem?_cons_succ, Nat.reduceSub, Nat.reduceAdd, true_implies, Bool.false_eq_true, Bool.true_eq_false, reduceCtorEq, false_implies, and_true, true_and, Option.join_some, Nat.zero_add, decide_eq_true_eq, decide_eq_false_iff_not, List.append_nil]
    refine ⟨fun hk => ?_, fun _ => h 0⟩
    refine at_do h0 (by simpa using hk) fun v hv => ?_
    obtain ⟨i, _, rfl⟩ := List.mem_map.mp hv
    exact h i
theorem cell_do {M : RM} {ns : List Int} {k : Int} {Q : RVK} (h0 : 0 ≤ k) (h : ∀ i : Int, Q (.int i) M) : sp__law_cell [.ls (ns.map RV.int), .int k] M Q := by
  unfold sp__law_cell; exact ⟨ns, k, rfl, h0, h⟩
@[irreducible] def sp__law_well : RSp := fun rs M Q => ∃ (c : Int), rs = [.int c, .int 0] ∧ ∀ (p : Addr) (o : RO), M p = none → BagO o 0 → Q (.ref p) (put M p o)
set_option maxHeartbeats 4000000 in
theorem fn__law_well {f : Addr} {fd : FuncData} (F : Fun K "_law_well" "_law_well" s__law_well f fd) (T : Txt P w K mg)  : FnOk P w K mg base CX0 1 f fd ["cell", "turn"] (upSp K sp__law_well) := by
  refine' rfnok F sc__law_well (fun rs M Q h => ?len) (fun cdv A outer s H E hr => ?term) (fun rs M Q h => ?body)
  case term =>
   refine' scons ?h34 ?h35
   case' h34 => refine' sif ?h31 ?h32 ?h33
   case' h31 => refine' rtcmp oge ?h14 ?h15
   case' h14 => exact rvN 0 no__law_well
   case' h15 => refine' rop opow ?h12 ?h13
   case' h12 => exact ri
   case' h13 => exact ri
   case' h32 => refine' sone ?h30
   case' h30 => refine' sret ?h29
   case' h29 => refine' rlst ?h28
   case' h28 => refine' acons ?h26 ?h27
   case' h26 => refine' rop osub ?h24 ?h25
   case' h24 => exact rvN 0 no__law_well
   case' h25 => refine' rop opow ?h22 ?h23
   case' h22 => exact ri
   case' h23 => exact ri
   case' h27 => refine' acons ?h20 ?h21
   case' h20 => refine' rop omod ?h18 ?h19
   case' h18 => exact rvN 0 no__law_well
   case' h19 => exact ri
   case' h21 => refine' acons ?h16 ?h17
   case' h16 => exact rvN 1 no__law_well
   case' h17 => exact anil
   case' h33 => exact snil
   case' h35 => refine' sone ?h11
   case' h11 => refine' sret ?h10
   case' h10 => refine' rlst ?h9
   case' h9 => refine' acons ?h7 ?h8
   case' h7 => exact ri
   case' h8 => refine' acons ?h5 ?h6
   case' h5 => refine' rop omod ?h3 ?h4
   case' h3 => exact rvN 0 no__law_well
   case' h4 => exact ri
   case' h6 => refine' acons ?h1 ?h2
   case' h1 => exact rvN 1 no__law_well
   case' h2 => exact anil
  case len =>
    unfold sp__law_well at h; obtain ⟨c, rfl, _⟩ := h; rfl
  case body =>
    unfold sp__law_well at h
    obtain ⟨c, rfl, h⟩ := h
    simp only [R.rSeq, R.rIfS, R.rSet, R.rRet, R.rRetN, R.rTest, R.rOp, R.rVar, R.rC, R.rCons, R.rNil, R.rCall, R.rTup, R.rLsF, R.rLst, R.rIx, R.rAsg, R.rgSub, R.rgN, R.rgU, R.setAll, R.rInt0, R.rInt2, R.rAdd, R.rNext, R.rDrop, R.rIf, R.rAnd, R.rOr, R.rNot, R.rAndV, R.rOrV, R.rNotV, R.rChain, R.rUn, R.rgNeg, R.rSl, R.rPart, R.rNoP, R.rSlc, R.rForI, R.rItS, R.rItR, R.rRngI, R.rComp, R.rYes, R.rTuple, R.rLen, R.rIsi, R.rEqq, R.rNeq, R.rIs, R.rIsNot, R.rTab, R.rDispGet, R.rSetL, R.rMul, R.isN, R.keyR, R.rstart, R.is_int, R.is_bool, R.is_str, R.is_tuple, R.is_list, R.rGt, R.rMod, R.rDiv, R.rPow, R.rShr, R.rBand, R.rLt, R.rLe, R.rGe, R.rSub, List.map_cons, List.map_nil, List.set_cons_zero, List.set_cons_succ, List.length_cons, List.length_nil, List.replicate_succ, List.replicate_zero, List.cons_append, List.nil_append, List.getElem?_cons_zero, List.getElem?_cons_succ, Nat.reduceSub, Nat.reduceAdd, true_implies, Bool.false_eq_true, Bool.true_eq_false, reduceCtorEq, false_implies, and_true, true_and, Option.join_some, Nat.zero_add, decide_eq_true_eq, decide_eq_false_iff_not, List.append_nil]
    have e18 : (10 : Int) ^ Int.toNat 18 = 1000000000000000000 := by decide
    rw [e18]
    refine ⟨⟨by decide, by decide, by decide⟩, fun hc => ⟨⟨by decide, by decide, by decide⟩, by decide, szl, fun p hp => ?_⟩, fun _ => ⟨by decide, szl, fun p hp => ?_⟩⟩
    · exact h p _ hp ⟨_, _, 0, rfl, by omega, Int.emod_nonneg _ (by decide), Int.emod_lt_of_pos _ (by decide), by decide, by decide⟩
    · exact h p _ hp ⟨_, _, 0, rfl, by decide, Int.emod_nonneg _ (by decide), Int.emod_lt_of_pos _ (by decide), by decide, by decide⟩
theorem well_do {M : RM} {c : Int} {Q : RVK} (h : ∀ (p : Addr) (o : RO), M p = none → BagO o 0 → Q (.ref p) (put M p o)) : sp__law_well [.int c, .int 0] M Q := by
  unfold sp__law_well; exact ⟨c, rfl, h⟩
@[irreducible] def sp__law_take : RSp := fun rs M Q => ∃ (b : Addr) (m n : Int), rs = [.ref b, .int m] ∧ 0 < m ∧ m < 1073741824 ∧ Bag M b n ∧ n ≤ 100000 ∧ ∀ (r : Int) (o : RO), 0 ≤ r → r < m → BagO o (n + 1) → Q (.int r) (put M b o)
set_option maxHeartbeats 4000000 in
theorem fn__law_take {f : Addr} {fd : FuncData} (F : Fun K "_law_take" "_law_take" s__law_take f fd) (T : Txt P w K mg)  : FnOk P w K mg base CX0 1 f fd ["bag", "many"] (upSp K sp__law_take) := by
  refine' rfnok F sc__law_take (fun rs M Q h => ?len) (fun cdv A outer s H E hr => ?term) (fun rs M Q h => ?body)
  case term =>
   refine' scons ?h78 ?h79
   case' h78 => refine' sif ?h75 ?h76 ?h77
   case' h75 => refine' rtcmp ogt ?h55 ?h56
   case' h55 => refine' rix ?h53 ?h54
   case' h53 => exact rvN 0 no__law_take
   case' h54 => exact ri
   case' h56 => exact ri
   case' h76 => refine' scons ?h73 ?h74
   case' h73 => refine' ssetN 4 no__law_take ?h72
   case' h72 => refine' rop omod ?h70 ?h71
   case' h70 => refine' rix ?h68 ?h69
   case' h68 => exact rvN 0 no__law_take
   case' h69 => exact ri
   case' h71 => exact rvN 1 no__law_take
   case' h74 => refine' scons ?h66 ?h67
   case' h66 => refine' sasg ?h63 (gsub ?h64 ?h65 osetl)
   case' h63 => refine' rop odiv ?h61 ?h62
   case' h61 => refine' rix ?h59 ?h60
   case' h59 => exact rvN 0 no__law_take
   case' h60 => exact ri
   case' h62 => exact rvN 1 no__law_take
   case' h64 => exact rvN 0 no__law_take
   case' h65 => exact ri
   case' h67 => refine' sone ?h58
   case' h58 => refine' sret ?h57
   case' h57 => exact rvN 4 no__law_take
   case' h77 => exact snil
   case' h79 => refine' scons ?h51 ?h52
   case' h51 => refine' sasg ?h48 (gsub ?h49 ?h50 osetl)
   case' h48 => refine' rop oadd ?h46 ?h47
   case' h46 => refine' rix ?h44 ?h45
   case' h44 => exact rvN 0 no__law_take
   case' h45 => exact ri
   case' h47 => exact ri
   case' h49 => exact rvN 0 no__law_take
   case' h50 => exact ri
   case' h52 => refine' scons ?h42 ?h43
   case' h42 => refine' ssetN 2 no__law_take ?h41
   case' h41 => exact ri
   case' h43 => refine' scons ?h39 ?h40
   case' h39 => refine' ssetN 3 no__law_take ?h38
   case' h38 => refine' rop omod ?h36 ?h37
   case' h36 => refine' rop oadd ?h34 ?h35
   case' h34 => refine' rix ?h28 ?h29
   case' h28 => exact rvN 0 no__law_take
   case' h29 => exact ri
   case' h35 => refine' rop omul ?h32 ?h33
   case' h32 => exact ri
   case' h33 => refine' rix ?h30 ?h31
   case' h30 => exact rvN 0 no__law_take
   case' h31 => exact ri
   case' h37 => exact rvN 2 no__law_take
   case' h40 => refine' scons ?h26 ?h27
   case' h26 => refine' ssetN 3 no__law_take ?h25
   case' h25 => refine' rop omod ?h23 ?h24
   case' h23 => refine' rop oadd ?h21 ?h22
   case' h21 => refine' rop oadd ?h19 ?h20
   case' h19 => refine' rop omul ?h11 ?h12
   case' h11 => exact rvN 3 no__law_take
   case' h12 => exact rvN 3 no__law_take
   case' h20 => refine' rop omul ?h17 ?h18
   case' h17 => exact ri
   case' h18 => refine' rop opow ?h15 ?h16
   case' h15 => refine' rix ?h13 ?h14
   case' h13 => exact rvN 0 no__law_take
   case' h14 => exact ri
   case' h16 => exact ri
   case' h22 => exact ri
   case' h24 => exact rvN 2 no__law_take
   case' h27 => refine' sone ?h10
   case' h10 => refine' sret ?h9
   case' h9 => refine' rop omod ?h7 ?h8
   case' h7 => refine' rop odiv ?h5 ?h6
   case' h5 => refine' rop omod ?h3 ?h4
   case' h3 => refine' rop opow ?h1 ?h2
   case' h1 => exact rvN 3 no__law_take
   case' h2 => exact ri
   case' h4 => exact rvN 2 no__law_take
   case' h6 => exact ri
   case' h8 => exact rvN 1 no__law_take
  case len =>
    unfold sp__law_take at h; obtain ⟨b, m, n, rfl, _⟩ := h; rfl
  case body =>
    unfold sp__law_take at h
    obtain ⟨b, m, n, rfl, m0, m1, ⟨o, hb, x, y, t, rfl, x0, y0, y1, t0, t1⟩, hn, h⟩ := h
    simp only [R.rSeq, R.rIfS, R.rSet, R.rRet, R.rRetN, R.rTest, R.rOp, R.rVar, R.rC, R.rCons, R.rNil, R.rCall, R.rTup, R.rLsF, R.rLst, R.rIx, R.rAsg, R.rgSub, R.rgN, R.rgU, R.setAll, R.rInt0, R.rInt2, R.rAdd, R.rNext, R.rDrop, R.rIf, R.rAnd, R.rOr, R.rNot, R.rAndV, R.rOrV, R.rNotV, R.rChain, R.rUn, R.rgNeg, R.rSl, R.rPart, R.rNoP, R.rSlc, R.rForI, R.rItS, R.rItR, R.rRngI, R.rComp, R.rYes, R.rTuple, R.rLen, R.rIsi, R.rEqq, R.rNeq, R.rIs, R.rIsNot, R.rTab, R.rDispGet, R.rSetL, R.rMul, R.isN, R.keyR, R.rstart, R.is_int, R.is_bool, R.is_str, R.is_tuple, R.is_list, R.rGt, R.rMod, R.rDiv, R.rPow, R.rShr, R.rBand, R.rLt, R.rLe, R.rGe, R.rSub, List.map_cons, List.map_nil, List.set_cons_zero, List.set_cons_succ, List.length_cons, List.length_nil, List.replicate_succ, List.replicate_zero, List.cons_append, List.nil_append, List.getElem?_cons_zero, List.getElem?_cons_succ, Nat.reduceSub, Nat.reduceAdd, true_implies, Bool.false_eq_true, Bool.true_eq_false, reduceCtorEq, false_implies, and_true, true_and, Option.join_some, Nat.zero_add, decide_eq_true_eq, decide_eq_false_iff_not, List.append_nil, hb, at0, at1, at2, ix0, ix2, R.put_same, R.put_put]
    generalize e1 : (y + 1000003 * (t + 1)) % 2305843009213693951 = a
    have a0 : 0 ≤ a ∧ a < 2305843009213693951 := by subst e1; exact ⟨Int.emod_nonneg _ (by decide), Int.emod_lt_of_pos _ (by decide)⟩
    generalize e2 : (a * a + 7919 * (t + 1) ^ Int.toNat 2 + 5) % 2305843009213693951 = c
    have c0 : 0 ≤ c ∧ c < 2305843009213693951 := by subst e2; exact ⟨Int.emod_nonneg _ (by decide), Int.emod_lt_of_pos _ (by decide)⟩
    refine ⟨fun hx => ⟨m0, ⟨m0, m1⟩, h _ _ (Int.emod_nonneg _ (by omega)) (Int.emod_lt_of_pos _ m0) ⟨x / m, y, t, rfl, Int.ediv_nonneg x0 (by omega), y0, y1, t0, by omega⟩⟩, fun hx => ⟨cmul_left (by decide) (by decide), by decide, cmul_left (by omega) (by omega), ⟨by decide, by decide, small64 (by omega) (by omega)⟩, cmul_left (by decide) (by decide), by decide, ⟨by decide, by decide, small64 (by omega) (by omega)⟩, by decide, ⟨by decide, by decide⟩, m0, h _ _ (Int.emod_nonneg _ (by omega)) (Int.emod_lt_of_pos _ m0) ⟨x, y, t + 1, rfl, x0, y0, y1, by omega, by omega⟩⟩⟩
theorem take_do {M : RM} {b : Addr} {m n : Int} {Q : RVK} (hB : Bag M b n) (m0 : 0 < m) (m1 : m < 1073741824) (hn : n ≤ 100000) (h : ∀ (r : Int) (o : RO), 0 ≤ r → r < m → BagO o (n + 1) → Q (.int r) (put M b o)) : sp__law_take [.ref b, .int m] M Q :=
  by unfold sp__law_take; exact ⟨b, m, n, rfl, m0, m1, hB, hn, h⟩
@[irreducible] def sp__law_step : RSp := fun rs M Q => ∃ (kind : Str) (st : Option Str) (side word : Str), rs = [.str kind, stR st, .str side, .str word] ∧ Q (stR (stepO kind st side word)) M
set_option maxHeartbeats 4000000 in
theorem fn__law_step {f : Addr} {fd : FuncData} (F : Fun K "_law_step" "_law_step" s__law_step f fd) (T : Txt P w K mg)  : FnOk P w K mg base CX0 1 f fd ["kind", "state", "side", "word"] (upSp K sp__law_step) := by
  refine' rfnok F sc__law_step (fun rs M Q h => ?len) (fun cdv A outer s H E hr => ?term) (fun rs M Q h => ?body)
  case term =>
   refine' scons ?h146 ?h147
   case' h146 => refine' sif ?h143 ?h144 ?h145
   case' h143 => refine' rtcmp (oeq hr.units) ?h122 ?h123
   case' h122 => exact rvN 0 no__law_step
   case' h123 => exact rs
   case' h144 => refine' sone ?h142
   case' h142 => refine' sret ?h141
   case' h141 => refine' rif ?h138 ?h139 ?h140
   case' h138 => refine' rtw ?h137
   case' h137 => refine' rand ?h135 ?h136
   case' h135 => refine' rtcmp (oeq hr.units) ?h133 ?h134
   case' h133 => exact rvN 3 no__law_step
   case' h134 => exact rs
   case' h136 => refine' rand1 ?h132
   case' h132 => refine' rtw ?h131
   case' h131 => refine' ror ?h129 ?h130
   case' h129 => refine' rtcmp ois ?h127 ?h128
   case' h127 => exact rvN 1 no__law_step
   case' h128 => exact rn
   case' h130 => refine' ror1 ?h126
   case' h126 => refine' rtcmp (oeq hr.units) ?h124 ?h125
   case' h124 => exact rvN 1 no__law_step
   case' h125 => exact rs
   case' h139 => exact rs
   case' h140 => exact rn
   case' h145 => exact snil
   case' h147 => refine' scons ?h120 ?h121
   case' h120 => refine' sif ?h117 ?h118 ?h119
   case' h117 => refine' rtcmp (oeq hr.units) ?h97 ?h98
   case' h97 => exact rvN 3 no__law_step
   case' h98 => exact rs
   case' h118 => refine' sone ?h116
   case' h116 => refine' sret ?h115
   case' h115 => refine' rif ?h112 ?h113 ?h114
   case' h112 => refine' rtcmp (oin hr.units) ?h110 ?h111
   case' h110 => exact rvN 1 no__law_step
   case' h111 => refine' rtup ?h109
   case' h109 => refine' acons ?h107 ?h108
   case' h107 => exact rs
   case' h108 => refine' acons ?h105 ?h106
   case' h105 => exact rs
   case' h106 => refine' acons ?h103 ?h104
   case' h103 => exact rs
   case' h104 => refine' acons ?h101 ?h102
   case' h101 => exact rs
   case' h102 => refine' acons ?h99 ?h100
   case' h99 => exact rs
   case' h100 => exact anil
   case' h113 => exact rs
   case' h114 => exact rn
   case' h119 => exact snil
   case' h121 => refine' scons ?h95 ?h96
   case' h95 => refine' ssetN 4 no__law_step ?h94
   case' h94 => refine' rlsf ?h93
   case' h93 => refine' acons ?h91 ?h92
   case' h91 => exact rs
   case' h92 => refine' acons ?h89 ?h90
   case' h89 => exact rs
   case' h90 => refine' acons ?h87 ?h88
   case' h87 => exact rs
   case' h88 => refine' acons ?h85 ?h86
   case' h85 => exact rs
   case' h86 => exact anil
   case' h96 => refine' scons ?h83 ?h84
   case' h83 => refine' ssetN 4 no__law_step ?h82
   case' h82 => refine' rop oadd ?h80 ?h81
   case' h80 => exact rvN 4 no__law_step
   case' h81 => refine' rlsf ?h79
   case' h79 => refine' acons ?h77 ?h78
   case' h77 => exact rs
   case' h78 => refine' acons ?h75 ?h76
   case' h75 => exact rs
   case' h76 => refine' acons ?h73 ?h74
   case' h73 => exact rs
   case' h74 => exact anil
   case' h84 => refine' scons ?h71 ?h72
   case' h71 => refine' ssetN 4 no__law_step ?h70
   case' h70 => refine' rop oadd ?h68 ?h69
   case' h68 => exact rvN 4 no__law_step
   case' h69 => refine' rlsf ?h67
   case' h67 => refine' acons ?h65 ?h66
   case' h65 => exact rs
   case' h66 => refine' acons ?h63 ?h64
   case' h63 => exact rs
   case' h64 => refine' acons ?h61 ?h62
   case' h61 => exact rs
   case' h62 => refine' acons ?h59 ?h60
   case' h59 => exact rs
   case' h60 => exact anil
   case' h72 => refine' scons ?h57 ?h58
   case' h57 => refine' ssetN 4 no__law_step ?h56
   case' h56 => refine' rop oadd ?h54 ?h55
   case' h54 => exact rvN 4 no__law_step
   case' h55 => refine' rlsf ?h53
   case' h53 => refine' acons ?h51 ?h52
   case' h51 => exact rs
   case' h52 => refine' acons ?h49 ?h50
   case' h49 => exact rs
   case' h50 => refine' acons ?h47 ?h48
   case' h47 => exact rs
   case' h48 => exact anil
   case' h58 => refine' scons ?h45 ?h46
   case' h45 => refine' sfor PassesOwn.never rfl ?h42 ?h43 ?h44
   case' h42 => refine' iseq ?h3
   case' h3 => exact rvN 4 no__law_step
   case' h43 => exact gnameN 5 no__law_step
   case' h44 => refine' scons ?h40 ?h41
   case' h40 => refine' ssetN 6 no__law_step ?h39
   case' h39 => refine' rsplit ?h37 ?h38
   case' h37 => exact rvN 5 no__law_step
   case' h38 => refine' acons ?h35 ?h36
   case' h35 => exact rs
   case' h36 => exact anil
   case' h41 => refine' sone ?h34
   case' h34 => refine' sif ?h31 ?h32 ?h33
   case' h31 => refine' rtw ?h26
   case' h26 => refine' rand ?h24 ?h25
   case' h24 => refine' rtcmp (oeq hr.units) ?h22 ?h23
   case' h22 => refine' rix ?h20 ?h21
   case' h20 => exact rvN 6 no__law_step
   case' h21 => exact ri
   case' h23 => exact rvN 2 no__law_step
   case' h25 => refine' rand ?h18 ?h19
   case' h18 => refine' rtcmp (oeq hr.units) ?h16 ?h17
   case' h16 => refine' rix ?h14 ?h15
   case' h14 => exact rvN 6 no__law_step
   case' h15 => exact ri
   case' h17 => exact rvN 3 no__law_step
   case' h19 => refine' rand1 ?h13
   case' h13 => refine' rtcmp (oeq hr.units) ?h11 ?h12
   case' h11 => refine' rix ?h4 ?h5
   case' h4 => exact rvN 6 no__law_step
   case' h5 => exact ri
   case' h12 => refine' rif ?h8 ?h9 ?h10
   case' h8 => refine' rtcmp ois ?h6 ?h7
   case' h6 => exact rvN 1 no__law_step
   case' h7 => exact rn
   case' h9 => exact rs
   case' h10 => exact rvN 1 no__law_step
   case' h32 => refine' sone ?h30
   case' h30 => refine' sret ?h29
   case' h29 => refine' rix ?h27 ?h28
   case' h27 => exact rvN 6 no__law_step
   case' h28 => exact ri
   case' h33 => exact snil
   case' h46 => refine' sone ?h2
   case' h2 => refine' sret ?h1
   case' h1 => exact rn
  case len =>
    unfold sp__law_step at h; obtain ⟨kind, st, side, word, rfl, _⟩ := h; rfl
  case body =>
    unfold sp__law_step at h
    obtain ⟨kind, st, side, word, rfl, h⟩ := h
    walk_at "rf"
    refine do_kB (fun e => ?_) (fun e => ?_)
    · have := of_eqS e
      subst this
      have e1 : stepO "note" st side word = noteO st word := if_pos rfl
      rw [e1] at h
      walk_at "rs"
      refine do_kB (fun e2 => ?_) (fun e2 => ?_)
      · have := of_eqS e2
        subst this
        cases st with
        | none =>
          rw [noteO_non] at h
          dsimp only [stR] at h ⊢
          walk_at "rd"
          exact h
        | some x =>
          dsimp only [stR]
          walk_at "rd"
          refine do_kB (fun e3 => ?_) (fun e3 => ?_)
          · have := of_eqS e3
            subst this
            rw [noteO_note] at h
            walk_at "rs"
            exact h
          · rw [noteO_other (of_neS e3)] at h
            walk_at "rs"
            exact h
      · rw [noteO_no (of_neS e2)] at h
        walk_at "rs"
        exact h
    · walk_at "rf"
      refine do_kB (fun e2 => ?_) (fun e2 => ?_)
      · have := of_eqS e2
        subst this
        have e1 : stepO kind st side "break" = brkO st := (if_neg (of_neS e)).trans (if_pos rfl)
        rw [e1] at h
        walk_at "rs"
        refine do_inT (ok_stR st) rfl ?_
        rw [in_brk]
        walk_at "rs"
        refine do_kB (fun e3 => ?_) (fun e3 => ?_)
        · rw [brk_some e3] at h
          walk_at "rs"
          exact h
        · rw [brk_none e3] at h
          walk_at "rs"
          exact h
      · have e1 : stepO kind st side word = rowO st side word := (if_neg (of_neS e)).trans (if_neg (of_neS e2))
        rw [e1] at h
        walk_at "rf"
        refine forL_first (fun σ => ∃ a4 a5 a6, σ = [some (.str kind), some (stR st), some (.str side), some (.str word), a4, a5, a6]) (fun x => ∃ p ∈ ROWT, x = .str p.1) (hitR st side word) ?_ (ROWT.map fun p => RV.str p.1) ?_ ?_ ?_ _ ⟨_, _, _, rfl⟩
        · rintro x σ N ⟨⟨z, r⟩, hp, rfl⟩ ⟨a4, a5, a6, rfl⟩ h1 h2
          obtain ⟨e3, e4, e5⟩ := rowt_ok _ hp
          dsimp only at e3 e4 e5 h1 h2 ⊢
          unfold hitR at h1 h2
          dsimp only at h1 h2
          rw [e3] at h1 h2
          match r, e4 with
          | [a, b, c, d], _ =>
            rw [hitO_mk] at h1 h2
            walk_at "rs"
            refine ⟨" ", rfl, rfl, Nat.le_trans e5 (by decide), ?_⟩
            rw [e3]
            dsimp only [List.map_cons, List.map_nil]
            walk_at "rs"
            refine do_kat at0 ?_
            walk_at "rs"
            refine do_kB (fun f1 => ?_) (fun f1 => ?_)
            · have g1 := of_eqS f1
              walk_at "rs"
              refine do_kat at1 ?_
              walk_at "rs"
              refine do_kB (fun f2 => ?_) (fun f2 => ?_)
              · have g2 := of_eqS f2
                walk_at "rs"
                refine do_kat at2 ?_
                cases st with
                | none =>
                  dsimp only [stR]
                  walk_at "rd"
                  refine do_kB (fun f3 => ?_) (fun f3 => ?_)
                  · have g3 := of_eqS f3
                    walk_at "rs"
                    refine do_kat (atI_nat (j := 3) rfl) ?_
                    exact h1 _ (if_pos (by rw [decide_eq_true g1, decide_eq_true g2]; simp [g3]))
                  · have g3 := of_neS f3
                    walk_at "rs"
                    exact h2 (if_neg (by simp [g3])) _ ⟨_, _, _, rfl⟩
                | some s0 =>
                  dsimp only [stR]
                  walk_at "rd"
                  refine do_kB (fun f3 => ?_) (fun f3 => ?_)
                  · have g3 := of_eqS f3
                    walk_at "rs"
                    refine do_kat (atI_nat (j := 3) rfl) ?_
                    exact h1 _ (if_pos (by rw [decide_eq_true g1, decide_eq_true g2]; simp [g3]))
                  · have g3 := of_neS f3
                    walk_at "rs"
                    exact h2 (if_neg (by simp [g3])) _ ⟨_, _, _, rfl⟩
              · have g2 := of_neS f2
                walk_at "rs"
                exact h2 (if_neg (by simp [g2])) _ ⟨_, _, _, rfl⟩
            · have g1 := of_neS f1
              walk_at "rs"
              exact h2 (if_neg (by simp [g1])) _ ⟨_, _, _, rfl⟩
        · intro x hx
          obtain ⟨p, hp, rfl⟩ := List.mem_map.mp hx
          exact ⟨p, hp, rfl⟩
        · intro v hv
          rw [hit_rows] at hv
          cases e3 : rowO st side word with
          | none => rw [e3] at hv; cases hv
          | some y => rw [e3] at hv h; cases hv; exact h
        · intro hv σ' _
          rw [hit_rows] at hv
          cases e3 : rowO st side word with
          | none => rw [e3] at h; walk_at "rs"; exact h
          | some y => rw [e3] at hv; cases hv
theorem step_do {M : RM} {kind side word : Str} {st : Option Str} {Q : RVK} (h : Q (stR (stepO kind st side word)) M) : sp__law_step [.str kind, stR st, .str side, .str word] M Q := by
  unfold sp__law_step; exact ⟨kind, st, side, word, rfl, h⟩
@[irreducible] def sp_next_state : RSp := fun rs M Q => ∃ (kind : Str) (st : Option Str) (side word : Str), rs = [.str kind, stR st, .str side, .str word] ∧ Q (stR (nextO kind st side word)) M
set_option maxHeartbeats 4000000 in
theorem fn_next_state {f : Addr} {fd : FuncData} (F : Fun K "next_state" "next_state" s_next_state f fd) (T : Txt P w K mg) (F_note_state : RFn P w K mg base 1 "note_state" ["state", "word"] sp_note_state) (F_line_state : RFn P w K mg base 1 "line_state" ["state", "side", "word"] sp_line_state) : FnOk P w K mg base CX0 2 f fd ["kind", "state", "side", "word"] (upSp K sp_next_state) := by
  refine' rfnok F sc_next_state (fun rs M Q h => ?len) (fun cdv A outer s H E hr => ?term) (fun rs M Q h => ?body)
  case term =>
   refine' scons ?h22 ?h23
   case' h22 => refine' sif ?h19 ?h20 ?h21
   case' h19 => refine' rtcmp (oeq hr.units) ?h10 ?h11
   case' h10 => exact rvN 0 no_next_state
   case' h11 => exact rs
   case' h20 => refine' sone ?h18
   case' h18 => refine' sret ?h17
   case' h17 => refine' rcallF F_note_state (hr.mono (by decide)) ?h16 (hg := gl_next_state_note_state) (hdb := db_note_state)
   case' h16 => refine' acons ?h14 ?h15
   case' h14 => exact rvN 1 no_next_state
   case' h15 => refine' acons ?h12 ?h13
   case' h12 => exact rvN 3 no_next_state
   case' h13 => exact anil
   case' h21 => exact snil
   case' h23 => refine' sone ?h9
   case' h9 => refine' sret ?h8
   case' h8 => refine' rcallF F_line_state (hr.mono (by decide)) ?h7 (hg := gl_next_state_line_state) (hdb := db_line_state)
   case' h7 => refine' acons ?h5 ?h6
   case' h5 => exact rvN 1 no_next_state
   case' h6 => refine' acons ?h3 ?h4
   case' h3 => exact rvN 2 no_next_state
   case' h4 => refine' acons ?h1 ?h2
   case' h1 => exact rvN 3 no_next_state
   case' h2 => exact anil
  case len =>
    unfold sp_next_state at h; obtain ⟨kind, st, side, word, rfl, _⟩ := h; rfl
  case body =>
    unfold sp_next_state at h
    obtain ⟨kind, st, side, word, rfl, h⟩ := h
    walk_at "rs"
    refine do_kB (fun e => ?_) (fun e => ?_)
    · have := of_eqS e
      subst this
      have e1 : nextO "note" st side word = noteO st word := if_pos rfl
      rw [e1] at h
      walk_at "rs"
      exact note_do h
    · have e1 : nextO kind st side word = lineO st side word := if_neg (of_neS e)
      rw [e1] at h
      walk_at "rs"
      exact line_do h
theorem next_do {M : RM} {kind side word : Str} {st : Option Str} {Q : RVK} (h : Q (stR (nextO kind st side word)) M) : sp_next_state [.str kind, stR st, .str side, .str word] M Q := by
  unfold sp_next_state; exact ⟨kind, st, side, word, rfl, h⟩
@[irreducible] def sp_law : RSp := fun rs M Q => ∃ (ns : List Int), rs = [.ls (ns.map RV.int)] ∧ ns.length ≤ 63 ∧ ∀ M2, Q (.bl true) M2
set_option maxHeartbeats 40000000 in
def pk_law (T : Txt P w K mg) (F_next_state : RFn P w K mg base 2 "next_state" ["kind", "state", "side", "word"] sp_next_state) (F__law_cell : RFn P w K mg base 1 "_law_cell" ["script", "k"] sp__law_cell) (F__law_well : RFn P w K mg base 1 "_law_well" ["cell", "turn"] sp__law_well) (F__law_take : RFn P w K mg base 1 "_law_take" ["bag", "many"] sp__law_take) (F__law_step : RFn P w K mg base 1 "_law_step" ["kind", "state", "side", "word"] sp__law_step) : {t : RTS // ∀ (f : Addr) (cdv : Value) (A : Around) (outer : List Env) (s : Shared) (H : Hp) (E : XK), Room 2 (A.deeper (envOfC "law" (defScope s_law) s.heap.objs.size f cdv)) → RPSs (cxOf CX0 P w K mg base N_law "law" (defScope s_law) f cdv A outer s H E).nox (defBody s_law) t} := by
  refine' ⟨?t, fun f cdv A outer s H E hr => ?term⟩
  case term =>
   refine' scons ?h231 ?h232
   case' h231 => refine' sfor PassesOwn.never rfl ?h228 ?h229 ?h230
   case' h228 => refine' iseq ?h155
   case' h155 => refine' rlsf ?h154
   case' h154 => refine' acons ?h152 ?h153
   case' h152 => exact rs
   case' h153 => refine' acons ?h150 ?h151
   case' h150 => exact rs
   case' h151 => exact anil
   case' h229 => exact gnameN 1 no_law
   case' h230 => refine' sone ?h227
   case' h227 => refine' sfor PassesOwn.never rfl ?h224 ?h225 ?h226
   case' h224 => refine' iseq ?h173
   case' h173 => refine' rlsf ?h172
   case' h172 => refine' acons ?h170 ?h171
   case' h170 => exact rn
   case' h171 => refine' acons ?h168 ?h169
   case' h168 => exact rs
   case' h169 => refine' acons ?h166 ?h167
   case' h166 => exact rs
   case' h167 => refine' acons ?h164 ?h165
   case' h164 => exact rs
   case' h165 => refine' acons ?h162 ?h163
   case' h162 => exact rs
   case' h163 => refine' acons ?h160 ?h161
   case' h160 => exact rs
   case' h161 => refine' acons ?h158 ?h159
   case' h158 => exact rs
   case' h159 => refine' acons ?h156 ?h157
   case' h156 => exact rs
   case' h157 => exact anil
   case' h225 => exact gnameN 3 no_law
   case' h226 => refine' sone ?h223
   case' h223 => refine' sfor PassesOwn.never rfl ?h220 ?h221 ?h222
   case' h220 => refine' iseq ?h179
   case' h179 => refine' rlsf ?h178
   case' h178 => refine' acons ?h176 ?h177
   case' h176 => exact rs
   case' h177 => refine' acons ?h174 ?h175
   case' h174 => exact rs
   case' h175 => exact anil
   case' h221 => exact gnameN 7 no_law
   case' h222 => refine' sone ?h219
   case' h219 => refine' sfor PassesOwn.never rfl ?h216 ?h217 ?h218
   case' h216 => refine' iseq ?h189
   case' h189 => refine' rlsf ?h188
   case' h188 => refine' acons ?h186 ?h187
   case' h186 => exact rs
   case' h187 => refine' acons ?h184 ?h185
   case' h184 => exact rs
   case' h185 => refine' acons ?h182 ?h183
   case' h182 => exact rs
   case' h183 => refine' acons ?h180 ?h181
   case' h180 => exact rs
   case' h181 => exact anil
   case' h217 => exact gnameN 8 no_law
   case' h218 => refine' sone ?h215
   case' h215 => refine' sif ?h212 ?h213 ?h214
   case' h212 => refine' rtcmp (one hr.units) ?h208 ?h209
   case' h208 => refine' rcallF F_next_state (hr.mono (by decide)) ?h198 (hg := gl_law_next_state) (hdb := db_next_state)
   case' h198 => refine' acons ?h196 ?h197
   case' h196 => exact rvN 1 no_law
   case' h197 => refine' acons ?h194 ?h195
   case' h194 => exact rvN 3 no_law
   case' h195 => refine' acons ?h192 ?h193
   case' h192 => exact rvN 7 no_law
   case' h193 => refine' acons ?h190 ?h191
   case' h190 => exact rvN 8 no_law
   case' h191 => exact anil
   case' h209 => refine' rcallF F__law_step (hr.mono (by decide)) ?h207 (hg := gl_law__law_step) (hdb := db__law_step)
   case' h207 => refine' acons ?h205 ?h206
   case' h205 => exact rvN 1 no_law
   case' h206 => refine' acons ?h203 ?h204
   case' h203 => exact rvN 3 no_law
   case' h204 => refine' acons ?h201 ?h202
   case' h201 => exact rvN 7 no_law
   case' h202 => refine' acons ?h199 ?h200
   case' h199 => exact rvN 8 no_law
   case' h200 => exact anil
   case' h213 => refine' sone ?h211
   case' h211 => refine' sret ?h210
   case' h210 => exact rb
   case' h214 => exact snil
   case' h232 => refine' scons ?h148 ?h149
   case' h148 => refine' sfor PassesOwn.never rfl ?h145 ?h146 ?h147
   case' h145 => refine' iseq ?h17
   case' h17 => refine' rop oadd ?h15 ?h16
   case' h15 => refine' rlsf ?h10
   case' h10 => refine' acons ?h8 ?h9
   case' h8 => refine' rcallF F__law_cell (hr.mono (by decide)) ?h7 (hg := gl_law__law_cell) (hdb := db__law_cell)
   case' h7 => refine' acons ?h5 ?h6
   case' h5 => exact rvN 0 no_law
   case' h6 => refine' acons ?h3 ?h4
   case' h3 => exact ri
   case' h4 => exact anil
   case' h9 => exact anil
   case' h16 => refine' rsl ?h12 ?h13 ?h14
   case' h12 => exact rvN 0 no_law
   case' h13 => refine' psome ?h11
   case' h11 => exact ri
   case' h14 => exact pnone
   case' h146 => exact gnameN 2 no_law
   case' h147 => refine' scons ?h143 ?h144
   case' h143 => refine' ssetN 4 no_law ?h142
   case' h142 => refine' rcallF F__law_well (hr.mono (by decide)) ?h141 (hg := gl_law__law_well) (hdb := db__law_well)
   case' h141 => refine' acons ?h139 ?h140
   case' h139 => exact rvN 2 no_law
   case' h140 => refine' acons ?h137 ?h138
   case' h137 => exact ri
   case' h138 => exact anil
   case' h144 => refine' scons ?h135 ?h136
   case' h135 => refine' ssetN 3 no_law ?h134
   case' h134 => exact rn
   case' h136 => refine' scons ?h132 ?h133
   case' h132 => refine' ssetN 5 no_law ?h131
   case' h131 => exact rn
   case' h133 => refine' sone ?h130
   case' h130 => refine' sfor PassesOwn.never rfl ?h127 ?h128 ?h129
   case' h127 => refine' irange T.b_range ?h25 (hgl := gl_law_range)
   case' h25 => refine' rop oadd ?h23 ?h24
   case' h23 => exact ri
   case' h24 => refine' rcallF F__law_take (hr.mono (by decide)) ?h22 (hg := gl_law__law_take) (hdb := db__law_take)
   case' h22 => refine' acons ?h20 ?h21
   case' h20 => exact rvN 4 no_law
   case' h21 => refine' acons ?h18 ?h19
   case' h18 => exact ri
   case' h19 => exact anil
   case' h128 => exact gnameN 6 no_law
   case' h129 => refine' scons ?h125 ?h126
   case' h125 => refine' ssetN 7 no_law ?h124
   case' h124 => refine' rix ?h122 ?h123
   case' h122 => refine' rlsf ?h116
   case' h116 => refine' acons ?h114 ?h115
   case' h114 => exact rs
   case' h115 => refine' acons ?h112 ?h113
   case' h112 => exact rs
   case' h113 => exact anil
   case' h123 => refine' rcallF F__law_take (hr.mono (by decide)) ?h121 (hg := gl_law__law_take) (hdb := db__law_take)
   case' h121 => refine' acons ?h119 ?h120
   case' h119 => exact rvN 4 no_law
   case' h120 => refine' acons ?h117 ?h118
   case' h117 => exact ri
   case' h118 => exact anil
   case' h126 => refine' scons ?h110 ?h111
   case' h110 => refine' ssetN 8 no_law ?h109
   case' h109 => refine' rix ?h107 ?h108
   case' h107 => refine' rlsf ?h101
   case' h101 => refine' acons ?h99 ?h100
   case' h99 => exact rs
   case' h100 => refine' acons ?h97 ?h98
   case' h97 => exact rs
   case' h98 => refine' acons ?h95 ?h96
   case' h95 => exact rs
   case' h96 => refine' acons ?h93 ?h94
   case' h93 => exact rs
   case' h94 => refine' acons ?h91 ?h92
   case' h91 => exact rs
   case' h92 => refine' acons ?h89 ?h90
   case' h89 => exact rs
   case' h90 => refine' acons ?h87 ?h88
   case' h87 => exact rs
   case' h88 => exact anil
   case' h108 => refine' rcallF F__law_take (hr.mono (by decide)) ?h106 (hg := gl_law__law_take) (hdb := db__law_take)
   case' h106 => refine' acons ?h104 ?h105
   case' h104 => exact rvN 4 no_law
   case' h105 => refine' acons ?h102 ?h103
   case' h102 => exact ri
   case' h103 => exact anil
   case' h111 => refine' scons ?h85 ?h86
   case' h85 => refine' ssetN 9 no_law ?h84
   case' h84 => refine' rcallF F_next_state (hr.mono (by decide)) ?h83 (hg := gl_law_next_state) (hdb := db_next_state)
   case' h83 => refine' acons ?h81 ?h82
   case' h81 => exact rs
   case' h82 => refine' acons ?h79 ?h80
   case' h79 => exact rvN 3 no_law
   case' h80 => refine' acons ?h77 ?h78
   case' h77 => exact rvN 7 no_law
   case' h78 => refine' acons ?h75 ?h76
   case' h75 => exact rvN 8 no_law
   case' h76 => exact anil
   case' h86 => refine' scons ?h73 ?h74
   case' h73 => refine' ssetN 10 no_law ?h72
   case' h72 => refine' rcallF F__law_step (hr.mono (by decide)) ?h71 (hg := gl_law__law_step) (hdb := db__law_step)
   case' h71 => refine' acons ?h69 ?h70
   case' h69 => exact rs
   case' h70 => refine' acons ?h67 ?h68
   case' h67 => exact rvN 5 no_law
   case' h68 => refine' acons ?h65 ?h66
   case' h65 => exact rvN 7 no_law
   case' h66 => refine' acons ?h63 ?h64
   case' h63 => exact rvN 8 no_law
   case' h64 => exact anil
   case' h74 => refine' scons ?h61 ?h62
   case' h61 => refine' sif ?h58 ?h59 ?h60
   case' h58 => refine' rtw ?h55
   case' h55 => refine' ror ?h53 ?h54
   case' h53 => refine' rtcmp (one hr.units) ?h51 ?h52
   case' h51 => exact rvN 9 no_law
   case' h52 => exact rvN 10 no_law
   case' h54 => refine' ror1 ?h50
   case' h50 => refine' rtnot ?h49
   case' h49 => refine' rtw ?h48
   case' h48 => refine' ror ?h46 ?h47
   case' h46 => refine' rtcmp ois ?h44 ?h45
   case' h44 => exact rvN 9 no_law
   case' h45 => exact rn
   case' h47 => refine' ror1 ?h43
   case' h43 => refine' rtval ?h42
   case' h42 => refine' rcallB cisi_str T.b_isinstance bt_isinstance ?h41 (hg := gl_law_isinstance) (hdb := db_isinstance) (hn := nn_isinstance)
   case' h41 => refine' acons ?h39 ?h40
   case' h39 => exact rvN 9 no_law
   case' h40 => refine' acons ?h37 ?h38
   case' h37 => exact rty_str T.b_str gl_law_str
   case' h38 => exact anil
   case' h59 => refine' sone ?h57
   case' h57 => refine' sret ?h56
   case' h56 => exact rb
   case' h60 => exact snil
   case' h62 => refine' sone ?h36
   case' h36 => refine' sif ?h33 ?h34 ?h35
   case' h33 => refine' rtcmp oisnot ?h26 ?h27
   case' h26 => exact rvN 10 no_law
   case' h27 => exact rn
   case' h34 => refine' scons ?h31 ?h32
   case' h31 => refine' ssetN 5 no_law ?h30
   case' h30 => exact rvN 10 no_law
   case' h32 => refine' sone ?h29
   case' h29 => refine' ssetN 3 no_law ?h28
   case' h28 => exact rvN 9 no_law
   case' h35 => exact snil
   case' h149 => refine' sone ?h2
   case' h2 => refine' sret ?h1
   case' h1 => exact rb

set_option maxHeartbeats 40000000 in
theorem rd_law (T : Txt P w K mg) (F_next_state : RFn P w K mg base 2 "next_state" ["kind", "state", "side", "word"] sp_next_state) (F__law_cell : RFn P w K mg base 1 "_law_cell" ["script", "k"] sp__law_cell) (F__law_well : RFn P w K mg base 1 "_law_well" ["cell", "turn"] sp__law_well) (F__law_take : RFn P w K mg base 1 "_law_take" ["bag", "many"] sp__law_take) (F__law_step : RFn P w K mg base 1 "_law_step" ["kind", "state", "side", "word"] sp__law_step) {rs : List RV} {M : RM} {Q : RVK} (h : sp_law rs M Q) : (pk_law (base := base) T F_next_state F__law_cell F__law_well F__law_take F__law_step).1 { nx := fun _ M' => Q .non M', rt := Q } (rstart N_law rs) M := by
    unfold sp_law at h
    obtain ⟨ns, rfl, hl, h⟩ := h
    unfold pk_law
    dsimp only
    walk_at "rf"
    refine forL_inv (fun σ M => ∃ a b c d, σ = [some (.ls (ns.map RV.int)), a, none, b, none, none, none, c, d, none, none]) (fun x => ∃ kind, x = .str kind) _ ?_ ?_ ?_ _ _ ⟨_, _, _, _, rfl⟩
    · intro x hx
      rcases List.mem_cons.mp hx with rfl | hx
      · exact ⟨_, rfl⟩
      · rcases List.mem_cons.mp hx with rfl | hx
        · exact ⟨_, rfl⟩
        · cases hx
    · rintro x σ M1 N ⟨kind, rfl⟩ ⟨a, b, c, d, rfl⟩ hN
      walk_at "rf"
      refine forL_inv (fun σ M => ∃ b c d, σ = [some (.ls (ns.map RV.int)), some (.str kind), none, b, none, none, none, c, d, none, none]) (fun x => ∃ st ∈ STS, x = stR st) _ ?_ ?_ (fun σ M ⟨b, c, d, e⟩ => hN σ M ⟨_, _, _, _, e⟩) _ _ ⟨_, _, _, rfl⟩
      · exact sts_list
      · rintro x σ M1 N ⟨st, hst, rfl⟩ ⟨b, c, d, rfl⟩ hN
        walk_at "rf"
        refine forL_inv (fun σ M => ∃ c d, σ = [some (.ls (ns.map RV.int)), some (.str kind), none, some (stR st), none, none, none, c, d, none, none]) (fun x => ∃ side ∈ SIDES, x = .str side) _ ?_ ?_ (fun σ M ⟨c, d, e⟩ => hN σ M ⟨_, _, _, e⟩) _ _ ⟨_, _, rfl⟩
        · exact sides_list
        · rintro x σ M1 N ⟨side, hside, rfl⟩ ⟨c, d, rfl⟩ hN
          walk_at "rf"
          refine forL_inv (fun σ M => ∃ d, σ = [some (.ls (ns.map RV.int)), some (.str kind), none, some (stR st), none, none, none, some (.str side), d, none, none]) (fun x => ∃ word ∈ WORDS, x = .str word) _ ?_ ?_ (fun σ M ⟨d, e⟩ => hN σ M ⟨_, _, e⟩) _ _ ⟨_, rfl⟩
          · exact words_list
          · rintro x σ M1 N ⟨word, hword, rfl⟩ ⟨d, rfl⟩ hN
            walk_at "rs"
            refine next_do ?_
            walk_at "rs"
            refine step_do ?_
            rw [next_same hst hside hword]
            refine do_ne (ok_stR _) (ok_stR _) ?_
            walk_at "rs"
            refine do_kF' (neqF (eqR_refl _ ⟨1, ok_stR _⟩)) ?_
            walk_at "rs"
            exact hN _ _ ⟨_, rfl⟩
    · rintro σ M1 ⟨a, b, c, d, rfl⟩
      walk_at "rf"
      refine cell_do (by decide) fun c0 => ?_
      walk_at "rf"
      have hcl := cut_len ns (some 1) none
      refine do_addL' (by show 1 + _ ≤ sizeLine; exact Nat.le_trans (by omega : 1 + (cutR (ns.map RV.int) (some 1) none).length ≤ 64) (by decide)) ?_
      walk_at "rf"
      refine forL_inv (fun σ M => ∃ a b s4 s5 s6 c d s9 s10 s2, σ = [some (.ls (ns.map RV.int)), a, s2, b, s4, s5, s6, c, d, s9, s10]) (fun v => ∃ c : Int, v = .int c) _ ?_ ?_ (fun σ M _ => ?_) _ _ ⟨_, _, _, _, _, _, _, _, _, _, rfl⟩
      · intro x hx
        rcases List.mem_append.mp hx with hx | hx
        · exact ⟨c0, by simpa using hx⟩
        · exact cut_mem hx
      · rintro x σ M1 N ⟨cell, rfl⟩ ⟨a, b, s4, s5, s6, c, d, s9, s10, s2, rfl⟩ hN
        walk_at "rf"
        refine well_do fun p o hp ho => ?_
        walk_at "rf"
        refine take_do (Bag.put ho) (by decide) (by decide) (by decide) fun r1 o1 r10 r11 ho1 => ?_
        simp only [R.put_put]
        walk_at "rf"
        refine do_rng (by omega) (by omega) ?_
        refine forL_ix (fun i σ M => ∃ (st : Option Str) (s6 s7 s8 s9 s10 : Option RV), st ∈ STS ∧ σ = [some (.ls (ns.map RV.int)), a, some (.int cell), some (stR st), some (.ref p), some (stR st), s6, s7, s8, s9, s10] ∧ Bag M p (1 + 2 * (i : Int))) (fun _ => True) (1 + r1).toNat ?_ ?_ (R.nums (1 + r1).toNat) 0 (fun _ _ => trivial) (by rw [nums_len, Nat.zero_add]) _ _ ⟨none, _, _, _, _, _, by decide, rfl, (Bag.put ho1 : Bag (put M1 p o1) p 1)⟩
        · rintro i x σ M2 N2 hi _ ⟨st, s6, s7, s8, s9, s10, hst, rfl, hB⟩ hN2
          walk_at "rf"
          refine take_do hB (by decide) (by decide) (by omega) fun r2 o2 r20 r21 ho2 => ?_
          walk_at "rf"
          refine at_strs' (fun z => z ∈ SIDES) r20 ⟨by decide, by decide, trivial⟩ fun side hside => ?_
          walk_at "rf"
          refine take_do (Bag.put ho2) (by decide) (by decide) (by omega) fun r3 o3 r30 r31 ho3 => ?_
          simp only [R.put_put]
          walk_at "rf"
          refine at_strs' (fun z => z ∈ WORDS) r30 ⟨by decide, by decide, by decide, by decide, by decide, by decide, by decide, trivial⟩ fun word hword => ?_
          walk_at "rf"
          refine next_do ?_
          walk_at "rf"
          refine step_do ?_
          rw [next_same hst hside hword]
          have hin : nextO "line" st side word ∈ STS := by
            rw [show nextO "line" st side word = lineO st side word from if_neg (by decide)]
            exact line_in st hst side hside word hword
          generalize nextO "line" st side word = nx at hin ⊢
          walk_at "rf"
          refine do_ne (ok_stR _) (ok_stR _) ?_
          walk_at "rf"
          refine do_kF' (neqF (eqR_refl _ ⟨1, ok_stR _⟩)) ?_
          cases nx with
          | none =>
            dsimp only [stR]
            walk_at "rg"
            exact hN2 _ _ ⟨st, _, _, _, _, _, hst, rfl, Bag.put (ho3.mono (by omega))⟩
          | some y =>
            dsimp only [stR]
            walk_at "rg"
            exact hN2 _ _ ⟨some y, _, _, _, _, _, hin, rfl, Bag.put (ho3.mono (by omega))⟩
        · rintro σ M2 ⟨st, s6, s7, s8, s9, s10, hst, rfl, hB⟩
          exact hN _ _ ⟨_, _, _, _, _, _, _, _, _, _, rfl⟩
      · walk_at "rs"
        exact h _
theorem fn_law {f : Addr} {fd : FuncData} (F : Fun K "law" "law" s_law f fd) (T : Txt P w K mg) (F_next_state : RFn P w K mg base 2 "next_state" ["kind", "state", "side", "word"] sp_next_state) (F__law_cell : RFn P w K mg base 1 "_law_cell" ["script", "k"] sp__law_cell) (F__law_well : RFn P w K mg base 1 "_law_well" ["cell", "turn"] sp__law_well) (F__law_take : RFn P w K mg base 1 "_law_take" ["bag", "many"] sp__law_take) (F__law_step : RFn P w K mg base 1 "_law_step" ["kind", "state", "side", "word"] sp__law_step) : FnOk P w K mg base CX0 3 f fd ["script"] (upSp K sp_law) := by
  refine' rfnok F sc_law (fun rs M Q h => ?len) (fun cdv A outer s H E hr => (pk_law (base := base) T F_next_state F__law_cell F__law_well F__law_take F__law_step).2 f cdv A outer s H E hr) (fun rs M Q h => rd_law T F_next_state F__law_cell F__law_well F__law_take F__law_step h)
  unfold sp_law at h; obtain ⟨ns, rfl, _⟩ := h; rfl
theorem law_start (ns : List Int) (h : ns.length ≤ 63) : sp_law [.ls (ns.map RV.int)] (fun _ => none) (fun v _ => v = .bl true) := by
  unfold sp_law; exact ⟨ns, rfl, h, fun _ => rfl⟩
end
set_option maxHeartbeats 40000000 in
theorem all_mk {l : PySem.W.OpenLaw} {w : World} {K : PySem.W.Frag} {h : Heap} {mg : Str → Option Value} {fa : Addr} (X : K.In h) (G : h.Ns mainGlobals mg) (hfa : mg "law" = some (.ref fa))
    {f0 : Addr} {od0 an0 : Option Addr} {sl0 : Array (Option Value)} {oc0 kV0 dc0 pm0 cd0 ct0 : Value}
    (a0 : PySem.W.nsIn K mainGlobals "note_state" = some (some (.ref f0)))
    (l0 : K.lookup f0 = some ⟨oc0, od0, .func (PySem.W.fnOf "note_state" "note_state" (defArgs s_note_state) (defBody s_note_state) (defScope s_note_state) .none kV0 dc0 pm0 an0 cd0 ct0), sl0⟩) (c0 : PySem.W.codeIn K cd0 "note_state" = true) (k0 : PySem.W.keepIn K (.ref f0) = true)
    {f1 : Addr} {od1 an1 : Option Addr} {sl1 : Array (Option Value)} {oc1 kV1 dc1 pm1 cd1 ct1 : Value}
    (a1 : PySem.W.nsIn K mainGlobals "line_state" = some (some (.ref f1)))
    (l1 : K.lookup f1 = some ⟨oc1, od1, .func (PySem.W.fnOf "line_state" "line_state" (defArgs s_line_state) (defBody s_line_state) (defScope s_line_state) .none kV1 dc1 pm1 an1 cd1 ct1), sl1⟩) (c1 : PySem.W.codeIn K cd1 "line_state" = true) (k1 : PySem.W.keepIn K (.ref f1) = true)
    {f2 : Addr} {od2 an2 : Option Addr} {sl2 : Array (Option Value)} {oc2 kV2 dc2 pm2 cd2 ct2 : Value}
    (a2 : PySem.W.nsIn K mainGlobals "_law_cell" = some (some (.ref f2)))
    (l2 : K.lookup f2 = some ⟨oc2, od2, .func (PySem.W.fnOf "_law_cell" "_law_cell" (defArgs s__law_cell) (defBody s__law_cell) (defScope s__law_cell) .none kV2 dc2 pm2 an2 cd2 ct2), sl2⟩) (c2 : PySem.W.codeIn K cd2 "_law_cell" = true) (k2 : PySem.W.keepIn K (.ref f2) = true)
    {f3 : Addr} {od3 an3 : Option Addr} {sl3 : Array (Option Value)} {oc3 kV3 dc3 pm3 cd3 ct3 : Value}
    (a3 : PySem.W.nsIn K mainGlobals "_law_well" = some (some (.ref f3)))
    (l3 : K.lookup f3 = some ⟨oc3, od3, .func (PySem.W.fnOf "_law_well" "_law_well" (defArgs s__law_well) (defBody s__law_well) (defScope s__law_well) .none kV3 dc3 pm3 an3 cd3 ct3), sl3⟩) (c3 : PySem.W.codeIn K cd3 "_law_well" = true) (k3 : PySem.W.keepIn K (.ref f3) = true)
    {f4 : Addr} {od4 an4 : Option Addr} {sl4 : Array (Option Value)} {oc4 kV4 dc4 pm4 cd4 ct4 : Value}
    (a4 : PySem.W.nsIn K mainGlobals "_law_take" = some (some (.ref f4)))
    (l4 : K.lookup f4 = some ⟨oc4, od4, .func (PySem.W.fnOf "_law_take" "_law_take" (defArgs s__law_take) (defBody s__law_take) (defScope s__law_take) .none kV4 dc4 pm4 an4 cd4 ct4), sl4⟩) (c4 : PySem.W.codeIn K cd4 "_law_take" = true) (k4 : PySem.W.keepIn K (.ref f4) = true)
    {f5 : Addr} {od5 an5 : Option Addr} {sl5 : Array (Option Value)} {oc5 kV5 dc5 pm5 cd5 ct5 : Value}
    (a5 : PySem.W.nsIn K mainGlobals "_law_step" = some (some (.ref f5)))
    (l5 : K.lookup f5 = some ⟨oc5, od5, .func (PySem.W.fnOf "_law_step" "_law_step" (defArgs s__law_step) (defBody s__law_step) (defScope s__law_step) .none kV5 dc5 pm5 an5 cd5 ct5), sl5⟩) (c5 : PySem.W.codeIn K cd5 "_law_step" = true) (k5 : PySem.W.keepIn K (.ref f5) = true)
    {f6 : Addr} {od6 an6 : Option Addr} {sl6 : Array (Option Value)} {oc6 kV6 dc6 pm6 cd6 ct6 : Value}
    (a6 : PySem.W.nsIn K mainGlobals "next_state" = some (some (.ref f6)))
    (l6 : K.lookup f6 = some ⟨oc6, od6, .func (PySem.W.fnOf "next_state" "next_state" (defArgs s_next_state) (defBody s_next_state) (defScope s_next_state) .none kV6 dc6 pm6 an6 cd6 ct6), sl6⟩) (c6 : PySem.W.codeIn K cd6 "next_state" = true) (k6 : PySem.W.keepIn K (.ref f6) = true)
    {f7 : Addr} {od7 an7 : Option Addr} {sl7 : Array (Option Value)} {oc7 kV7 dc7 pm7 cd7 ct7 : Value}
    (a7 : PySem.W.nsIn K mainGlobals "law" = some (some (.ref f7)))
    (l7 : K.lookup f7 = some ⟨oc7, od7, .func (PySem.W.fnOf "law" "law" (defArgs s_law) (defBody s_law) (defScope s_law) .none kV7 dc7 pm7 an7 cd7 ct7), sl7⟩) (c7 : PySem.W.codeIn K cd7 "law" = true) (k7 : PySem.W.keepIn K (.ref f7) = true)
    (z_isinstance : PySem.W.nsIn K mainGlobals "isinstance" = some none)
    (z_len : PySem.W.nsIn K mainGlobals "len" = some none)
    (z_range : PySem.W.nsIn K mainGlobals "range" = some none)
    (z_str : PySem.W.nsIn K mainGlobals "str" = some none)
    {a_BREAKABLE : Addr} {i_BREAKABLE : Array Value} {n_BREAKABLE : Nat} {d_BREAKABLE : Option Addr} {s_BREAKABLE : Array (Option Value)} (z_BREAKABLE : PySem.W.nsIn K mainGlobals "BREAKABLE" = some (some (.ref a_BREAKABLE))) (l_BREAKABLE : K.lookup a_BREAKABLE = some ⟨.type "tuple", d_BREAKABLE, .seq i_BREAKABLE n_BREAKABLE, s_BREAKABLE⟩) (y_BREAKABLE : i_BREAKABLE.size ≤ sizeLine) (v_BREAKABLE : Vals ((["asked", "called", "up", "near", "far"] : List Str).map V.str) i_BREAKABLE.toList)
    (tLS : KTabT l.prog w K mg "LINE_STEPS" TAB)
    : ∃ fd : FuncData, (∀ (s : Shared) (v : Value), BindsTo s fd ⟨[v], []⟩ [("script", v)]) ∧ ∀ base : Heap, K.In base → base.Ns mainGlobals mg → FnOk l.prog w K mg base CX0 3 fa fd ["script"] (upSp K sp_law) := by
  have e := hfa.symm.trans (PySem.W.mg_of X G a7)
  cases e
  have c_BREAKABLE : TupC K mg "BREAKABLE" ["asked", "called", "up", "near", "far"] := tupc_mk (PySem.W.mg_of X G z_BREAKABLE) l_BREAKABLE y_BREAKABLE v_BREAKABLE
  have c_LINE_STEPS : KTabT l.prog w K mg "LINE_STEPS" TAB := tLS
  have T : Txt l.prog w K mg := ⟨PySem.W.mg_none_of X G z_isinstance, PySem.W.mg_none_of X G z_len, PySem.W.mg_none_of X G z_range, PySem.W.mg_none_of X G z_str, c_BREAKABLE, c_LINE_STEPS⟩
  have Fn0 := fun_mk (st := s_note_state) l0 c0 k0
  have bn0 := Fn0.binds (ps := ["state", "word"]) fun _ _ _ _ _ _ us hl => match us, hl with | [_, _], _ => rfl
  have Fn1 := fun_mk (st := s_line_state) l1 c1 k1
  have bn1 := Fn1.binds (ps := ["state", "side", "word"]) fun _ _ _ _ _ _ us hl => match us, hl with | [_, _, _], _ => rfl
  have Fn2 := fun_mk (st := s__law_cell) l2 c2 k2
  have bn2 := Fn2.binds (ps := ["script", "k"]) fun _ _ _ _ _ _ us hl => match us, hl with | [_, _], _ => rfl
  have Fn3 := fun_mk (st := s__law_well) l3 c3 k3
  have bn3 := Fn3.binds (ps := ["cell", "turn"]) fun _ _ _ _ _ _ us hl => match us, hl with | [_, _], _ => rfl
  have Fn4 := fun_mk (st := s__law_take) l4 c4 k4
  have bn4 := Fn4.binds (ps := ["bag", "many"]) fun _ _ _ _ _ _ us hl => match us, hl with | [_, _], _ => rfl
  have Fn5 := fun_mk (st := s__law_step) l5 c5 k5
  have bn5 := Fn5.binds (ps := ["kind", "state", "side", "word"]) fun _ _ _ _ _ _ us hl => match us, hl with | [_, _, _, _], _ => rfl
  have Fn6 := fun_mk (st := s_next_state) l6 c6 k6
  have bn6 := Fn6.binds (ps := ["kind", "state", "side", "word"]) fun _ _ _ _ _ _ us hl => match us, hl with | [_, _, _, _], _ => rfl
  have Fn7 := fun_mk (st := s_law) l7 c7 k7
  have bn7 := Fn7.binds (ps := ["script"]) fun _ _ _ _ _ _ us hl => match us, hl with | [_], _ => rfl
  refine ⟨PySem.W.fnOf "law" "law" (defArgs s_law) (defBody s_law) (defScope s_law) .none kV7 dc7 pm7 an7 cd7 ct7, fun s v => .of_eq rfl, fun base kb nb => ?_⟩
  have G_note_state : RFn l.prog w K mg base 1 "note_state" ["state", "word"] sp_note_state := ⟨_, _, PySem.W.mg_of X G a0, Fn0.kp, bn0, fn_note_state Fn0 T ⟩
  have G_line_state : RFn l.prog w K mg base 1 "line_state" ["state", "side", "word"] sp_line_state := ⟨_, _, PySem.W.mg_of X G a1, Fn1.kp, bn1, fn_line_state Fn1 T ⟩
  have G__law_cell : RFn l.prog w K mg base 1 "_law_cell" ["script", "k"] sp__law_cell := ⟨_, _, PySem.W.mg_of X G a2, Fn2.kp, bn2, fn__law_cell Fn2 T ⟩
  have G__law_well : RFn l.prog w K mg base 1 "_law_well" ["cell", "turn"] sp__law_well := ⟨_, _, PySem.W.mg_of X G a3, Fn3.kp, bn3, fn__law_well Fn3 T ⟩
  have G__law_take : RFn l.prog w K mg base 1 "_law_take" ["bag", "many"] sp__law_take := ⟨_, _, PySem.W.mg_of X G a4, Fn4.kp, bn4, fn__law_take Fn4 T ⟩
  have G__law_step : RFn l.prog w K mg base 1 "_law_step" ["kind", "state", "side", "word"] sp__law_step := ⟨_, _, PySem.W.mg_of X G a5, Fn5.kp, bn5, fn__law_step Fn5 T ⟩
  have G_next_state : RFn l.prog w K mg base 2 "next_state" ["kind", "state", "side", "word"] sp_next_state := ⟨_, _, PySem.W.mg_of X G a6, Fn6.kp, bn6, fn_next_state Fn6 T G_note_state G_line_state⟩
  exact fn_law Fn7 T G_next_state G__law_cell G__law_well G__law_take G__law_step
theorem walk {l : PySem.W.OpenLaw} {q : Program} {loose : List Str} {XP : (Str → Option Value) → Heap → Prop} {YP : World → Heap → Prop} {d : DefRec} {K : Params → PySem.W.Frag} (hn : l.most = some 63) (hdf : d.params.defaults = [])
    (hY : ∀ (w : World) (h : Heap), YP w h → (K w.params).In h)
    (F : ∀ (w : World) (mg : Str → Option Value) (fa : Addr) (h : Heap), (K w.params).In h → h.Ns mainGlobals mg → mg d.name = some (.ref fa) →
      ∃ fd : FuncData, (∀ (s : Shared) (u : Value), BindsTo s fd ⟨[u], []⟩ [("script", u)]) ∧ ∀ base : Heap, (K w.params).In base → base.Ns mainGlobals mg → FnOk l.prog w (K w.params) mg base CX0 3 fa fd ["script"] (upSp (K w.params) sp_law)) :
    PySem.W.WalkO q loose XP YP l.row.toRowW d [] (fun f vs => PySem.call f vs) :=
  L2.walk_of (n := 63) (k := 3) (x := "script") (CX := fun _ => CX0) (sp := fun w => upSp (K w.params) sp_law) hn (by decide) hdf ⟨rfl, by decide, by decide⟩ hY F (fun _ _ a ns hl hO hS => law_in hO hS (law_start ns hl)) fun _ _ _ _ _ z => z
end K01
section
namespace HD
open PySem PySem.W PyProof.Rows

def topOf (p : Program) (i : Nat) : Stmt := p.main.body.getD i (.Pass ⟨0, 0, 0, 0⟩)
def sub (s : Stmt) (i : Nat) : Stmt := match s with
  | .ClassDef (body := b) .. => b.getD i (.Pass ⟨0, 0, 0, 0⟩)
  | s => s
def defA (s : Stmt) : Arguments := match s with
  | .FunctionDef (args := a) .. => a
  | _ => default
def defB (s : Stmt) : List Stmt := match s with
  | .FunctionDef (body := b) .. => b
  | _ => []
def defS (s : Stmt) : Scope := match s with
  | .FunctionDef (scope := c) .. => c
  | _ => default
abbrev e1 (P : Params) (x : String) (t : Tok) (v : Value) : DictEntry := ⟨PyData.keyHash P x, .str x t, v⟩
abbrev nsO (es : List DictEntry) (n : Nat) : Obj := ⟨.type "dict", none, .dict es.toArray n, #[]⟩
abbrev tbO (vs : List Value) : Obj := ⟨.none, none, .fields vs.toArray, #[]⟩
abbrev coO (vs : List Value) : Obj := ⟨.type "code", none, .fields vs.toArray, #[]⟩
abbrev tup (xs : List Value) : Obj := ⟨.type "tuple", none, .seq xs.toArray 0, #[]⟩
abbrev fnO (n q : String) (s : Stmt) (pm cd : Value) : Obj := ⟨.type "function", none, .func { name := n, qualname := q, params := defA s, body := .stmts (defB s), scope := defS s, globals := 3, closure := [], defaults := .none, kwdefaults := .none, doc := .none, pyModule := pm, annotations := none, code := cd, closureTuple := .none, builtins := 0 }, #[]⟩
abbrev tfO (n q : String) (s : Stmt) : Obj := ⟨.none, none, .func { name := n, qualname := q, params := defA s, body := .stmts (defB s), scope := defS s, globals := 0, closure := [], defaults := .none, kwdefaults := .none, doc := .none, pyModule := .none, annotations := none, code := .none, closureTuple := .none, builtins := 0 }, #[]⟩
def treeOf (l : List Obj) : BT := (l.foldl (fun (x : BT × Nat) o => (x.1.ins x.2 o, x.2+1)) (.nil, 0)).1

theorem go_add {tb : String → Option Builtin} {p : Program} {w : World} {n₀ : Nat} {an : Option Value} {b : Nat} : ∀ {n m : Nat} {s s' : SharedT} {t t' : Thread} {r : Option (SharedT × Thread)},
    segGoT tb p w n₀ an b n s t = some (s', t') → segGoT tb p w n₀ an b m s' t' = r → segGoT tb p w n₀ an b (n + m) s t = r
  | 0, m, s, s', t, t', r, h, k => by
    simp only [segGoT, Option.some.injEq, Prod.mk.injEq] at h
    obtain ⟨rfl, rfl⟩ := h
    rw [Nat.zero_add]; exact k
  | n + 1, m, s, s', t, t', r, h, k => by
    have e : n + 1 + m = (n + m) + 1 := by omega
    rw [e]
    simp only [segGoT] at h ⊢
    split at h
    · cases h
    · rename_i he
      split at h
      · cases h
      · rename_i hk
        split at h
        · rename_i s2 t2 hs
          exact go_add h k
        · cases h

theorem run_add {tb : String → Option Builtin} {p : Program} {w : World} {n₀ : Nat} {an : Option Value} {b : Nat} : ∀ {n m : Nat} {s s' : SharedT} {t t' : Thread} {r : Flow × SharedT × Code × Pos},
    segGoT tb p w n₀ an b n s t = some (s', t') → segRunT tb p w n₀ an b m s' t' = some r → segRunT tb p w n₀ an b (n + m) s t = some r
  | 0, m, s, s', t, t', r, h, k => by
    simp only [segGoT, Option.some.injEq, Prod.mk.injEq] at h
    obtain ⟨rfl, rfl⟩ := h
    rw [Nat.zero_add]; exact k
  | n + 1, m, s, s', t, t', r, h, k => by
    have e : n + 1 + m = (n + m) + 1 := by omega
    rw [e]
    simp only [segGoT] at h
    simp only [segRunT]
    split at h
    · cases h
    · rename_i he
      split at h
      · cases h
      · rename_i hk
        split at h
        · rename_i s2 t2 hs
          exact run_add h k
        · cases h

theorem run_more {tb : String → Option Builtin} {p : Program} {w : World} {n₀ : Nat} {an : Option Value} {b : Nat} (k : Nat) : ∀ {n : Nat} {s : SharedT} {t : Thread} {r : Flow × SharedT × Code × Pos},
    segRunT tb p w n₀ an b n s t = some r → segRunT tb p w n₀ an b (n + k) s t = some r
  | 0, s, t, r, h => by cases h
  | n + 1, s, t, r, h => by
    have e : n + 1 + k = (n + k) + 1 := by omega
    rw [e]
    simp only [segRunT] at h ⊢
    split at h
    · exact h
    · rename_i he
      split at h
      · cases h
      · rename_i hk
        split at h
        · exact run_more k h
        · cases h

/-- `x`, run at the top's own frame, comes to `a` in at most `m` steps -/
def Rn {α : Type} (p : Program) (w : World) (n₀ : Nat) (an : Option Value) (c : Code) (F : List Frame) (m : Nat) (x : Sem α) (ps : Pos) (s : SharedT) (a : α) (ps' : Pos) (s' : SharedT) : Prop :=
  ∀ (K : α → Sem Fin) (H : Value → Sem Fin) (lv : List Value → List Value), ∃ n, n ≤ m ∧ segGoT treeTable p w n₀ an 1 n s ⟨x.wrap K H id lv, c, ps, F⟩ = some (s', ⟨K a, c, ps', F⟩)

section
variable {α β : Type} {p : Program} {w : World} {n₀ : Nat} {an : Option Value} {c : Code} {F : List Frame} {m m1 m2 : Nat} {ps ps1 ps2 ps' : Pos} {s s1 s2 s' : SharedT}

theorem Rn.more {x : Sem α} {a : α} (h : Rn p w n₀ an c F m1 x ps s a ps' s') (e : m1 ≤ m) : Rn p w n₀ an c F m x ps s a ps' s' := fun K H lv => by
  obtain ⟨n, hn, h⟩ := h K H lv
  exact ⟨n, Nat.le_trans hn e, h⟩
theorem rn_pure {a : α} : Rn p w n₀ an c F m (pure a) ps s a ps s := fun K H lv => ⟨0, Nat.zero_le _, rfl⟩
theorem rn_pure' {a : α} : Rn p w n₀ an c F m (Sem.pure a) ps s a ps s := fun K H lv => ⟨0, Nat.zero_le _, rfl⟩
theorem rn_bind {x : Sem α} {f : α → Sem β} {a : α} {b : β} (h1 : Rn p w n₀ an c F m1 x ps s a ps1 s1) (h2 : Rn p w n₀ an c F m2 (f a) ps1 s1 b ps2 s2) : Rn p w n₀ an c F (m1 + m2) (x >>= f) ps s b ps2 s2 := fun K H lv => by
  obtain ⟨n1, l1, e1⟩ := h1 (fun a => (f a).wrap K H id lv) H lv
  obtain ⟨n2, l2, e2⟩ := h2 K H lv
  refine ⟨n1 + n2, Nat.add_le_add l1 l2, ?_⟩
  rw [Sem.bind_eq_wrap', Sem.wrap_wrap]
  exact go_add e1 e2
theorem rn_keep {x : Sem α} {a : α} {vs : List Value} (h : Rn p w n₀ an c F m x ps s a ps' s') : Rn p w n₀ an c F m (x.keep vs) ps s a ps' s' := fun K H lv => by
  obtain ⟨n, l, e⟩ := h K H (fun r => lv (vs ++ r))
  refine ⟨n, l, ?_⟩
  rw [Sem.keep_eq_wrap, Sem.wrap_wrap]
  exact e
theorem rn_holding {x : Sem α} {a : α} {vs : List Value} (h : Rn p w n₀ an c F m x ps s a ps' s') : Rn p w n₀ an c F m (holding vs x) ps s a ps' s' := by
  unfold holding
  split
  · exact h
  · exact rn_keep h
theorem rn_at {x : Sem α} {a : α} {n : Nat} (h : ∀ (K : α → Sem Fin) (H : Value → Sem Fin) (lv : List Value → List Value), segGoT treeTable p w n₀ an 1 n s ⟨x.wrap K H id lv, c, ps, F⟩ = some (s', ⟨K a, c, ps', F⟩)) : Rn p w n₀ an c F n x ps s a ps' s' :=
  fun K H lv => ⟨n, Nat.le_refl _, h K H lv⟩

/-- a loop over a list whose turns all go on with the same thing -/
theorem rn_loop {b : β} {f : α → β → Sem (ForInStep β)} : ∀ {xs : List α}, (∀ x ∈ xs, Rn p w n₀ an c F m (f x b) ps s (.yield b) ps s) → Rn p w n₀ an c F (m * xs.length) (forIn xs b f) ps s b ps s
  | [], _ => by rw [List.forIn_nil]; exact rn_pure
  | x :: xs, h => by
    rw [List.forIn_cons]
    have h1 := h x (List.mem_cons_self ..)
    have h2 := rn_loop (xs := xs) fun y hy => h y (List.mem_cons_of_mem _ hy)
    have e : m * (x :: xs).length = m + m * xs.length := by rw [List.length_cons, Nat.mul_succ, Nat.add_comm]
    rw [e]
    exact rn_bind h1 h2
end

section
variable {p : Program} {w : World} {n₀ : Nat} {an : Option Value} {c : Code} {F : List Frame} {ps : Pos} {s : SharedT} {m L : Nat}

theorem tells_not {a : Addr} {st : List Value} (hL : st.length ≤ L) (hq : Rn p w n₀ an c F m (eqIsQuiet 8 (.ref a)) ps s true ps s)
    (hs : ∀ v ∈ st, Rn p w n₀ an c F m (eqIsQuiet 8 v) ps s true ps s) : Rn p w n₀ an c F (m + m * L) (tableMayTell (.ref a) st) ps s false ps s := by
  unfold tableMayTell
  split
  · exact rn_pure
  · refine Rn.more (rn_bind hq (m2 := m * st.length) ?_) (Nat.add_le_add_left (Nat.mul_le_mul_left _ hL) _)
    rw [if_neg (by decide)]
    refine Rn.more (rn_bind (m2 := 0) (rn_loop (m := m) fun v hv => ?_) ?_) (Nat.le_refl _)
    · refine Rn.more (rn_bind (m2 := 0) (hs v hv) ?_) (Nat.le_refl _)
      rw [if_neg (by decide)]
      exact rn_pure
    · exact rn_pure

theorem find_none {d a : Addr} {h : Int} {es : Array DictEntry} {ep : Nat} (hL : es.size ≤ L) (rn_rule : ∀ t, Rn p w n₀ an c F 1 (rule t) ps s () ps s)
    (hd : Rn p w n₀ an c F 1 (dictEntries d none) ps s es ps s) (he : Rn p w n₀ an c F 1 (dictEpoch d none) ps s ep ps s)
    (hq : Rn p w n₀ an c F m (eqIsQuiet 8 (.ref a)) ps s true ps s)
    (hk : ∀ e ∈ es.toList, (∃ b : Addr, e.key = .ref b ∧ b ≠ a) ∧ Rn p w n₀ an c F m (eqIsQuiet 8 e.key) ps s true ps s ∧ Rn p w n₀ an c F m (eqBool e.key (.ref a)) ps s false ps s) :
    Rn p w n₀ an c F (1 + ((m + m * L) + (m + 3) * L)) (dictFind d (.ref a) h) ps s none ps s := by
  unfold dictFind
  refine rn_holding ?_
  dsimp only [keyPart]
  refine rn_bind hd ?_
  have hp : ∀ i ∈ placesWithHash es.size (fun i => Option.map (fun x => x.hash) es[i]?) h, i < es.size := fun i hi => by
    unfold placesWithHash at hi
    exact List.mem_range.mp (List.mem_filter.mp hi).1
  have hpl : (placesWithHash es.size (fun i => Option.map (fun x => x.hash) es[i]?) h).length ≤ L := by
    unfold placesWithHash
    refine Nat.le_trans (List.length_filter_le _ _) ?_
    rw [List.length_range]
    exact hL
  generalize placesWithHash es.size (fun i => Option.map (fun x => x.hash) es[i]?) h = places at hp hpl ⊢
  have hst : ∀ v ∈ List.filterMap (fun i => Option.map (fun x => x.key) es[i]?) places, ∃ e ∈ es.toList, v = e.key := fun v hv => by
    obtain ⟨i, hi, e⟩ := List.mem_filterMap.mp hv
    obtain ⟨x, hx, rfl⟩ := Option.map_eq_some_iff.mp e
    exact ⟨x, Array.mem_toList_iff.mpr (Array.mem_of_getElem? hx), rfl⟩
  have hsl : (List.filterMap (fun i => Option.map (fun x => x.key) es[i]?) places).length ≤ L := Nat.le_trans (List.length_filterMap_le _ _) hpl
  generalize List.filterMap (fun i => Option.map (fun x => x.key) es[i]?) places = stored at hst hsl ⊢
  have hno : ∀ e ∈ es.toList, (e.key == Value.ref a) = false := fun e h1 => by
    obtain ⟨⟨b, h2, h3⟩, _⟩ := hk e h1
    rw [h2]
    exact beq_eq_false_iff_ne.mpr fun q => h3 (Value.ref.inj q)
  rw [if_neg (by simp [carriedByValue])]
  rw [if_neg (by
    rw [← Array.any_toList, Bool.not_eq_true, List.any_eq_false]
    intro e h1
    rw [hno e h1]
    simp)]
  rw [if_neg (by
    intro q
    have q := eq_of_beq q
    obtain ⟨e, h1, h2⟩ := hst (.ref a) (by rw [q]; exact List.mem_cons_self ..)
    have := hno e h1
    rw [← h2] at this
    simp at this)]
  refine rn_bind (tells_not hsl hq fun v hv => ?_) ?_
  · obtain ⟨e, h1, rfl⟩ := hst v hv
    exact (hk e h1).2.1
  rw [if_neg (by simp)]
  refine Rn.more (rn_bind (m2 := 0) (rn_loop (m := m + 3) fun i hi => ?_) ?_) (Nat.mul_le_mul_left _ hpl)
  · have hi' := hp i hi
    have hg : es[i]? = some es[i] := Array.getElem?_eq_getElem hi'
    rw [hg]
    dsimp only
    split
    · obtain ⟨_, _, hb⟩ := hk es[i] (Array.mem_toList_iff.mpr (Array.getElem_mem hi'))
      refine Rn.more (rn_bind he (rn_bind (m2 := 2) hb (rn_bind (m2 := 1) he ?_))) (by omega)
      rw [if_neg (by simp), if_neg (by decide)]
      refine Rn.more (rn_bind (m2 := 0) (rn_rule _) ?_) (Nat.le_refl _)
      rw [if_neg (by simp)]
      exact rn_pure
    · exact rn_pure
  · exact rn_pure
end

section
variable {α β : Type} {p : Program} {w : World} {n₀ : Nat} {an : Option Value} {c : Code} {F : List Frame} {ps ps1 ps2 : Pos} {s s1 s2 : SharedT} {m m1 m2 m3 mf mu : Nat}
theorem hash_red {i : Int} (hr : ∀ t, Rn p w n₀ an c F 1 (rule t) ps s () ps s) : Rn p w n₀ an c F 1 (pyHashByItsType.reduced i) ps s (reduceHash i) ps s := by
  unfold pyHashByItsType.reduced reduceHash
  split
  · exact rn_pure
  · exact Rn.more (rn_bind (m2 := 0) (hr _) rn_pure) (Nat.le_refl _)
theorem hash_tup {a : Addr} {i : Int} {t : Tok} (hr : ∀ x, Rn p w n₀ an c F 1 (rule x) ps s1 () ps s1) (h1 : Rn p w n₀ an c F m1 (cRoomFor "hash" [.ref a]) ps s () ps s)
    (h2 : Rn p w n₀ an c F m2 (specialOf (.ref a) "__hash__") ps s (some (.builtin "tuple.__hash__")) ps s)
    (h3 : ∀ E, Rn p w n₀ an c F m3 (callSpecialIfBoundUnlessNone? (.ref a) "__hash__" E) ps s (some (.int i t)) ps s1) : Rn p w n₀ an c F (m1 + (m2 + (m2 + (m3 + 1)))) (pyHash (.ref a)) ps s (reduceHash i) ps s1 := by
  unfold pyHash
  dsimp only
  unfold pyHashByItsType
  refine rn_bind h1 (rn_bind h2 ?_)
  rw [if_neg (by decide)]
  refine rn_bind h2 ?_
  rw [if_neg (by decide)]
  refine rn_bind (h3 _) ?_
  exact hash_red hr
theorem set_new {d a : Addr} {h : Int} {v : Value} (hr : ∀ x, Rn p w n₀ an c F 1 (rule x) ps s1 () ps s1) (hh : Rn p w n₀ an c F m1 (pyHash (.ref a)) ps s h ps s1) (hf : Rn p w n₀ an c F mf (dictFind d (.ref a) h) ps s1 none ps s1)
    (hu : Rn p w n₀ an c F mu (updateDictKeys d (fun x => x.push ⟨h, .ref a, v⟩) none) ps s1 () ps s2) : Rn p w n₀ an c F (m1 + (mf + (1 + mu))) (dictSet d (.ref a) v) ps s () ps s2 := by
  unfold dictSet
  refine rn_holding (rn_bind hh ?_)
  unfold dictSetHashed
  refine rn_holding (rn_bind hf ?_)
  exact rn_bind (hr _) hu
theorem rn_turn {x : α} {xs : List α} {b : β} {f : α → β → Sem (ForInStep β)} (h1 : Rn p w n₀ an c F m1 (f x b) ps s (.yield b) ps1 s1) (h2 : Rn p w n₀ an c F m2 (forIn xs b f) ps1 s1 b ps2 s2) : Rn p w n₀ an c F (m1 + m2) (forIn (x :: xs) b f) ps s b ps2 s2 := by
  rw [List.forIn_cons]
  exact rn_bind h1 h2
theorem rn_last {b : β} {f : α → β → Sem (ForInStep β)} : Rn p w n₀ an c F 0 (forIn [] b f) ps s b ps s := by
  rw [List.forIn_nil]; exact rn_pure
theorem rn_eq {x y : Sem α} {a : α} (e : x = y) (h : Rn p w n₀ an c F m y ps s a ps1 s1) : Rn p w n₀ an c F m x ps s a ps1 s1 := e ▸ h
end
end HD
end
namespace H01
open PySem PySem.W PyProof.Rows HD
abbrev p := PySem.Challenge.pw_lentgate_k01_words_lead_states
abbrev body := behindTheImports p
abbrev top (i : Nat) : Stmt := topOf p i
def env : Env := { scope := p.main.scope, locals := mainNs, globals := mainNs, cells := [], code := .ref 13, frame := some 14 }
def cd : Code := .body body env
def ann : Option Value := some (.ref 6)
def q0 : Pos := ⟨0, 0, 0, 0⟩
def B : List Frame := [topFrame q0]
abbrev wf (w : World) (b : Bool) : World := w.withFollow "special-get-raises" b
noncomputable section
def ns (P : Params) : List DictEntry := [e1 P "__name__" 165 (.str "law_lentgate_k01_words_lead_states" 333), e1 P "__doc__" 166 (.none), e1 P "__package__" 167 (.none), e1 P "__loader__" 168 (.builtin "__main__.__loader__#opaque"), e1 P "__spec__" 169 (.none), e1 P "__annotations__" 170 (.ref 6), e1 P "__builtins__" 171 (.ref 4), e1 P "__file__" 173 (.str "/claim/cut.py" 172), e1 P "__cached__" 174 (.none), e1 P "LINE_STEPS" 299 (.ref 15), e1 P "BREAKABLE" 305 (.ref 30), e1 P "note_state" 313 (.ref 37), e1 P "line_state" 322 (.ref 44), e1 P "next_state" 332 (.ref 51), e1 P "_law_cell" 342 (.ref 58), e1 P "_law_well" 350 (.ref 65), e1 P "_law_take" 361 (.ref 72), e1 P "_law_step" 374 (.ref 79), e1 P "law" 391 (.ref 86)]
def tb : List Value := [.int 4 0, .int 0 0, .ref 36, .int 8 0, .int 0 0, .ref 43, .int 12 0, .int 0 0, .ref 50, .int 17 0, .int 0 0, .ref 57, .int 21 0, .int 0 0, .ref 64, .int 25 0, .int 0 0, .ref 71, .int 35 0, .int 0 0, .ref 78, .int 49 0, .int 0 0, .ref 85]
def v11 (P : Params) : Obj := tup []
def v13 (P : Params) : Obj := coO [.str "<module>" 182, .str "<module>" 183, .str "/claim/cut.py" 184, .int 1 0, .int 0 0, .int 0 0, .int 0 0, .int 0 0, .ref 11, .bool false, .int 181 0, .ref 12, .none, .none, .none, .none, .int 185 0, .int 1 0, .str "/claim/cut.py" 186]
def v14 (P : Params) : Obj := ⟨.type "frame", none, .plain, #[some (.ref 13), some (.ref 3), some (.ref 3), none, some (.str "__main__" 164), none, some (.ref 0)]⟩
def v18 (P : Params) : Obj := tup [.str "house" 189, .none, .str "open" 190]
def v19 (P : Params) : Obj := tup [.str "house" 192, .str "asked" 193, .str "open" 194]
def v20 (P : Params) : Obj := tup [.str "house" 196, .str "called" 197, .str "open" 198]
def v21 (P : Params) : Obj := tup [.str "house" 200, .str "up" 201, .str "say" 202]
def v22 (P : Params) : Obj := tup [.str "house" 204, .str "far" 205, .str "say" 206]
def v23 (P : Params) : Obj := tup [.str "house" 208, .str "up" 209, .str "close" 210]
def v24 (P : Params) : Obj := tup [.str "house" 212, .str "far" 213, .str "close" 214]
def v25 (P : Params) : Obj := tup [.str "far" 216, .none, .str "open" 217]
def v26 (P : Params) : Obj := tup [.str "far" 219, .str "called" 220, .str "open" 221]
def v27 (P : Params) : Obj := tup [.str "far" 223, .str "asked" 224, .str "open" 225]
def v28 (P : Params) : Obj := tup [.str "far" 227, .str "up" 228, .str "say" 229]
def v29 (P : Params) : Obj := tup [.str "far" 231, .str "near" 232, .str "say" 233]
def v30 (P : Params) : Obj := tup [.str "far" 235, .str "up" 236, .str "close" 237]
def v31 (P : Params) : Obj := tup [.str "far" 239, .str "near" 240, .str "close" 241]
def v33 (P : Params) : Obj := tup [.str "asked" 300, .str "called" 301, .str "up" 302, .str "near" 303, .str "far" 304]
def v36 (P : Params) : Obj := tup []
def v37 (P : Params) : Obj := ⟨.none, none, .fields #[], #[]⟩
def v38 (P : Params) : Obj := tup [.str "state" 309, .str "word" 310]
def v39 (P : Params) : Obj := tup []
def v40 (P : Params) : Obj := tfO "note_state" "note_state" (top 3)
def v41 (P : Params) : Obj := coO [.str "note_state" 306, .str "note_state" 307, .str "/claim/cut.py" 308, .int 4 0, .int 2 0, .int 0 0, .int 0 0, .int 3 0, .ref 31, .bool true, .int 181 0, .ref 32, .none, .ref 33, .ref 34, .ref 35, .int 311 0, .int 4 0, .str "/claim/cut.py" 312]
def v42 (P : Params) : Obj := fnO "note_state" "note_state" (top 3) (.str "lentgate.lines" 187) (.ref 36)
def v45 (P : Params) : Obj := tup []
def v46 (P : Params) : Obj := ⟨.none, none, .fields #[], #[]⟩
def v47 (P : Params) : Obj := tup [.str "state" 317, .str "side" 318, .str "word" 319]
def v48 (P : Params) : Obj := tup []
def v49 (P : Params) : Obj := tfO "line_state" "line_state" (top 4)
def v50 (P : Params) : Obj := coO [.str "line_state" 314, .str "line_state" 315, .str "/claim/cut.py" 316, .int 8 0, .int 3 0, .int 0 0, .int 0 0, .int 3 0, .ref 38, .bool true, .int 181 0, .ref 39, .none, .ref 40, .ref 41, .ref 42, .int 320 0, .int 8 0, .str "/claim/cut.py" 321]
def v51 (P : Params) : Obj := fnO "line_state" "line_state" (top 4) (.str "lentgate.lines" 187) (.ref 43)
def v54 (P : Params) : Obj := tup []
def v55 (P : Params) : Obj := ⟨.none, none, .fields #[], #[]⟩
def v56 (P : Params) : Obj := tup [.str "kind" 326, .str "state" 327, .str "side" 328, .str "word" 329]
def v57 (P : Params) : Obj := tup []
def v58 (P : Params) : Obj := tfO "next_state" "next_state" (top 5)
def v59 (P : Params) : Obj := coO [.str "next_state" 323, .str "next_state" 324, .str "/claim/cut.py" 325, .int 12 0, .int 4 0, .int 0 0, .int 0 0, .int 3 0, .ref 45, .bool true, .int 181 0, .ref 46, .none, .ref 47, .ref 48, .ref 49, .int 330 0, .int 12 0, .str "/claim/cut.py" 331]
def v60 (P : Params) : Obj := fnO "next_state" "next_state" (top 5) (.str "lentgate.lines" 187) (.ref 50)
def v64 (P : Params) : Obj := tup []
def v65 (P : Params) : Obj := ⟨.none, none, .fields #[], #[]⟩
def v66 (P : Params) : Obj := tup [.str "script" 338, .str "k" 339]
def v67 (P : Params) : Obj := tup []
def v68 (P : Params) : Obj := tfO "_law_cell" "_law_cell" (top 7)
def v69 (P : Params) : Obj := coO [.str "_law_cell" 335, .str "_law_cell" 336, .str "/claim/cut.py" 337, .int 17 0, .int 2 0, .int 0 0, .int 0 0, .int 3 0, .ref 52, .bool true, .int 181 0, .ref 53, .none, .ref 54, .ref 55, .ref 56, .int 340 0, .int 17 0, .str "/claim/cut.py" 341]
def v70 (P : Params) : Obj := fnO "_law_cell" "_law_cell" (top 7) (.str "law_lentgate_k01_words_lead_states" 333) (.ref 57)
def v73 (P : Params) : Obj := tup []
def v74 (P : Params) : Obj := ⟨.none, none, .fields #[], #[]⟩
def v75 (P : Params) : Obj := tup [.str "cell" 346, .str "turn" 347]
def v76 (P : Params) : Obj := tup []
def v77 (P : Params) : Obj := tfO "_law_well" "_law_well" (top 8)
def v78 (P : Params) : Obj := coO [.str "_law_well" 343, .str "_law_well" 344, .str "/claim/cut.py" 345, .int 21 0, .int 2 0, .int 0 0, .int 0 0, .int 3 0, .ref 59, .bool true, .int 181 0, .ref 60, .none, .ref 61, .ref 62, .ref 63, .int 348 0, .int 21 0, .str "/claim/cut.py" 349]
def v79 (P : Params) : Obj := fnO "_law_well" "_law_well" (top 8) (.str "law_lentgate_k01_words_lead_states" 333) (.ref 64)
def v82 (P : Params) : Obj := tup []
def v83 (P : Params) : Obj := ⟨.none, none, .fields #[], #[]⟩
def v84 (P : Params) : Obj := tup [.str "bag" 354, .str "many" 355, .str "found" 356, .str "p" 357, .str "n" 358]
def v85 (P : Params) : Obj := tup []
def v86 (P : Params) : Obj := tfO "_law_take" "_law_take" (top 9)
def v87 (P : Params) : Obj := coO [.str "_law_take" 351, .str "_law_take" 352, .str "/claim/cut.py" 353, .int 25 0, .int 2 0, .int 0 0, .int 0 0, .int 3 0, .ref 66, .bool true, .int 181 0, .ref 67, .none, .ref 68, .ref 69, .ref 70, .int 359 0, .int 25 0, .str "/claim/cut.py" 360]
def v88 (P : Params) : Obj := fnO "_law_take" "_law_take" (top 9) (.str "law_lentgate_k01_words_lead_states" 333) (.ref 71)
def v91 (P : Params) : Obj := tup []
def v92 (P : Params) : Obj := ⟨.none, none, .fields #[], #[]⟩
def v93 (P : Params) : Obj := tup [.str "kind" 365, .str "state" 366, .str "side" 367, .str "word" 368, .str "rows" 369, .str "row" 370, .str "one" 371]
def v94 (P : Params) : Obj := tup []
def v95 (P : Params) : Obj := tfO "_law_step" "_law_step" (top 10)
def v96 (P : Params) : Obj := coO [.str "_law_step" 362, .str "_law_step" 363, .str "/claim/cut.py" 364, .int 35 0, .int 4 0, .int 0 0, .int 0 0, .int 3 0, .ref 73, .bool true, .int 181 0, .ref 74, .none, .ref 75, .ref 76, .ref 77, .int 372 0, .int 35 0, .str "/claim/cut.py" 373]
def v97 (P : Params) : Obj := fnO "_law_step" "_law_step" (top 10) (.str "law_lentgate_k01_words_lead_states" 333) (.ref 78)
def v100 (P : Params) : Obj := tup []
def v101 (P : Params) : Obj := ⟨.none, none, .fields #[], #[]⟩
def v102 (P : Params) : Obj := tup [.str "script" 378, .str "kind" 379, .str "state" 380, .str "side" 381, .str "word" 382, .str "cell" 383, .str "bag" 384, .str "due" 385, .str "turn" 386, .str "found" 387, .str "wanted" 388]
def v103 (P : Params) : Obj := tup []
def v104 (P : Params) : Obj := tfO "law" "law" (top 11)
def v105 (P : Params) : Obj := coO [.str "law" 375, .str "law" 376, .str "/claim/cut.py" 377, .int 49 0, .int 1 0, .int 0 0, .int 0 0, .int 3 0, .ref 80, .bool true, .int 181 0, .ref 81, .none, .ref 82, .ref 83, .ref 84, .int 389 0, .int 49 0, .str "/claim/cut.py" 390]
def v106 (P : Params) : Obj := fnO "law" "law" (top 11) (.str "law_lentgate_k01_words_lead_states" 333) (.ref 85)
def fin (P : Params) (D : Obj) : List Obj := [boot_o_0 P, boot_o_1 P, boot_o_2 P, nsO ((ns P).take 19) 19, boot_o_4 P, boot_o_5 P, boot_o_6 P, boot_o_7 P, boot_o_8 P, boot_o_9 P, boot_o_10 P, v11 P, tbO (tb.take 24), v13 P, v14 P, D, v18 P, v19 P, v20 P, v21 P, v22 P, v23 P, v24 P, v25 P, v26 P, v27 P, v28 P, v29 P, v30 P, v31 P, v33 P, v36 P, v37 P, v38 P, v39 P, v40 P, v41 P, v42 P, v45 P, v46 P, v47 P, v48 P, v49 P, v50 P, v51 P, v54 P, v55 P, v56 P, v57 P, v58 P, v59 P, v60 P, v64 P, v65 P, v66 P, v67 P, v68 P, v69 P, v70 P, v73 P, v74 P, v75 P, v76 P, v77 P, v78 P, v79 P, v82 P, v83 P, v84 P, v85 P, v86 P, v87 P, v88 P, v91 P, v92 P, v93 P, v94 P, v95 P, v96 P, v97 P, v100 P, v101 P, v102 P, v103 P, v104 P, v105 P, v106 P]
def fin0 (P : Params) : List Obj := fin P default
def S_A (P : Params) (os : OsState) : SharedT := ⟨treeOf ((((fin0 P).take 15).set 3 (boot_o_3 P)).set 12 (tbO (tb.take 0))), 15, {}, #[], {}, 187, os⟩
theorem pre_eq (w : World) (os : OsState) : topGo treeTable p w 11 ann 12 ⟨boot_heap w.params, #[], boot_drawn, boot_toks, os⟩ (topStub p) = some ((S_A w.params os).abs, ⟨denote treeTable cd, cd, q0, B⟩) := by kernel_rfl
theorem block_eq (w : World) (os : OsState) : segRun treeTable p w 11 ann 1 1 (S_A w.params os).abs (blockOf body env cd q0 B) = some (.next, (S_A w.params os).abs, cd, q0) := by kernel_rfl
def S_0 (P : Params) (os : OsState) : SharedT := ⟨treeOf ((((fin0 P).take 15).set 3 (nsO ((e1 P "__name__" 165 (.str "lentgate.lines" 187)) :: ((ns P).drop 1).take 8) 9)).set 12 (tbO (tb.take 0))), 15, {}, #[], {}, 189, os⟩
theorem run0 (w : World) (os : OsState) : segRunT treeTable p w 11 ann 1 10 (S_A w.params os) (piecesOf ((body.drop 0).take 1) env cd q0 B) = some (.next, S_0 w.params os, cd, ⟨1, 0, 1, 8⟩) := by
  rw [PySem.W.Fast.te10110043849684766642, PySem.W.Fast.te14364793385576792824]; kernel_rfl
def ob (P : Params) (i : Nat) : Obj := (((((fin0 P).take 15).set 3 (nsO ((e1 P "__name__" 165 (.str "lentgate.lines" 187)) :: ((ns P).drop 1).take 8) 9)).set 12 (tbO (tb.take 0))) : List Obj).getD i default
def Dd (es : Array DictEntry) (n : Nat) : Obj := ⟨.type "dict", none, .dict es n, #[]⟩
def S (o : Nat → Obj) (os : OsState) (D : Obj) (tk : Nat) : SharedT := ⟨((((((((((((((((treeOf ((List.range 15).map o)).ins 15 D).ins 16 (tup [.str "house" 189, .none, .str "open" 190])).ins 17 (tup [.str "house" 192, .str "asked" 193, .str "open" 194])).ins 18 (tup [.str "house" 196, .str "called" 197, .str "open" 198])).ins 19 (tup [.str "house" 200, .str "up" 201, .str "say" 202])).ins 20 (tup [.str "house" 204, .str "far" 205, .str "say" 206])).ins 21 (tup [.str "house" 208, .str "up" 209, .str "close" 210])).ins 22 (tup [.str "house" 212, .str "far" 213, .str "close" 214])).ins 23 (tup [.str "far" 216, .none, .str "open" 217])).ins 24 (tup [.str "far" 219, .str "called" 220, .str "open" 221])).ins 25 (tup [.str "far" 223, .str "asked" 224, .str "open" 225])).ins 26 (tup [.str "far" 227, .str "up" 228, .str "say" 229])).ins 27 (tup [.str "far" 231, .str "near" 232, .str "say" 233])).ins 28 (tup [.str "far" 235, .str "up" 236, .str "close" 237])).ins 29 (tup [.str "far" 239, .str "near" 240, .str "close" 241])), 30, {}, #[], {}, tk, os⟩
def S0 (o : Nat → Obj) (os : OsState) (tk : Nat) : SharedT := ⟨treeOf ((List.range 15).map o), 15, {}, #[], {}, tk, os⟩
def S0d (o : Nat → Obj) (os : OsState) (tk : Nat) : SharedT := ⟨(treeOf ((List.range 15).map o)).ins 15 (Dd #[] 0), 16, {}, #[], {}, tk, os⟩
theorem s0_eq (P : Params) (os : OsState) : S_0 P os = S0 (ob P) os 189 := by kernel_rfl
def hs (P : Params) (x : Str) : Int := if x.cps.isEmpty then 0 else reduceHash (P.strHash x.cps)
def hi0 (P : Params) : Int := Builtin.Tuple.tupleHashOf [hs P "house", hashW P .none, hs P "open"]
def en0 (P : Params) : DictEntry := ⟨reduceHash (hi0 P), .ref 16, .str "asked" 191⟩
def hi1 (P : Params) : Int := Builtin.Tuple.tupleHashOf [hs P "house", hs P "asked", hs P "open"]
def en1 (P : Params) : DictEntry := ⟨reduceHash (hi1 P), .ref 17, .str "asked" 195⟩
def hi2 (P : Params) : Int := Builtin.Tuple.tupleHashOf [hs P "house", hs P "called", hs P "open"]
def en2 (P : Params) : DictEntry := ⟨reduceHash (hi2 P), .ref 18, .str "up" 199⟩
def hi3 (P : Params) : Int := Builtin.Tuple.tupleHashOf [hs P "house", hs P "up", hs P "say"]
def en3 (P : Params) : DictEntry := ⟨reduceHash (hi3 P), .ref 19, .str "up" 203⟩
def hi4 (P : Params) : Int := Builtin.Tuple.tupleHashOf [hs P "house", hs P "far", hs P "say"]
def en4 (P : Params) : DictEntry := ⟨reduceHash (hi4 P), .ref 20, .str "far" 207⟩
def hi5 (P : Params) : Int := Builtin.Tuple.tupleHashOf [hs P "house", hs P "up", hs P "close"]
def en5 (P : Params) : DictEntry := ⟨reduceHash (hi5 P), .ref 21, .str "near" 211⟩
def hi6 (P : Params) : Int := Builtin.Tuple.tupleHashOf [hs P "house", hs P "far", hs P "close"]
def en6 (P : Params) : DictEntry := ⟨reduceHash (hi6 P), .ref 22, .str "shut" 215⟩
def hi7 (P : Params) : Int := Builtin.Tuple.tupleHashOf [hs P "far", hashW P .none, hs P "open"]
def en7 (P : Params) : DictEntry := ⟨reduceHash (hi7 P), .ref 23, .str "called" 218⟩
def hi8 (P : Params) : Int := Builtin.Tuple.tupleHashOf [hs P "far", hs P "called", hs P "open"]
def en8 (P : Params) : DictEntry := ⟨reduceHash (hi8 P), .ref 24, .str "called" 222⟩
def hi9 (P : Params) : Int := Builtin.Tuple.tupleHashOf [hs P "far", hs P "asked", hs P "open"]
def en9 (P : Params) : DictEntry := ⟨reduceHash (hi9 P), .ref 25, .str "up" 226⟩
def hi10 (P : Params) : Int := Builtin.Tuple.tupleHashOf [hs P "far", hs P "up", hs P "say"]
def en10 (P : Params) : DictEntry := ⟨reduceHash (hi10 P), .ref 26, .str "up" 230⟩
def hi11 (P : Params) : Int := Builtin.Tuple.tupleHashOf [hs P "far", hs P "near", hs P "say"]
def en11 (P : Params) : DictEntry := ⟨reduceHash (hi11 P), .ref 27, .str "near" 234⟩
def hi12 (P : Params) : Int := Builtin.Tuple.tupleHashOf [hs P "far", hs P "up", hs P "close"]
def en12 (P : Params) : DictEntry := ⟨reduceHash (hi12 P), .ref 28, .str "far" 238⟩
def hi13 (P : Params) : Int := Builtin.Tuple.tupleHashOf [hs P "far", hs P "near", hs P "close"]
def en13 (P : Params) : DictEntry := ⟨reduceHash (hi13 P), .ref 29, .str "shut" 242⟩
section
variable (w : World) (b : Bool) (o : Nat → Obj) (os : OsState) (D : Obj) (tk : Nat) (ps : Pos)
theorem ru (x : String) : Rn p (wf w b) 11 ann cd B 1 (rule x) ps (S o os D tk) () ps (S o os D tk) := rn_at fun K H lv => by rw [PySem.W.Fast.te10295753902157049106, PySem.W.Fast.te14364793385576792824]; kernel_rfl
theorem den (es : Array DictEntry) (n : Nat) : Rn p (wf w b) 11 ann cd B 1 (dictEntries 15 none) ps (S o os (Dd es n) tk) es ps (S o os (Dd es n) tk) := rn_at fun K H lv => by rw [PySem.W.Fast.te10295753902157049106, PySem.W.Fast.te14364793385576792824]; kernel_rfl
theorem dep (es : Array DictEntry) (n : Nat) : Rn p (wf w b) 11 ann cd B 1 (dictEpoch 15 none) ps (S o os (Dd es n) tk) n ps (S o os (Dd es n) tk) := rn_at fun K H lv => by rw [PySem.W.Fast.te10295753902157049106, PySem.W.Fast.te14364793385576792824]; kernel_rfl
theorem qu0 : Rn p (wf w b) 11 ann cd B 3 (eqIsQuiet 8 (.ref 16)) ps (S o os D tk) true ps (S o os D tk) := rn_at fun K H lv => by rw [PySem.W.Fast.te10295753902157049106, PySem.W.Fast.te14364793385576792824, PySem.W.Fast.te13066428366354244818]; kernel_rfl
theorem ro0 : Rn p (wf w b) 11 ann cd B 1 (cRoomFor "hash" [.ref 16]) ps (S o os D tk) () ps (S o os D tk) := rn_at fun K H lv => by rw [PySem.W.Fast.te10295753902157049106, PySem.W.Fast.te14364793385576792824, PySem.W.Fast.te13383273872528276517]; kernel_rfl
theorem sp0 : Rn p (wf w b) 11 ann cd B 1 (specialOf (.ref 16) "__hash__") ps (S o os D tk) (some (.builtin "tuple.__hash__")) ps (S o os D tk) := rn_at fun K H lv => by rw [PySem.W.Fast.te10295753902157049106, PySem.W.Fast.te14364793385576792824, PySem.W.Fast.te4214721358667687652]; kernel_rfl
theorem ca0 (E : Sem Value) : Rn p (wf w b) 11 ann cd B 27 (callSpecialIfBoundUnlessNone? (.ref 16) "__hash__" E) ps (S o os D tk) (some (.int (hi0 w.params) (tk + 3))) ps (S o os D (tk + 4)) := rn_at fun K H lv => by rw [PySem.W.Fast.te10295753902157049106, PySem.W.Fast.te14364793385576792824, PySem.W.Fast.te16697807410369149715]; cases b <;> kernel_rfl
theorem up0 ( y : DictEntry) : Rn p (wf w b) 11 ann cd B 3 (updateDictKeys 15 (fun x => x.push y) none) ps (S o os (Dd #[] 0) tk) () ps (S o os (Dd #[y] 1) tk) := rn_at fun K H lv => by rw [PySem.W.Fast.te10295753902157049106, PySem.W.Fast.te14364793385576792824, PySem.W.Fast.te11826078720135083572]; kernel_rfl
theorem qu1 : Rn p (wf w b) 11 ann cd B 3 (eqIsQuiet 8 (.ref 17)) ps (S o os D tk) true ps (S o os D tk) := rn_at fun K H lv => by rw [PySem.W.Fast.te10295753902157049106, PySem.W.Fast.te14364793385576792824, PySem.W.Fast.te13066428366354244818]; kernel_rfl
theorem ro1 : Rn p (wf w b) 11 ann cd B 1 (cRoomFor "hash" [.ref 17]) ps (S o os D tk) () ps (S o os D tk) := rn_at fun K H lv => by rw [PySem.W.Fast.te10295753902157049106, PySem.W.Fast.te14364793385576792824, PySem.W.Fast.te13383273872528276517]; kernel_rfl
theorem sp1 : Rn p (wf w b) 11 ann cd B 1 (specialOf (.ref 17) "__hash__") ps (S o os D tk) (some (.builtin "tuple.__hash__")) ps (S o os D tk) := rn_at fun K H lv => by rw [PySem.W.Fast.te10295753902157049106, PySem.W.Fast.te14364793385576792824, PySem.W.Fast.te4214721358667687652]; kernel_rfl
theorem ca1 (E : Sem Value) : Rn p (wf w b) 11 ann cd B 29 (callSpecialIfBoundUnlessNone? (.ref 17) "__hash__" E) ps (S o os D tk) (some (.int (hi1 w.params) (tk + 3))) ps (S o os D (tk + 4)) := rn_at fun K H lv => by rw [PySem.W.Fast.te10295753902157049106, PySem.W.Fast.te14364793385576792824, PySem.W.Fast.te16697807410369149715]; cases b <;> kernel_rfl
theorem up1 (x0 y : DictEntry) : Rn p (wf w b) 11 ann cd B 3 (updateDictKeys 15 (fun x => x.push y) none) ps (S o os (Dd #[x0] 1) tk) () ps (S o os (Dd #[x0, y] 2) tk) := rn_at fun K H lv => by rw [PySem.W.Fast.te10295753902157049106, PySem.W.Fast.te14364793385576792824, PySem.W.Fast.te11826078720135083572]; kernel_rfl
theorem eq0_1 : Rn p (wf w b) 11 ann cd B 26 (eqBool (.ref 16) (.ref 17)) ps (S o os D tk) false ps (S o os D tk) := rn_at fun K H lv => by rw [PySem.W.Fast.te10295753902157049106, PySem.W.Fast.te14364793385576792824, PySem.W.Fast.te13926502685295537346]; cases b <;> kernel_rfl
theorem qu2 : Rn p (wf w b) 11 ann cd B 3 (eqIsQuiet 8 (.ref 18)) ps (S o os D tk) true ps (S o os D tk) := rn_at fun K H lv => by rw [PySem.W.Fast.te10295753902157049106, PySem.W.Fast.te14364793385576792824, PySem.W.Fast.te13066428366354244818]; kernel_rfl
theorem ro2 : Rn p (wf w b) 11 ann cd B 1 (cRoomFor "hash" [.ref 18]) ps (S o os D tk) () ps (S o os D tk) := rn_at fun K H lv => by rw [PySem.W.Fast.te10295753902157049106, PySem.W.Fast.te14364793385576792824, PySem.W.Fast.te13383273872528276517]; kernel_rfl
theorem sp2 : Rn p (wf w b) 11 ann cd B 1 (specialOf (.ref 18) "__hash__") ps (S o os D tk) (some (.builtin "tuple.__hash__")) ps (S o os D tk) := rn_at fun K H lv => by rw [PySem.W.Fast.te10295753902157049106, PySem.W.Fast.te14364793385576792824, PySem.W.Fast.te4214721358667687652]; kernel_rfl
theorem ca2 (E : Sem Value) : Rn p (wf w b) 11 ann cd B 29 (callSpecialIfBoundUnlessNone? (.ref 18) "__hash__" E) ps (S o os D tk) (some (.int (hi2 w.params) (tk + 3))) ps (S o os D (tk + 4)) := rn_at fun K H lv => by rw [PySem.W.Fast.te10295753902157049106, PySem.W.Fast.te14364793385576792824, PySem.W.Fast.te16697807410369149715]; cases b <;> kernel_rfl
theorem up2 (x0 x1 y : DictEntry) : Rn p (wf w b) 11 ann cd B 3 (updateDictKeys 15 (fun x => x.push y) none) ps (S o os (Dd #[x0, x1] 2) tk) () ps (S o os (Dd #[x0, x1, y] 3) tk) := rn_at fun K H lv => by rw [PySem.W.Fast.te10295753902157049106, PySem.W.Fast.te14364793385576792824, PySem.W.Fast.te11826078720135083572]; kernel_rfl
theorem eq0_2 : Rn p (wf w b) 11 ann cd B 26 (eqBool (.ref 16) (.ref 18)) ps (S o os D tk) false ps (S o os D tk) := rn_at fun K H lv => by rw [PySem.W.Fast.te10295753902157049106, PySem.W.Fast.te14364793385576792824, PySem.W.Fast.te13926502685295537346]; cases b <;> kernel_rfl
theorem eq1_2 : Rn p (wf w b) 11 ann cd B 20 (eqBool (.ref 17) (.ref 18)) ps (S o os D tk) false ps (S o os D tk) := rn_at fun K H lv => by rw [PySem.W.Fast.te10295753902157049106, PySem.W.Fast.te14364793385576792824, PySem.W.Fast.te13926502685295537346]; cases b <;> kernel_rfl
theorem qu3 : Rn p (wf w b) 11 ann cd B 3 (eqIsQuiet 8 (.ref 19)) ps (S o os D tk) true ps (S o os D tk) := rn_at fun K H lv => by rw [PySem.W.Fast.te10295753902157049106, PySem.W.Fast.te14364793385576792824, PySem.W.Fast.te13066428366354244818]; kernel_rfl
theorem ro3 : Rn p (wf w b) 11 ann cd B 1 (cRoomFor "hash" [.ref 19]) ps (S o os D tk) () ps (S o os D tk) := rn_at fun K H lv => by rw [PySem.W.Fast.te10295753902157049106, PySem.W.Fast.te14364793385576792824, PySem.W.Fast.te13383273872528276517]; kernel_rfl
theorem sp3 : Rn p (wf w b) 11 ann cd B 1 (specialOf (.ref 19) "__hash__") ps (S o os D tk) (some (.builtin "tuple.__hash__")) ps (S o os D tk) := rn_at fun K H lv => by rw [PySem.W.Fast.te10295753902157049106, PySem.W.Fast.te14364793385576792824, PySem.W.Fast.te4214721358667687652]; kernel_rfl
theorem ca3 (E : Sem Value) : Rn p (wf w b) 11 ann cd B 29 (callSpecialIfBoundUnlessNone? (.ref 19) "__hash__" E) ps (S o os D tk) (some (.int (hi3 w.params) (tk + 3))) ps (S o os D (tk + 4)) := rn_at fun K H lv => by rw [PySem.W.Fast.te10295753902157049106, PySem.W.Fast.te14364793385576792824, PySem.W.Fast.te16697807410369149715]; cases b <;> kernel_rfl
theorem up3 (x0 x1 x2 y : DictEntry) : Rn p (wf w b) 11 ann cd B 3 (updateDictKeys 15 (fun x => x.push y) none) ps (S o os (Dd #[x0, x1, x2] 3) tk) () ps (S o os (Dd #[x0, x1, x2, y] 4) tk) := rn_at fun K H lv => by rw [PySem.W.Fast.te10295753902157049106, PySem.W.Fast.te14364793385576792824, PySem.W.Fast.te11826078720135083572]; kernel_rfl
theorem eq0_3 : Rn p (wf w b) 11 ann cd B 26 (eqBool (.ref 16) (.ref 19)) ps (S o os D tk) false ps (S o os D tk) := rn_at fun K H lv => by rw [PySem.W.Fast.te10295753902157049106, PySem.W.Fast.te14364793385576792824, PySem.W.Fast.te13926502685295537346]; cases b <;> kernel_rfl
theorem eq1_3 : Rn p (wf w b) 11 ann cd B 20 (eqBool (.ref 17) (.ref 19)) ps (S o os D tk) false ps (S o os D tk) := rn_at fun K H lv => by rw [PySem.W.Fast.te10295753902157049106, PySem.W.Fast.te14364793385576792824, PySem.W.Fast.te13926502685295537346]; cases b <;> kernel_rfl
theorem eq2_3 : Rn p (wf w b) 11 ann cd B 20 (eqBool (.ref 18) (.ref 19)) ps (S o os D tk) false ps (S o os D tk) := rn_at fun K H lv => by rw [PySem.W.Fast.te10295753902157049106, PySem.W.Fast.te14364793385576792824, PySem.W.Fast.te13926502685295537346]; cases b <;> kernel_rfl
theorem qu4 : Rn p (wf w b) 11 ann cd B 3 (eqIsQuiet 8 (.ref 20)) ps (S o os D tk) true ps (S o os D tk) := rn_at fun K H lv => by rw [PySem.W.Fast.te10295753902157049106, PySem.W.Fast.te14364793385576792824, PySem.W.Fast.te13066428366354244818]; kernel_rfl
theorem ro4 : Rn p (wf w b) 11 ann cd B 1 (cRoomFor "hash" [.ref 20]) ps (S o os D tk) () ps (S o os D tk) := rn_at fun K H lv => by rw [PySem.W.Fast.te10295753902157049106, PySem.W.Fast.te14364793385576792824, PySem.W.Fast.te13383273872528276517]; kernel_rfl
theorem sp4 : Rn p (wf w b) 11 ann cd B 1 (specialOf (.ref 20) "__hash__") ps (S o os D tk) (some (.builtin "tuple.__hash__")) ps (S o os D tk) := rn_at fun K H lv => by rw [PySem.W.Fast.te10295753902157049106, PySem.W.Fast.te14364793385576792824, PySem.W.Fast.te4214721358667687652]; kernel_rfl
theorem ca4 (E : Sem Value) : Rn p (wf w b) 11 ann cd B 29 (callSpecialIfBoundUnlessNone? (.ref 20) "__hash__" E) ps (S o os D tk) (some (.int (hi4 w.params) (tk + 3))) ps (S o os D (tk + 4)) := rn_at fun K H lv => by rw [PySem.W.Fast.te10295753902157049106, PySem.W.Fast.te14364793385576792824, PySem.W.Fast.te16697807410369149715]; cases b <;> kernel_rfl
theorem up4 (x0 x1 x2 x3 y : DictEntry) : Rn p (wf w b) 11 ann cd B 3 (updateDictKeys 15 (fun x => x.push y) none) ps (S o os (Dd #[x0, x1, x2, x3] 4) tk) () ps (S o os (Dd #[x0, x1, x2, x3, y] 5) tk) := rn_at fun K H lv => by rw [PySem.W.Fast.te10295753902157049106, PySem.W.Fast.te14364793385576792824, PySem.W.Fast.te11826078720135083572]; kernel_rfl
theorem eq0_4 : Rn p (wf w b) 11 ann cd B 26 (eqBool (.ref 16) (.ref 20)) ps (S o os D tk) false ps (S o os D tk) := rn_at fun K H lv => by rw [PySem.W.Fast.te10295753902157049106, PySem.W.Fast.te14364793385576792824, PySem.W.Fast.te13926502685295537346]; cases b <;> kernel_rfl
theorem eq1_4 : Rn p (wf w b) 11 ann cd B 20 (eqBool (.ref 17) (.ref 20)) ps (S o os D tk) false ps (S o os D tk) := rn_at fun K H lv => by rw [PySem.W.Fast.te10295753902157049106, PySem.W.Fast.te14364793385576792824, PySem.W.Fast.te13926502685295537346]; cases b <;> kernel_rfl
theorem eq2_4 : Rn p (wf w b) 11 ann cd B 20 (eqBool (.ref 18) (.ref 20)) ps (S o os D tk) false ps (S o os D tk) := rn_at fun K H lv => by rw [PySem.W.Fast.te10295753902157049106, PySem.W.Fast.te14364793385576792824, PySem.W.Fast.te13926502685295537346]; cases b <;> kernel_rfl
theorem eq3_4 : Rn p (wf w b) 11 ann cd B 20 (eqBool (.ref 19) (.ref 20)) ps (S o os D tk) false ps (S o os D tk) := rn_at fun K H lv => by rw [PySem.W.Fast.te10295753902157049106, PySem.W.Fast.te14364793385576792824, PySem.W.Fast.te13926502685295537346]; cases b <;> kernel_rfl
theorem qu5 : Rn p (wf w b) 11 ann cd B 3 (eqIsQuiet 8 (.ref 21)) ps (S o os D tk) true ps (S o os D tk) := rn_at fun K H lv => by rw [PySem.W.Fast.te10295753902157049106, PySem.W.Fast.te14364793385576792824, PySem.W.Fast.te13066428366354244818]; kernel_rfl
theorem ro5 : Rn p (wf w b) 11 ann cd B 1 (cRoomFor "hash" [.ref 21]) ps (S o os D tk) () ps (S o os D tk) := rn_at fun K H lv => by rw [PySem.W.Fast.te10295753902157049106, PySem.W.Fast.te14364793385576792824, PySem.W.Fast.te13383273872528276517]; kernel_rfl
theorem sp5 : Rn p (wf w b) 11 ann cd B 1 (specialOf (.ref 21) "__hash__") ps (S o os D tk) (some (.builtin "tuple.__hash__")) ps (S o os D tk) := rn_at fun K H lv => by rw [PySem.W.Fast.te10295753902157049106, PySem.W.Fast.te14364793385576792824, PySem.W.Fast.te4214721358667687652]; kernel_rfl
theorem ca5 (E : Sem Value) : Rn p (wf w b) 11 ann cd B 29 (callSpecialIfBoundUnlessNone? (.ref 21) "__hash__" E) ps (S o os D tk) (some (.int (hi5 w.params) (tk + 3))) ps (S o os D (tk + 4)) := rn_at fun K H lv => by rw [PySem.W.Fast.te10295753902157049106, PySem.W.Fast.te14364793385576792824, PySem.W.Fast.te16697807410369149715]; cases b <;> kernel_rfl
theorem up5 (x0 x1 x2 x3 x4 y : DictEntry) : Rn p (wf w b) 11 ann cd B 3 (updateDictKeys 15 (fun x => x.push y) none) ps (S o os (Dd #[x0, x1, x2, x3, x4] 5) tk) () ps (S o os (Dd #[x0, x1, x2, x3, x4, y] 6) tk) := rn_at fun K H lv => by rw [PySem.W.Fast.te10295753902157049106, PySem.W.Fast.te14364793385576792824, PySem.W.Fast.te11826078720135083572]; kernel_rfl
theorem eq0_5 : Rn p (wf w b) 11 ann cd B 26 (eqBool (.ref 16) (.ref 21)) ps (S o os D tk) false ps (S o os D tk) := rn_at fun K H lv => by rw [PySem.W.Fast.te10295753902157049106, PySem.W.Fast.te14364793385576792824, PySem.W.Fast.te13926502685295537346]; cases b <;> kernel_rfl
theorem eq1_5 : Rn p (wf w b) 11 ann cd B 20 (eqBool (.ref 17) (.ref 21)) ps (S o os D tk) false ps (S o os D tk) := rn_at fun K H lv => by rw [PySem.W.Fast.te10295753902157049106, PySem.W.Fast.te14364793385576792824, PySem.W.Fast.te13926502685295537346]; cases b <;> kernel_rfl
theorem eq2_5 : Rn p (wf w b) 11 ann cd B 20 (eqBool (.ref 18) (.ref 21)) ps (S o os D tk) false ps (S o os D tk) := rn_at fun K H lv => by rw [PySem.W.Fast.te10295753902157049106, PySem.W.Fast.te14364793385576792824, PySem.W.Fast.te13926502685295537346]; cases b <;> kernel_rfl
theorem eq3_5 : Rn p (wf w b) 11 ann cd B 24 (eqBool (.ref 19) (.ref 21)) ps (S o os D tk) false ps (S o os D tk) := rn_at fun K H lv => by rw [PySem.W.Fast.te10295753902157049106, PySem.W.Fast.te14364793385576792824, PySem.W.Fast.te13926502685295537346]; cases b <;> kernel_rfl
theorem eq4_5 : Rn p (wf w b) 11 ann cd B 20 (eqBool (.ref 20) (.ref 21)) ps (S o os D tk) false ps (S o os D tk) := rn_at fun K H lv => by rw [PySem.W.Fast.te10295753902157049106, PySem.W.Fast.te14364793385576792824, PySem.W.Fast.te13926502685295537346]; cases b <;> kernel_rfl
theorem qu6 : Rn p (wf w b) 11 ann cd B 3 (eqIsQuiet 8 (.ref 22)) ps (S o os D tk) true ps (S o os D tk) := rn_at fun K H lv => by rw [PySem.W.Fast.te10295753902157049106, PySem.W.Fast.te14364793385576792824, PySem.W.Fast.te13066428366354244818]; kernel_rfl
theorem ro6 : Rn p (wf w b) 11 ann cd B 1 (cRoomFor "hash" [.ref 22]) ps (S o os D tk) () ps (S o os D tk) := rn_at fun K H lv => by rw [PySem.W.Fast.te10295753902157049106, PySem.W.Fast.te14364793385576792824, PySem.W.Fast.te13383273872528276517]; kernel_rfl
theorem sp6 : Rn p (wf w b) 11 ann cd B 1 (specialOf (.ref 22) "__hash__") ps (S o os D tk) (some (.builtin "tuple.__hash__")) ps (S o os D tk) := rn_at fun K H lv => by rw [PySem.W.Fast.te10295753902157049106, PySem.W.Fast.te14364793385576792824, PySem.W.Fast.te4214721358667687652]; kernel_rfl
theorem ca6 (E : Sem Value) : Rn p (wf w b) 11 ann cd B 29 (callSpecialIfBoundUnlessNone? (.ref 22) "__hash__" E) ps (S o os D tk) (some (.int (hi6 w.params) (tk + 3))) ps (S o os D (tk + 4)) := rn_at fun K H lv => by rw [PySem.W.Fast.te10295753902157049106, PySem.W.Fast.te14364793385576792824, PySem.W.Fast.te16697807410369149715]; cases b <;> kernel_rfl
theorem up6 (x0 x1 x2 x3 x4 x5 y : DictEntry) : Rn p (wf w b) 11 ann cd B 3 (updateDictKeys 15 (fun x => x.push y) none) ps (S o os (Dd #[x0, x1, x2, x3, x4, x5] 6) tk) () ps (S o os (Dd #[x0, x1, x2, x3, x4, x5, y] 7) tk) := rn_at fun K H lv => by rw [PySem.W.Fast.te10295753902157049106, PySem.W.Fast.te14364793385576792824, PySem.W.Fast.te11826078720135083572]; kernel_rfl
theorem eq0_6 : Rn p (wf w b) 11 ann cd B 26 (eqBool (.ref 16) (.ref 22)) ps (S o os D tk) false ps (S o os D tk) := rn_at fun K H lv => by rw [PySem.W.Fast.te10295753902157049106, PySem.W.Fast.te14364793385576792824, PySem.W.Fast.te13926502685295537346]; cases b <;> kernel_rfl
theorem eq1_6 : Rn p (wf w b) 11 ann cd B 20 (eqBool (.ref 17) (.ref 22)) ps (S o os D tk) false ps (S o os D tk) := rn_at fun K H lv => by rw [PySem.W.Fast.te10295753902157049106, PySem.W.Fast.te14364793385576792824, PySem.W.Fast.te13926502685295537346]; cases b <;> kernel_rfl
theorem eq2_6 : Rn p (wf w b) 11 ann cd B 20 (eqBool (.ref 18) (.ref 22)) ps (S o os D tk) false ps (S o os D tk) := rn_at fun K H lv => by rw [PySem.W.Fast.te10295753902157049106, PySem.W.Fast.te14364793385576792824, PySem.W.Fast.te13926502685295537346]; cases b <;> kernel_rfl
theorem eq3_6 : Rn p (wf w b) 11 ann cd B 20 (eqBool (.ref 19) (.ref 22)) ps (S o os D tk) false ps (S o os D tk) := rn_at fun K H lv => by rw [PySem.W.Fast.te10295753902157049106, PySem.W.Fast.te14364793385576792824, PySem.W.Fast.te13926502685295537346]; cases b <;> kernel_rfl
theorem eq4_6 : Rn p (wf w b) 11 ann cd B 24 (eqBool (.ref 20) (.ref 22)) ps (S o os D tk) false ps (S o os D tk) := rn_at fun K H lv => by rw [PySem.W.Fast.te10295753902157049106, PySem.W.Fast.te14364793385576792824, PySem.W.Fast.te13926502685295537346]; cases b <;> kernel_rfl
theorem eq5_6 : Rn p (wf w b) 11 ann cd B 20 (eqBool (.ref 21) (.ref 22)) ps (S o os D tk) false ps (S o os D tk) := rn_at fun K H lv => by rw [PySem.W.Fast.te10295753902157049106, PySem.W.Fast.te14364793385576792824, PySem.W.Fast.te13926502685295537346]; cases b <;> kernel_rfl
theorem qu7 : Rn p (wf w b) 11 ann cd B 3 (eqIsQuiet 8 (.ref 23)) ps (S o os D tk) true ps (S o os D tk) := rn_at fun K H lv => by rw [PySem.W.Fast.te10295753902157049106, PySem.W.Fast.te14364793385576792824, PySem.W.Fast.te13066428366354244818]; kernel_rfl
theorem ro7 : Rn p (wf w b) 11 ann cd B 1 (cRoomFor "hash" [.ref 23]) ps (S o os D tk) () ps (S o os D tk) := rn_at fun K H lv => by rw [PySem.W.Fast.te10295753902157049106, PySem.W.Fast.te14364793385576792824, PySem.W.Fast.te13383273872528276517]; kernel_rfl
theorem sp7 : Rn p (wf w b) 11 ann cd B 1 (specialOf (.ref 23) "__hash__") ps (S o os D tk) (some (.builtin "tuple.__hash__")) ps (S o os D tk) := rn_at fun K H lv => by rw [PySem.W.Fast.te10295753902157049106, PySem.W.Fast.te14364793385576792824, PySem.W.Fast.te4214721358667687652]; kernel_rfl
theorem ca7 (E : Sem Value) : Rn p (wf w b) 11 ann cd B 27 (callSpecialIfBoundUnlessNone? (.ref 23) "__hash__" E) ps (S o os D tk) (some (.int (hi7 w.params) (tk + 3))) ps (S o os D (tk + 4)) := rn_at fun K H lv => by rw [PySem.W.Fast.te10295753902157049106, PySem.W.Fast.te14364793385576792824, PySem.W.Fast.te16697807410369149715]; cases b <;> kernel_rfl
theorem up7 (x0 x1 x2 x3 x4 x5 x6 y : DictEntry) : Rn p (wf w b) 11 ann cd B 3 (updateDictKeys 15 (fun x => x.push y) none) ps (S o os (Dd #[x0, x1, x2, x3, x4, x5, x6] 7) tk) () ps (S o os (Dd #[x0, x1, x2, x3, x4, x5, x6, y] 8) tk) := rn_at fun K H lv => by rw [PySem.W.Fast.te10295753902157049106, PySem.W.Fast.te14364793385576792824, PySem.W.Fast.te11826078720135083572]; kernel_rfl
theorem eq0_7 : Rn p (wf w b) 11 ann cd B 16 (eqBool (.ref 16) (.ref 23)) ps (S o os D tk) false ps (S o os D tk) := rn_at fun K H lv => by rw [PySem.W.Fast.te10295753902157049106, PySem.W.Fast.te14364793385576792824, PySem.W.Fast.te13926502685295537346]; cases b <;> kernel_rfl
theorem eq1_7 : Rn p (wf w b) 11 ann cd B 16 (eqBool (.ref 17) (.ref 23)) ps (S o os D tk) false ps (S o os D tk) := rn_at fun K H lv => by rw [PySem.W.Fast.te10295753902157049106, PySem.W.Fast.te14364793385576792824, PySem.W.Fast.te13926502685295537346]; cases b <;> kernel_rfl
theorem eq2_7 : Rn p (wf w b) 11 ann cd B 16 (eqBool (.ref 18) (.ref 23)) ps (S o os D tk) false ps (S o os D tk) := rn_at fun K H lv => by rw [PySem.W.Fast.te10295753902157049106, PySem.W.Fast.te14364793385576792824, PySem.W.Fast.te13926502685295537346]; cases b <;> kernel_rfl
theorem eq3_7 : Rn p (wf w b) 11 ann cd B 16 (eqBool (.ref 19) (.ref 23)) ps (S o os D tk) false ps (S o os D tk) := rn_at fun K H lv => by rw [PySem.W.Fast.te10295753902157049106, PySem.W.Fast.te14364793385576792824, PySem.W.Fast.te13926502685295537346]; cases b <;> kernel_rfl
theorem eq4_7 : Rn p (wf w b) 11 ann cd B 16 (eqBool (.ref 20) (.ref 23)) ps (S o os D tk) false ps (S o os D tk) := rn_at fun K H lv => by rw [PySem.W.Fast.te10295753902157049106, PySem.W.Fast.te14364793385576792824, PySem.W.Fast.te13926502685295537346]; cases b <;> kernel_rfl
theorem eq5_7 : Rn p (wf w b) 11 ann cd B 16 (eqBool (.ref 21) (.ref 23)) ps (S o os D tk) false ps (S o os D tk) := rn_at fun K H lv => by rw [PySem.W.Fast.te10295753902157049106, PySem.W.Fast.te14364793385576792824, PySem.W.Fast.te13926502685295537346]; cases b <;> kernel_rfl
theorem eq6_7 : Rn p (wf w b) 11 ann cd B 16 (eqBool (.ref 22) (.ref 23)) ps (S o os D tk) false ps (S o os D tk) := rn_at fun K H lv => by rw [PySem.W.Fast.te10295753902157049106, PySem.W.Fast.te14364793385576792824, PySem.W.Fast.te13926502685295537346]; cases b <;> kernel_rfl
theorem qu8 : Rn p (wf w b) 11 ann cd B 3 (eqIsQuiet 8 (.ref 24)) ps (S o os D tk) true ps (S o os D tk) := rn_at fun K H lv => by rw [PySem.W.Fast.te10295753902157049106, PySem.W.Fast.te14364793385576792824, PySem.W.Fast.te13066428366354244818]; kernel_rfl
theorem ro8 : Rn p (wf w b) 11 ann cd B 1 (cRoomFor "hash" [.ref 24]) ps (S o os D tk) () ps (S o os D tk) := rn_at fun K H lv => by rw [PySem.W.Fast.te10295753902157049106, PySem.W.Fast.te14364793385576792824, PySem.W.Fast.te13383273872528276517]; kernel_rfl
theorem sp8 : Rn p (wf w b) 11 ann cd B 1 (specialOf (.ref 24) "__hash__") ps (S o os D tk) (some (.builtin "tuple.__hash__")) ps (S o os D tk) := rn_at fun K H lv => by rw [PySem.W.Fast.te10295753902157049106, PySem.W.Fast.te14364793385576792824, PySem.W.Fast.te4214721358667687652]; kernel_rfl
theorem ca8 (E : Sem Value) : Rn p (wf w b) 11 ann cd B 29 (callSpecialIfBoundUnlessNone? (.ref 24) "__hash__" E) ps (S o os D tk) (some (.int (hi8 w.params) (tk + 3))) ps (S o os D (tk + 4)) := rn_at fun K H lv => by rw [PySem.W.Fast.te10295753902157049106, PySem.W.Fast.te14364793385576792824, PySem.W.Fast.te16697807410369149715]; cases b <;> kernel_rfl
theorem up8 (x0 x1 x2 x3 x4 x5 x6 x7 y : DictEntry) : Rn p (wf w b) 11 ann cd B 3 (updateDictKeys 15 (fun x => x.push y) none) ps (S o os (Dd #[x0, x1, x2, x3, x4, x5, x6, x7] 8) tk) () ps (S o os (Dd #[x0, x1, x2, x3, x4, x5, x6, x7, y] 9) tk) := rn_at fun K H lv => by rw [PySem.W.Fast.te10295753902157049106, PySem.W.Fast.te14364793385576792824, PySem.W.Fast.te11826078720135083572]; kernel_rfl
theorem eq0_8 : Rn p (wf w b) 11 ann cd B 16 (eqBool (.ref 16) (.ref 24)) ps (S o os D tk) false ps (S o os D tk) := rn_at fun K H lv => by rw [PySem.W.Fast.te10295753902157049106, PySem.W.Fast.te14364793385576792824, PySem.W.Fast.te13926502685295537346]; cases b <;> kernel_rfl
theorem eq1_8 : Rn p (wf w b) 11 ann cd B 16 (eqBool (.ref 17) (.ref 24)) ps (S o os D tk) false ps (S o os D tk) := rn_at fun K H lv => by rw [PySem.W.Fast.te10295753902157049106, PySem.W.Fast.te14364793385576792824, PySem.W.Fast.te13926502685295537346]; cases b <;> kernel_rfl
theorem eq2_8 : Rn p (wf w b) 11 ann cd B 16 (eqBool (.ref 18) (.ref 24)) ps (S o os D tk) false ps (S o os D tk) := rn_at fun K H lv => by rw [PySem.W.Fast.te10295753902157049106, PySem.W.Fast.te14364793385576792824, PySem.W.Fast.te13926502685295537346]; cases b <;> kernel_rfl
theorem eq3_8 : Rn p (wf w b) 11 ann cd B 16 (eqBool (.ref 19) (.ref 24)) ps (S o os D tk) false ps (S o os D tk) := rn_at fun K H lv => by rw [PySem.W.Fast.te10295753902157049106, PySem.W.Fast.te14364793385576792824, PySem.W.Fast.te13926502685295537346]; cases b <;> kernel_rfl
theorem eq4_8 : Rn p (wf w b) 11 ann cd B 16 (eqBool (.ref 20) (.ref 24)) ps (S o os D tk) false ps (S o os D tk) := rn_at fun K H lv => by rw [PySem.W.Fast.te10295753902157049106, PySem.W.Fast.te14364793385576792824, PySem.W.Fast.te13926502685295537346]; cases b <;> kernel_rfl
theorem eq5_8 : Rn p (wf w b) 11 ann cd B 16 (eqBool (.ref 21) (.ref 24)) ps (S o os D tk) false ps (S o os D tk) := rn_at fun K H lv => by rw [PySem.W.Fast.te10295753902157049106, PySem.W.Fast.te14364793385576792824, PySem.W.Fast.te13926502685295537346]; cases b <;> kernel_rfl
theorem eq6_8 : Rn p (wf w b) 11 ann cd B 16 (eqBool (.ref 22) (.ref 24)) ps (S o os D tk) false ps (S o os D tk) := rn_at fun K H lv => by rw [PySem.W.Fast.te10295753902157049106, PySem.W.Fast.te14364793385576792824, PySem.W.Fast.te13926502685295537346]; cases b <;> kernel_rfl
theorem eq7_8 : Rn p (wf w b) 11 ann cd B 26 (eqBool (.ref 23) (.ref 24)) ps (S o os D tk) false ps (S o os D tk) := rn_at fun K H lv => by rw [PySem.W.Fast.te10295753902157049106, PySem.W.Fast.te14364793385576792824, PySem.W.Fast.te13926502685295537346]; cases b <;> kernel_rfl
theorem qu9 : Rn p (wf w b) 11 ann cd B 3 (eqIsQuiet 8 (.ref 25)) ps (S o os D tk) true ps (S o os D tk) := rn_at fun K H lv => by rw [PySem.W.Fast.te10295753902157049106, PySem.W.Fast.te14364793385576792824, PySem.W.Fast.te13066428366354244818]; kernel_rfl
theorem ro9 : Rn p (wf w b) 11 ann cd B 1 (cRoomFor "hash" [.ref 25]) ps (S o os D tk) () ps (S o os D tk) := rn_at fun K H lv => by rw [PySem.W.Fast.te10295753902157049106, PySem.W.Fast.te14364793385576792824, PySem.W.Fast.te13383273872528276517]; kernel_rfl
theorem sp9 : Rn p (wf w b) 11 ann cd B 1 (specialOf (.ref 25) "__hash__") ps (S o os D tk) (some (.builtin "tuple.__hash__")) ps (S o os D tk) := rn_at fun K H lv => by rw [PySem.W.Fast.te10295753902157049106, PySem.W.Fast.te14364793385576792824, PySem.W.Fast.te4214721358667687652]; kernel_rfl
theorem ca9 (E : Sem Value) : Rn p (wf w b) 11 ann cd B 29 (callSpecialIfBoundUnlessNone? (.ref 25) "__hash__" E) ps (S o os D tk) (some (.int (hi9 w.params) (tk + 3))) ps (S o os D (tk + 4)) := rn_at fun K H lv => by rw [PySem.W.Fast.te10295753902157049106, PySem.W.Fast.te14364793385576792824, PySem.W.Fast.te16697807410369149715]; cases b <;> kernel_rfl
theorem up9 (x0 x1 x2 x3 x4 x5 x6 x7 x8 y : DictEntry) : Rn p (wf w b) 11 ann cd B 3 (updateDictKeys 15 (fun x => x.push y) none) ps (S o os (Dd #[x0, x1, x2, x3, x4, x5, x6, x7, x8] 9) tk) () ps (S o os (Dd #[x0, x1, x2, x3, x4, x5, x6, x7, x8, y] 10) tk) := rn_at fun K H lv => by rw [PySem.W.Fast.te10295753902157049106, PySem.W.Fast.te14364793385576792824, PySem.W.Fast.te11826078720135083572]; kernel_rfl
theorem eq0_9 : Rn p (wf w b) 11 ann cd B 16 (eqBool (.ref 16) (.ref 25)) ps (S o os D tk) false ps (S o os D tk) := rn_at fun K H lv => by rw [PySem.W.Fast.te10295753902157049106, PySem.W.Fast.te14364793385576792824, PySem.W.Fast.te13926502685295537346]; cases b <;> kernel_rfl
theorem eq1_9 : Rn p (wf w b) 11 ann cd B 16 (eqBool (.ref 17) (.ref 25)) ps (S o os D tk) false ps (S o os D tk) := rn_at fun K H lv => by rw [PySem.W.Fast.te10295753902157049106, PySem.W.Fast.te14364793385576792824, PySem.W.Fast.te13926502685295537346]; cases b <;> kernel_rfl
theorem eq2_9 : Rn p (wf w b) 11 ann cd B 16 (eqBool (.ref 18) (.ref 25)) ps (S o os D tk) false ps (S o os D tk) := rn_at fun K H lv => by rw [PySem.W.Fast.te10295753902157049106, PySem.W.Fast.te14364793385576792824, PySem.W.Fast.te13926502685295537346]; cases b <;> kernel_rfl
theorem eq3_9 : Rn p (wf w b) 11 ann cd B 16 (eqBool (.ref 19) (.ref 25)) ps (S o os D tk) false ps (S o os D tk) := rn_at fun K H lv => by rw [PySem.W.Fast.te10295753902157049106, PySem.W.Fast.te14364793385576792824, PySem.W.Fast.te13926502685295537346]; cases b <;> kernel_rfl
theorem eq4_9 : Rn p (wf w b) 11 ann cd B 16 (eqBool (.ref 20) (.ref 25)) ps (S o os D tk) false ps (S o os D tk) := rn_at fun K H lv => by rw [PySem.W.Fast.te10295753902157049106, PySem.W.Fast.te14364793385576792824, PySem.W.Fast.te13926502685295537346]; cases b <;> kernel_rfl
theorem eq5_9 : Rn p (wf w b) 11 ann cd B 16 (eqBool (.ref 21) (.ref 25)) ps (S o os D tk) false ps (S o os D tk) := rn_at fun K H lv => by rw [PySem.W.Fast.te10295753902157049106, PySem.W.Fast.te14364793385576792824, PySem.W.Fast.te13926502685295537346]; cases b <;> kernel_rfl
theorem eq6_9 : Rn p (wf w b) 11 ann cd B 16 (eqBool (.ref 22) (.ref 25)) ps (S o os D tk) false ps (S o os D tk) := rn_at fun K H lv => by rw [PySem.W.Fast.te10295753902157049106, PySem.W.Fast.te14364793385576792824, PySem.W.Fast.te13926502685295537346]; cases b <;> kernel_rfl
theorem eq7_9 : Rn p (wf w b) 11 ann cd B 26 (eqBool (.ref 23) (.ref 25)) ps (S o os D tk) false ps (S o os D tk) := rn_at fun K H lv => by rw [PySem.W.Fast.te10295753902157049106, PySem.W.Fast.te14364793385576792824, PySem.W.Fast.te13926502685295537346]; cases b <;> kernel_rfl
theorem eq8_9 : Rn p (wf w b) 11 ann cd B 20 (eqBool (.ref 24) (.ref 25)) ps (S o os D tk) false ps (S o os D tk) := rn_at fun K H lv => by rw [PySem.W.Fast.te10295753902157049106, PySem.W.Fast.te14364793385576792824, PySem.W.Fast.te13926502685295537346]; cases b <;> kernel_rfl
theorem qu10 : Rn p (wf w b) 11 ann cd B 3 (eqIsQuiet 8 (.ref 26)) ps (S o os D tk) true ps (S o os D tk) := rn_at fun K H lv => by rw [PySem.W.Fast.te10295753902157049106, PySem.W.Fast.te14364793385576792824, PySem.W.Fast.te13066428366354244818]; kernel_rfl
theorem ro10 : Rn p (wf w b) 11 ann cd B 1 (cRoomFor "hash" [.ref 26]) ps (S o os D tk) () ps (S o os D tk) := rn_at fun K H lv => by rw [PySem.W.Fast.te10295753902157049106, PySem.W.Fast.te14364793385576792824, PySem.W.Fast.te13383273872528276517]; kernel_rfl
theorem sp10 : Rn p (wf w b) 11 ann cd B 1 (specialOf (.ref 26) "__hash__") ps (S o os D tk) (some (.builtin "tuple.__hash__")) ps (S o os D tk) := rn_at fun K H lv => by rw [PySem.W.Fast.te10295753902157049106, PySem.W.Fast.te14364793385576792824, PySem.W.Fast.te4214721358667687652]; kernel_rfl
theorem ca10 (E : Sem Value) : Rn p (wf w b) 11 ann cd B 29 (callSpecialIfBoundUnlessNone? (.ref 26) "__hash__" E) ps (S o os D tk) (some (.int (hi10 w.params) (tk + 3))) ps (S o os D (tk + 4)) := rn_at fun K H lv => by rw [PySem.W.Fast.te10295753902157049106, PySem.W.Fast.te14364793385576792824, PySem.W.Fast.te16697807410369149715]; cases b <;> kernel_rfl
theorem up10 (x0 x1 x2 x3 x4 x5 x6 x7 x8 x9 y : DictEntry) : Rn p (wf w b) 11 ann cd B 3 (updateDictKeys 15 (fun x => x.push y) none) ps (S o os (Dd #[x0, x1, x2, x3, x4, x5, x6, x7, x8, x9] 10) tk) () ps (S o os (Dd #[x0, x1, x2, x3, x4, x5, x6, x7, x8, x9, y] 11) tk) := rn_at fun K H lv => by rw [PySem.W.Fast.te10295753902157049106, PySem.W.Fast.te14364793385576792824, PySem.W.Fast.te11826078720135083572]; kernel_rfl
theorem eq0_10 : Rn p (wf w b) 11 ann cd B 16 (eqBool (.ref 16) (.ref 26)) ps (S o os D tk) false ps (S o os D tk) := rn_at fun K H lv => by rw [PySem.W.Fast.te10295753902157049106, PySem.W.Fast.te14364793385576792824, PySem.W.Fast.te13926502685295537346]; cases b <;> kernel_rfl
theorem eq1_10 : Rn p (wf w b) 11 ann cd B 16 (eqBool (.ref 17) (.ref 26)) ps (S o os D tk) false ps (S o os D tk) := rn_at fun K H lv => by rw [PySem.W.Fast.te10295753902157049106, PySem.W.Fast.te14364793385576792824, PySem.W.Fast.te13926502685295537346]; cases b <;> kernel_rfl
theorem eq2_10 : Rn p (wf w b) 11 ann cd B 16 (eqBool (.ref 18) (.ref 26)) ps (S o os D tk) false ps (S o os D tk) := rn_at fun K H lv => by rw [PySem.W.Fast.te10295753902157049106, PySem.W.Fast.te14364793385576792824, PySem.W.Fast.te13926502685295537346]; cases b <;> kernel_rfl
theorem eq3_10 : Rn p (wf w b) 11 ann cd B 16 (eqBool (.ref 19) (.ref 26)) ps (S o os D tk) false ps (S o os D tk) := rn_at fun K H lv => by rw [PySem.W.Fast.te10295753902157049106, PySem.W.Fast.te14364793385576792824, PySem.W.Fast.te13926502685295537346]; cases b <;> kernel_rfl
theorem eq4_10 : Rn p (wf w b) 11 ann cd B 16 (eqBool (.ref 20) (.ref 26)) ps (S o os D tk) false ps (S o os D tk) := rn_at fun K H lv => by rw [PySem.W.Fast.te10295753902157049106, PySem.W.Fast.te14364793385576792824, PySem.W.Fast.te13926502685295537346]; cases b <;> kernel_rfl
theorem eq5_10 : Rn p (wf w b) 11 ann cd B 16 (eqBool (.ref 21) (.ref 26)) ps (S o os D tk) false ps (S o os D tk) := rn_at fun K H lv => by rw [PySem.W.Fast.te10295753902157049106, PySem.W.Fast.te14364793385576792824, PySem.W.Fast.te13926502685295537346]; cases b <;> kernel_rfl
theorem eq6_10 : Rn p (wf w b) 11 ann cd B 16 (eqBool (.ref 22) (.ref 26)) ps (S o os D tk) false ps (S o os D tk) := rn_at fun K H lv => by rw [PySem.W.Fast.te10295753902157049106, PySem.W.Fast.te14364793385576792824, PySem.W.Fast.te13926502685295537346]; cases b <;> kernel_rfl
theorem eq7_10 : Rn p (wf w b) 11 ann cd B 26 (eqBool (.ref 23) (.ref 26)) ps (S o os D tk) false ps (S o os D tk) := rn_at fun K H lv => by rw [PySem.W.Fast.te10295753902157049106, PySem.W.Fast.te14364793385576792824, PySem.W.Fast.te13926502685295537346]; cases b <;> kernel_rfl
theorem eq8_10 : Rn p (wf w b) 11 ann cd B 20 (eqBool (.ref 24) (.ref 26)) ps (S o os D tk) false ps (S o os D tk) := rn_at fun K H lv => by rw [PySem.W.Fast.te10295753902157049106, PySem.W.Fast.te14364793385576792824, PySem.W.Fast.te13926502685295537346]; cases b <;> kernel_rfl
theorem eq9_10 : Rn p (wf w b) 11 ann cd B 20 (eqBool (.ref 25) (.ref 26)) ps (S o os D tk) false ps (S o os D tk) := rn_at fun K H lv => by rw [PySem.W.Fast.te10295753902157049106, PySem.W.Fast.te14364793385576792824, PySem.W.Fast.te13926502685295537346]; cases b <;> kernel_rfl
theorem qu11 : Rn p (wf w b) 11 ann cd B 3 (eqIsQuiet 8 (.ref 27)) ps (S o os D tk) true ps (S o os D tk) := rn_at fun K H lv => by rw [PySem.W.Fast.te10295753902157049106, PySem.W.Fast.te14364793385576792824, PySem.W.Fast.te13066428366354244818]; kernel_rfl
theorem ro11 : Rn p (wf w b) 11 ann cd B 1 (cRoomFor "hash" [.ref 27]) ps (S o os D tk) () ps (S o os D tk) := rn_at fun K H lv => by rw [PySem.W.Fast.te10295753902157049106, PySem.W.Fast.te14364793385576792824, PySem.W.Fast.te13383273872528276517]; kernel_rfl
theorem sp11 : Rn p (wf w b) 11 ann cd B 1 (specialOf (.ref 27) "__hash__") ps (S o os D tk) (some (.builtin "tuple.__hash__")) ps (S o os D tk) := rn_at fun K H lv => by rw [PySem.W.Fast.te10295753902157049106, PySem.W.Fast.te14364793385576792824, PySem.W.Fast.te4214721358667687652]; kernel_rfl
theorem ca11 (E : Sem Value) : Rn p (wf w b) 11 ann cd B 29 (callSpecialIfBoundUnlessNone? (.ref 27) "__hash__" E) ps (S o os D tk) (some (.int (hi11 w.params) (tk + 3))) ps (S o os D (tk + 4)) := rn_at fun K H lv => by rw [PySem.W.Fast.te10295753902157049106, PySem.W.Fast.te14364793385576792824, PySem.W.Fast.te16697807410369149715]; cases b <;> kernel_rfl
theorem up11 (x0 x1 x2 x3 x4 x5 x6 x7 x8 x9 x10 y : DictEntry) : Rn p (wf w b) 11 ann cd B 3 (updateDictKeys 15 (fun x => x.push y) none) ps (S o os (Dd #[x0, x1, x2, x3, x4, x5, x6, x7, x8, x9, x10] 11) tk) () ps (S o os (Dd #[x0, x1, x2, x3, x4, x5, x6, x7, x8, x9, x10, y] 12) tk) := rn_at fun K H lv => by rw [PySem.W.Fast.te10295753902157049106, PySem.W.Fast.te14364793385576792824, PySem.W.Fast.te11826078720135083572]; kernel_rfl
theorem eq0_11 : Rn p (wf w b) 11 ann cd B 16 (eqBool (.ref 16) (.ref 27)) ps (S o os D tk) false ps (S o os D tk) := rn_at fun K H lv => by rw [PySem.W.Fast.te10295753902157049106, PySem.W.Fast.te14364793385576792824, PySem.W.Fast.te13926502685295537346]; cases b <;> kernel_rfl
theorem eq1_11 : Rn p (wf w b) 11 ann cd B 16 (eqBool (.ref 17) (.ref 27)) ps (S o os D tk) false ps (S o os D tk) := rn_at fun K H lv => by rw [PySem.W.Fast.te10295753902157049106, PySem.W.Fast.te14364793385576792824, PySem.W.Fast.te13926502685295537346]; cases b <;> kernel_rfl
theorem eq2_11 : Rn p (wf w b) 11 ann cd B 16 (eqBool (.ref 18) (.ref 27)) ps (S o os D tk) false ps (S o os D tk) := rn_at fun K H lv => by rw [PySem.W.Fast.te10295753902157049106, PySem.W.Fast.te14364793385576792824, PySem.W.Fast.te13926502685295537346]; cases b <;> kernel_rfl
theorem eq3_11 : Rn p (wf w b) 11 ann cd B 16 (eqBool (.ref 19) (.ref 27)) ps (S o os D tk) false ps (S o os D tk) := rn_at fun K H lv => by rw [PySem.W.Fast.te10295753902157049106, PySem.W.Fast.te14364793385576792824, PySem.W.Fast.te13926502685295537346]; cases b <;> kernel_rfl
theorem eq4_11 : Rn p (wf w b) 11 ann cd B 16 (eqBool (.ref 20) (.ref 27)) ps (S o os D tk) false ps (S o os D tk) := rn_at fun K H lv => by rw [PySem.W.Fast.te10295753902157049106, PySem.W.Fast.te14364793385576792824, PySem.W.Fast.te13926502685295537346]; cases b <;> kernel_rfl
theorem eq5_11 : Rn p (wf w b) 11 ann cd B 16 (eqBool (.ref 21) (.ref 27)) ps (S o os D tk) false ps (S o os D tk) := rn_at fun K H lv => by rw [PySem.W.Fast.te10295753902157049106, PySem.W.Fast.te14364793385576792824, PySem.W.Fast.te13926502685295537346]; cases b <;> kernel_rfl
theorem eq6_11 : Rn p (wf w b) 11 ann cd B 16 (eqBool (.ref 22) (.ref 27)) ps (S o os D tk) false ps (S o os D tk) := rn_at fun K H lv => by rw [PySem.W.Fast.te10295753902157049106, PySem.W.Fast.te14364793385576792824, PySem.W.Fast.te13926502685295537346]; cases b <;> kernel_rfl
theorem eq7_11 : Rn p (wf w b) 11 ann cd B 26 (eqBool (.ref 23) (.ref 27)) ps (S o os D tk) false ps (S o os D tk) := rn_at fun K H lv => by rw [PySem.W.Fast.te10295753902157049106, PySem.W.Fast.te14364793385576792824, PySem.W.Fast.te13926502685295537346]; cases b <;> kernel_rfl
theorem eq8_11 : Rn p (wf w b) 11 ann cd B 20 (eqBool (.ref 24) (.ref 27)) ps (S o os D tk) false ps (S o os D tk) := rn_at fun K H lv => by rw [PySem.W.Fast.te10295753902157049106, PySem.W.Fast.te14364793385576792824, PySem.W.Fast.te13926502685295537346]; cases b <;> kernel_rfl
theorem eq9_11 : Rn p (wf w b) 11 ann cd B 20 (eqBool (.ref 25) (.ref 27)) ps (S o os D tk) false ps (S o os D tk) := rn_at fun K H lv => by rw [PySem.W.Fast.te10295753902157049106, PySem.W.Fast.te14364793385576792824, PySem.W.Fast.te13926502685295537346]; cases b <;> kernel_rfl
theorem eq10_11 : Rn p (wf w b) 11 ann cd B 20 (eqBool (.ref 26) (.ref 27)) ps (S o os D tk) false ps (S o os D tk) := rn_at fun K H lv => by rw [PySem.W.Fast.te10295753902157049106, PySem.W.Fast.te14364793385576792824, PySem.W.Fast.te13926502685295537346]; cases b <;> kernel_rfl
theorem qu12 : Rn p (wf w b) 11 ann cd B 3 (eqIsQuiet 8 (.ref 28)) ps (S o os D tk) true ps (S o os D tk) := rn_at fun K H lv => by rw [PySem.W.Fast.te10295753902157049106, PySem.W.Fast.te14364793385576792824, PySem.W.Fast.te13066428366354244818]; kernel_rfl
theorem ro12 : Rn p (wf w b) 11 ann cd B 1 (cRoomFor "hash" [.ref 28]) ps (S o os D tk) () ps (S o os D tk) := rn_at fun K H lv => by rw [PySem.W.Fast.te10295753902157049106, PySem.W.Fast.te14364793385576792824, PySem.W.Fast.te13383273872528276517]; kernel_rfl
theorem sp12 : Rn p (wf w b) 11 ann cd B 1 (specialOf (.ref 28) "__hash__") ps (S o os D tk) (some (.builtin "tuple.__hash__")) ps (S o os D tk) := rn_at fun K H lv => by rw [PySem.W.Fast.te10295753902157049106, PySem.W.Fast.te14364793385576792824, PySem.W.Fast.te4214721358667687652]; kernel_rfl
theorem ca12 (E : Sem Value) : Rn p (wf w b) 11 ann cd B 29 (callSpecialIfBoundUnlessNone? (.ref 28) "__hash__" E) ps (S o os D tk) (some (.int (hi12 w.params) (tk + 3))) ps (S o os D (tk + 4)) := rn_at fun K H lv => by rw [PySem.W.Fast.te10295753902157049106, PySem.W.Fast.te14364793385576792824, PySem.W.Fast.te16697807410369149715]; cases b <;> kernel_rfl
theorem up12 (x0 x1 x2 x3 x4 x5 x6 x7 x8 x9 x10 x11 y : DictEntry) : Rn p (wf w b) 11 ann cd B 3 (updateDictKeys 15 (fun x => x.push y) none) ps (S o os (Dd #[x0, x1, x2, x3, x4, x5, x6, x7, x8, x9, x10, x11] 12) tk) () ps (S o os (Dd #[x0, x1, x2, x3, x4, x5, x6, x7, x8, x9, x10, x11, y] 13) tk) := rn_at fun K H lv => by rw [PySem.W.Fast.te10295753902157049106, PySem.W.Fast.te14364793385576792824, PySem.W.Fast.te11826078720135083572]; kernel_rfl
theorem eq0_12 : Rn p (wf w b) 11 ann cd B 16 (eqBool (.ref 16) (.ref 28)) ps (S o os D tk) false ps (S o os D tk) := rn_at fun K H lv => by rw [PySem.W.Fast.te10295753902157049106, PySem.W.Fast.te14364793385576792824, PySem.W.Fast.te13926502685295537346]; cases b <;> kernel_rfl
theorem eq1_12 : Rn p (wf w b) 11 ann cd B 16 (eqBool (.ref 17) (.ref 28)) ps (S o os D tk) false ps (S o os D tk) := rn_at fun K H lv => by rw [PySem.W.Fast.te10295753902157049106, PySem.W.Fast.te14364793385576792824, PySem.W.Fast.te13926502685295537346]; cases b <;> kernel_rfl
theorem eq2_12 : Rn p (wf w b) 11 ann cd B 16 (eqBool (.ref 18) (.ref 28)) ps (S o os D tk) false ps (S o os D tk) := rn_at fun K H lv => by rw [PySem.W.Fast.te10295753902157049106, PySem.W.Fast.te14364793385576792824, PySem.W.Fast.te13926502685295537346]; cases b <;> kernel_rfl
theorem eq3_12 : Rn p (wf w b) 11 ann cd B 16 (eqBool (.ref 19) (.ref 28)) ps (S o os D tk) false ps (S o os D tk) := rn_at fun K H lv => by rw [PySem.W.Fast.te10295753902157049106, PySem.W.Fast.te14364793385576792824, PySem.W.Fast.te13926502685295537346]; cases b <;> kernel_rfl
theorem eq4_12 : Rn p (wf w b) 11 ann cd B 16 (eqBool (.ref 20) (.ref 28)) ps (S o os D tk) false ps (S o os D tk) := rn_at fun K H lv => by rw [PySem.W.Fast.te10295753902157049106, PySem.W.Fast.te14364793385576792824, PySem.W.Fast.te13926502685295537346]; cases b <;> kernel_rfl
theorem eq5_12 : Rn p (wf w b) 11 ann cd B 16 (eqBool (.ref 21) (.ref 28)) ps (S o os D tk) false ps (S o os D tk) := rn_at fun K H lv => by rw [PySem.W.Fast.te10295753902157049106, PySem.W.Fast.te14364793385576792824, PySem.W.Fast.te13926502685295537346]; cases b <;> kernel_rfl
theorem eq6_12 : Rn p (wf w b) 11 ann cd B 16 (eqBool (.ref 22) (.ref 28)) ps (S o os D tk) false ps (S o os D tk) := rn_at fun K H lv => by rw [PySem.W.Fast.te10295753902157049106, PySem.W.Fast.te14364793385576792824, PySem.W.Fast.te13926502685295537346]; cases b <;> kernel_rfl
theorem eq7_12 : Rn p (wf w b) 11 ann cd B 26 (eqBool (.ref 23) (.ref 28)) ps (S o os D tk) false ps (S o os D tk) := rn_at fun K H lv => by rw [PySem.W.Fast.te10295753902157049106, PySem.W.Fast.te14364793385576792824, PySem.W.Fast.te13926502685295537346]; cases b <;> kernel_rfl
theorem eq8_12 : Rn p (wf w b) 11 ann cd B 20 (eqBool (.ref 24) (.ref 28)) ps (S o os D tk) false ps (S o os D tk) := rn_at fun K H lv => by rw [PySem.W.Fast.te10295753902157049106, PySem.W.Fast.te14364793385576792824, PySem.W.Fast.te13926502685295537346]; cases b <;> kernel_rfl
theorem eq9_12 : Rn p (wf w b) 11 ann cd B 20 (eqBool (.ref 25) (.ref 28)) ps (S o os D tk) false ps (S o os D tk) := rn_at fun K H lv => by rw [PySem.W.Fast.te10295753902157049106, PySem.W.Fast.te14364793385576792824, PySem.W.Fast.te13926502685295537346]; cases b <;> kernel_rfl
theorem eq10_12 : Rn p (wf w b) 11 ann cd B 24 (eqBool (.ref 26) (.ref 28)) ps (S o os D tk) false ps (S o os D tk) := rn_at fun K H lv => by rw [PySem.W.Fast.te10295753902157049106, PySem.W.Fast.te14364793385576792824, PySem.W.Fast.te13926502685295537346]; cases b <;> kernel_rfl
theorem eq11_12 : Rn p (wf w b) 11 ann cd B 20 (eqBool (.ref 27) (.ref 28)) ps (S o os D tk) false ps (S o os D tk) := rn_at fun K H lv => by rw [PySem.W.Fast.te10295753902157049106, PySem.W.Fast.te14364793385576792824, PySem.W.Fast.te13926502685295537346]; cases b <;> kernel_rfl
theorem qu13 : Rn p (wf w b) 11 ann cd B 3 (eqIsQuiet 8 (.ref 29)) ps (S o os D tk) true ps (S o os D tk) := rn_at fun K H lv => by rw [PySem.W.Fast.te10295753902157049106, PySem.W.Fast.te14364793385576792824, PySem.W.Fast.te13066428366354244818]; kernel_rfl
theorem ro13 : Rn p (wf w b) 11 ann cd B 1 (cRoomFor "hash" [.ref 29]) ps (S o os D tk) () ps (S o os D tk) := rn_at fun K H lv => by rw [PySem.W.Fast.te10295753902157049106, PySem.W.Fast.te14364793385576792824, PySem.W.Fast.te13383273872528276517]; kernel_rfl
theorem sp13 : Rn p (wf w b) 11 ann cd B 1 (specialOf (.ref 29) "__hash__") ps (S o os D tk) (some (.builtin "tuple.__hash__")) ps (S o os D tk) := rn_at fun K H lv => by rw [PySem.W.Fast.te10295753902157049106, PySem.W.Fast.te14364793385576792824, PySem.W.Fast.te4214721358667687652]; kernel_rfl
theorem ca13 (E : Sem Value) : Rn p (wf w b) 11 ann cd B 29 (callSpecialIfBoundUnlessNone? (.ref 29) "__hash__" E) ps (S o os D tk) (some (.int (hi13 w.params) (tk + 3))) ps (S o os D (tk + 4)) := rn_at fun K H lv => by rw [PySem.W.Fast.te10295753902157049106, PySem.W.Fast.te14364793385576792824, PySem.W.Fast.te16697807410369149715]; cases b <;> kernel_rfl
theorem up13 (x0 x1 x2 x3 x4 x5 x6 x7 x8 x9 x10 x11 x12 y : DictEntry) : Rn p (wf w b) 11 ann cd B 3 (updateDictKeys 15 (fun x => x.push y) none) ps (S o os (Dd #[x0, x1, x2, x3, x4, x5, x6, x7, x8, x9, x10, x11, x12] 13) tk) () ps (S o os (Dd #[x0, x1, x2, x3, x4, x5, x6, x7, x8, x9, x10, x11, x12, y] 14) tk) := rn_at fun K H lv => by rw [PySem.W.Fast.te10295753902157049106, PySem.W.Fast.te14364793385576792824, PySem.W.Fast.te11826078720135083572]; kernel_rfl
theorem eq0_13 : Rn p (wf w b) 11 ann cd B 16 (eqBool (.ref 16) (.ref 29)) ps (S o os D tk) false ps (S o os D tk) := rn_at fun K H lv => by rw [PySem.W.Fast.te10295753902157049106, PySem.W.Fast.te14364793385576792824, PySem.W.Fast.te13926502685295537346]; cases b <;> kernel_rfl
theorem eq1_13 : Rn p (wf w b) 11 ann cd B 16 (eqBool (.ref 17) (.ref 29)) ps (S o os D tk) false ps (S o os D tk) := rn_at fun K H lv => by rw [PySem.W.Fast.te10295753902157049106, PySem.W.Fast.te14364793385576792824, PySem.W.Fast.te13926502685295537346]; cases b <;> kernel_rfl
theorem eq2_13 : Rn p (wf w b) 11 ann cd B 16 (eqBool (.ref 18) (.ref 29)) ps (S o os D tk) false ps (S o os D tk) := rn_at fun K H lv => by rw [PySem.W.Fast.te10295753902157049106, PySem.W.Fast.te14364793385576792824, PySem.W.Fast.te13926502685295537346]; cases b <;> kernel_rfl
theorem eq3_13 : Rn p (wf w b) 11 ann cd B 16 (eqBool (.ref 19) (.ref 29)) ps (S o os D tk) false ps (S o os D tk) := rn_at fun K H lv => by rw [PySem.W.Fast.te10295753902157049106, PySem.W.Fast.te14364793385576792824, PySem.W.Fast.te13926502685295537346]; cases b <;> kernel_rfl
theorem eq4_13 : Rn p (wf w b) 11 ann cd B 16 (eqBool (.ref 20) (.ref 29)) ps (S o os D tk) false ps (S o os D tk) := rn_at fun K H lv => by rw [PySem.W.Fast.te10295753902157049106, PySem.W.Fast.te14364793385576792824, PySem.W.Fast.te13926502685295537346]; cases b <;> kernel_rfl
theorem eq5_13 : Rn p (wf w b) 11 ann cd B 16 (eqBool (.ref 21) (.ref 29)) ps (S o os D tk) false ps (S o os D tk) := rn_at fun K H lv => by rw [PySem.W.Fast.te10295753902157049106, PySem.W.Fast.te14364793385576792824, PySem.W.Fast.te13926502685295537346]; cases b <;> kernel_rfl
theorem eq6_13 : Rn p (wf w b) 11 ann cd B 16 (eqBool (.ref 22) (.ref 29)) ps (S o os D tk) false ps (S o os D tk) := rn_at fun K H lv => by rw [PySem.W.Fast.te10295753902157049106, PySem.W.Fast.te14364793385576792824, PySem.W.Fast.te13926502685295537346]; cases b <;> kernel_rfl
theorem eq7_13 : Rn p (wf w b) 11 ann cd B 26 (eqBool (.ref 23) (.ref 29)) ps (S o os D tk) false ps (S o os D tk) := rn_at fun K H lv => by rw [PySem.W.Fast.te10295753902157049106, PySem.W.Fast.te14364793385576792824, PySem.W.Fast.te13926502685295537346]; cases b <;> kernel_rfl
theorem eq8_13 : Rn p (wf w b) 11 ann cd B 20 (eqBool (.ref 24) (.ref 29)) ps (S o os D tk) false ps (S o os D tk) := rn_at fun K H lv => by rw [PySem.W.Fast.te10295753902157049106, PySem.W.Fast.te14364793385576792824, PySem.W.Fast.te13926502685295537346]; cases b <;> kernel_rfl
theorem eq9_13 : Rn p (wf w b) 11 ann cd B 20 (eqBool (.ref 25) (.ref 29)) ps (S o os D tk) false ps (S o os D tk) := rn_at fun K H lv => by rw [PySem.W.Fast.te10295753902157049106, PySem.W.Fast.te14364793385576792824, PySem.W.Fast.te13926502685295537346]; cases b <;> kernel_rfl
theorem eq10_13 : Rn p (wf w b) 11 ann cd B 20 (eqBool (.ref 26) (.ref 29)) ps (S o os D tk) false ps (S o os D tk) := rn_at fun K H lv => by rw [PySem.W.Fast.te10295753902157049106, PySem.W.Fast.te14364793385576792824, PySem.W.Fast.te13926502685295537346]; cases b <;> kernel_rfl
theorem eq11_13 : Rn p (wf w b) 11 ann cd B 24 (eqBool (.ref 27) (.ref 29)) ps (S o os D tk) false ps (S o os D tk) := rn_at fun K H lv => by rw [PySem.W.Fast.te10295753902157049106, PySem.W.Fast.te14364793385576792824, PySem.W.Fast.te13926502685295537346]; cases b <;> kernel_rfl
theorem eq12_13 : Rn p (wf w b) 11 ann cd B 20 (eqBool (.ref 28) (.ref 29)) ps (S o os D tk) false ps (S o os D tk) := rn_at fun K H lv => by rw [PySem.W.Fast.te10295753902157049106, PySem.W.Fast.te14364793385576792824, PySem.W.Fast.te13926502685295537346]; cases b <;> kernel_rfl
theorem fi0 (h : Int) : Rn p (wf w b) 11 ann cd B 797 (dictFind 15 (.ref 16) h) ps (S o os (Dd #[] 0) tk) none ps (S o os (Dd #[] 0) tk) := by
  refine find_none (m := 26) (L := 14) (es := #[]) (Nat.le_of_ble_eq_true rfl) (ru w b o os _ tk ps) (den w b o os tk ps _ _) (dep w b o os tk ps _ _) ((qu0 w b o os _ tk ps).more (by decide)) ?_
  exact List.forall_mem_nil _
theorem se0 : Rn p (wf w b) 11 ann cd B 832 (dictSet 15 (.ref 16) (.str "asked" 191)) ps (S o os (Dd #[] 0) tk) () ps (S o os (Dd #[en0 w.params] 1) (tk + 4)) :=
  (set_new (h := reduceHash (hi0 w.params)) (ru w b o os _ (tk + 4) ps) (hash_tup (ru w b o os _ (tk + 4) ps) (ro0 w b o os _ tk ps) (sp0 w b o os _ tk ps) (ca0 w b o os _ tk ps)) (fi0 w b o os (tk + 4) ps _) (up0 w b o os (tk + 4) ps  (en0 w.params))).more (by decide)
theorem fi1 (h : Int) : Rn p (wf w b) 11 ann cd B 797 (dictFind 15 (.ref 17) h) ps (S o os (Dd #[en0 w.params] 1) tk) none ps (S o os (Dd #[en0 w.params] 1) tk) := by
  refine find_none (m := 26) (L := 14) (es := #[en0 w.params]) (Nat.le_of_ble_eq_true rfl) (ru w b o os _ tk ps) (den w b o os tk ps _ _) (dep w b o os tk ps _ _) ((qu1 w b o os _ tk ps).more (by decide)) ?_
  refine List.forall_mem_cons.mpr ⟨⟨⟨16, rfl, by decide⟩, (qu0 w b o os _ tk ps).more (by decide), (eq0_1 w b o os _ tk ps).more (by decide)⟩, ?_⟩
  exact List.forall_mem_nil _
theorem se1 : Rn p (wf w b) 11 ann cd B 834 (dictSet 15 (.ref 17) (.str "asked" 195)) ps (S o os (Dd #[en0 w.params] 1) tk) () ps (S o os (Dd #[en0 w.params, en1 w.params] 2) (tk + 4)) :=
  (set_new (h := reduceHash (hi1 w.params)) (ru w b o os _ (tk + 4) ps) (hash_tup (ru w b o os _ (tk + 4) ps) (ro1 w b o os _ tk ps) (sp1 w b o os _ tk ps) (ca1 w b o os _ tk ps)) (fi1 w b o os (tk + 4) ps _) (up1 w b o os (tk + 4) ps (en0 w.params) (en1 w.params))).more (by decide)
theorem fi2 (h : Int) : Rn p (wf w b) 11 ann cd B 797 (dictFind 15 (.ref 18) h) ps (S o os (Dd #[en0 w.params, en1 w.params] 2) tk) none ps (S o os (Dd #[en0 w.params, en1 w.params] 2) tk) := by
  refine find_none (m := 26) (L := 14) (es := #[en0 w.params, en1 w.params]) (Nat.le_of_ble_eq_true rfl) (ru w b o os _ tk ps) (den w b o os tk ps _ _) (dep w b o os tk ps _ _) ((qu2 w b o os _ tk ps).more (by decide)) ?_
  refine List.forall_mem_cons.mpr ⟨⟨⟨16, rfl, by decide⟩, (qu0 w b o os _ tk ps).more (by decide), (eq0_2 w b o os _ tk ps).more (by decide)⟩, ?_⟩
  refine List.forall_mem_cons.mpr ⟨⟨⟨17, rfl, by decide⟩, (qu1 w b o os _ tk ps).more (by decide), (eq1_2 w b o os _ tk ps).more (by decide)⟩, ?_⟩
  exact List.forall_mem_nil _
theorem se2 : Rn p (wf w b) 11 ann cd B 834 (dictSet 15 (.ref 18) (.str "up" 199)) ps (S o os (Dd #[en0 w.params, en1 w.params] 2) tk) () ps (S o os (Dd #[en0 w.params, en1 w.params, en2 w.params] 3) (tk + 4)) :=
  (set_new (h := reduceHash (hi2 w.params)) (ru w b o os _ (tk + 4) ps) (hash_tup (ru w b o os _ (tk + 4) ps) (ro2 w b o os _ tk ps) (sp2 w b o os _ tk ps) (ca2 w b o os _ tk ps)) (fi2 w b o os (tk + 4) ps _) (up2 w b o os (tk + 4) ps (en0 w.params) (en1 w.params) (en2 w.params))).more (by decide)
theorem fi3 (h : Int) : Rn p (wf w b) 11 ann cd B 797 (dictFind 15 (.ref 19) h) ps (S o os (Dd #[en0 w.params, en1 w.params, en2 w.params] 3) tk) none ps (S o os (Dd #[en0 w.params, en1 w.params, en2 w.params] 3) tk) := by
  refine find_none (m := 26) (L := 14) (es := #[en0 w.params, en1 w.params, en2 w.params]) (Nat.le_of_ble_eq_true rfl) (ru w b o os _ tk ps) (den w b o os tk ps _ _) (dep w b o os tk ps _ _) ((qu3 w b o os _ tk ps).more (by decide)) ?_
  refine List.forall_mem_cons.mpr ⟨⟨⟨16, rfl, by decide⟩, (qu0 w b o os _ tk ps).more (by decide), (eq0_3 w b o os _ tk ps).more (by decide)⟩, ?_⟩
  refine List.forall_mem_cons.mpr ⟨⟨⟨17, rfl, by decide⟩, (qu1 w b o os _ tk ps).more (by decide), (eq1_3 w b o os _ tk ps).more (by decide)⟩, ?_⟩
  refine List.forall_mem_cons.mpr ⟨⟨⟨18, rfl, by decide⟩, (qu2 w b o os _ tk ps).more (by decide), (eq2_3 w b o os _ tk ps).more (by decide)⟩, ?_⟩
  exact List.forall_mem_nil _
theorem se3 : Rn p (wf w b) 11 ann cd B 834 (dictSet 15 (.ref 19) (.str "up" 203)) ps (S o os (Dd #[en0 w.params, en1 w.params, en2 w.params] 3) tk) () ps (S o os (Dd #[en0 w.params, en1 w.params, en2 w.params, en3 w.params] 4) (tk + 4)) :=
  (set_new (h := reduceHash (hi3 w.params)) (ru w b o os _ (tk + 4) ps) (hash_tup (ru w b o os _ (tk + 4) ps) (ro3 w b o os _ tk ps) (sp3 w b o os _ tk ps) (ca3 w b o os _ tk ps)) (fi3 w b o os (tk + 4) ps _) (up3 w b o os (tk + 4) ps (en0 w.params) (en1 w.params) (en2 w.params) (en3 w.params))).more (by decide)
theorem fi4 (h : Int) : Rn p (wf w b) 11 ann cd B 797 (dictFind 15 (.ref 20) h) ps (S o os (Dd #[en0 w.params, en1 w.params, en2 w.params, en3 w.params] 4) tk) none ps (S o os (Dd #[en0 w.params, en1 w.params, en2 w.params, en3 w.params] 4) tk) := by
  refine find_none (m := 26) (L := 14) (es := #[en0 w.params, en1 w.params, en2 w.params, en3 w.params]) (Nat.le_of_ble_eq_true rfl) (ru w b o os _ tk ps) (den w b o os tk ps _ _) (dep w b o os tk ps _ _) ((qu4 w b o os _ tk ps).more (by decide)) ?_
  refine List.forall_mem_cons.mpr ⟨⟨⟨16, rfl, by decide⟩, (qu0 w b o os _ tk ps).more (by decide), (eq0_4 w b o os _ tk ps).more (by decide)⟩, ?_⟩
  refine List.forall_mem_cons.mpr ⟨⟨⟨17, rfl, by decide⟩, (qu1 w b o os _ tk ps).more (by decide), (eq1_4 w b o os _ tk ps).more (by decide)⟩, ?_⟩
  refine List.forall_mem_cons.mpr ⟨⟨⟨18, rfl, by decide⟩, (qu2 w b o os _ tk ps).more (by decide), (eq2_4 w b o os _ tk ps).more (by decide)⟩, ?_⟩
  refine List.forall_mem_cons.mpr ⟨⟨⟨19, rfl, by decide⟩, (qu3 w b o os _ tk ps).more (by decide), (eq3_4 w b o os _ tk ps).more (by decide)⟩, ?_⟩
  exact List.forall_mem_nil _
theorem se4 : Rn p (wf w b) 11 ann cd B 834 (dictSet 15 (.ref 20) (.str "far" 207)) ps (S o os (Dd #[en0 w.params, en1 w.params, en2 w.params, en3 w.params] 4) tk) () ps (S o os (Dd #[en0 w.params, en1 w.params, en2 w.params, en3 w.params, en4 w.params] 5) (tk + 4)) :=
  (set_new (h := reduceHash (hi4 w.params)) (ru w b o os _ (tk + 4) ps) (hash_tup (ru w b o os _ (tk + 4) ps) (ro4 w b o os _ tk ps) (sp4 w b o os _ tk ps) (ca4 w b o os _ tk ps)) (fi4 w b o os (tk + 4) ps _) (up4 w b o os (tk + 4) ps (en0 w.params) (en1 w.params) (en2 w.params) (en3 w.params) (en4 w.params))).more (by decide)
theorem fi5 (h : Int) : Rn p (wf w b) 11 ann cd B 797 (dictFind 15 (.ref 21) h) ps (S o os (Dd #[en0 w.params, en1 w.params, en2 w.params, en3 w.params, en4 w.params] 5) tk) none ps (S o os (Dd #[en0 w.params, en1 w.params, en2 w.params, en3 w.params, en4 w.params] 5) tk) := by
  refine find_none (m := 26) (L := 14) (es := #[en0 w.params, en1 w.params, en2 w.params, en3 w.params, en4 w.params]) (Nat.le_of_ble_eq_true rfl) (ru w b o os _ tk ps) (den w b o os tk ps _ _) (dep w b o os tk ps _ _) ((qu5 w b o os _ tk ps).more (by decide)) ?_
  refine List.forall_mem_cons.mpr ⟨⟨⟨16, rfl, by decide⟩, (qu0 w b o os _ tk ps).more (by decide), (eq0_5 w b o os _ tk ps).more (by decide)⟩, ?_⟩
  refine List.forall_mem_cons.mpr ⟨⟨⟨17, rfl, by decide⟩, (qu1 w b o os _ tk ps).more (by decide), (eq1_5 w b o os _ tk ps).more (by decide)⟩, ?_⟩
  refine List.forall_mem_cons.mpr ⟨⟨⟨18, rfl, by decide⟩, (qu2 w b o os _ tk ps).more (by decide), (eq2_5 w b o os _ tk ps).more (by decide)⟩, ?_⟩
  refine List.forall_mem_cons.mpr ⟨⟨⟨19, rfl, by decide⟩, (qu3 w b o os _ tk ps).more (by decide), (eq3_5 w b o os _ tk ps).more (by decide)⟩, ?_⟩
  refine List.forall_mem_cons.mpr ⟨⟨⟨20, rfl, by decide⟩, (qu4 w b o os _ tk ps).more (by decide), (eq4_5 w b o os _ tk ps).more (by decide)⟩, ?_⟩
  exact List.forall_mem_nil _
theorem se5 : Rn p (wf w b) 11 ann cd B 834 (dictSet 15 (.ref 21) (.str "near" 211)) ps (S o os (Dd #[en0 w.params, en1 w.params, en2 w.params, en3 w.params, en4 w.params] 5) tk) () ps (S o os (Dd #[en0 w.params, en1 w.params, en2 w.params, en3 w.params, en4 w.params, en5 w.params] 6) (tk + 4)) :=
  (set_new (h := reduceHash (hi5 w.params)) (ru w b o os _ (tk + 4) ps) (hash_tup (ru w b o os _ (tk + 4) ps) (ro5 w b o os _ tk ps) (sp5 w b o os _ tk ps) (ca5 w b o os _ tk ps)) (fi5 w b o os (tk + 4) ps _) (up5 w b o os (tk + 4) ps (en0 w.params) (en1 w.params) (en2 w.params) (en3 w.params) (en4 w.params) (en5 w.params))).more (by decide)
theorem fi6 (h : Int) : Rn p (wf w b) 11 ann cd B 797 (dictFind 15 (.ref 22) h) ps (S o os (Dd #[en0 w.params, en1 w.params, en2 w.params, en3 w.params, en4 w.params, en5 w.params] 6) tk) none ps (S o os (Dd #[en0 w.params, en1 w.params, en2 w.params, en3 w.params, en4 w.params, en5 w.params] 6) tk) := by
  refine find_none (m := 26) (L := 14) (es := #[en0 w.params, en1 w.params, en2 w.params, en3 w.params, en4 w.params, en5 w.params]) (Nat.le_of_ble_eq_true rfl) (ru w b o os _ tk ps) (den w b o os tk ps _ _) (dep w b o os tk ps _ _) ((qu6 w b o os _ tk ps).more (by decide)) ?_
  refine List.forall_mem_cons.mpr ⟨⟨⟨16, rfl, by decide⟩, (qu0 w b o os _ tk ps).more (by decide), (eq0_6 w b o os _ tk ps).more (by decide)⟩, ?_⟩
  refine List.forall_mem_cons.mpr ⟨⟨⟨17, rfl, by decide⟩, (qu1 w b o os _ tk ps).more (by decide), (eq1_6 w b o os _ tk ps).more (by decide)⟩, ?_⟩
  refine List.forall_mem_cons.mpr ⟨⟨⟨18, rfl, by decide⟩, (qu2 w b o os _ tk ps).more (by decide), (eq2_6 w b o os _ tk ps).more (by decide)⟩, ?_⟩
  refine List.forall_mem_cons.mpr ⟨⟨⟨19, rfl, by decide⟩, (qu3 w b o os _ tk ps).more (by decide), (eq3_6 w b o os _ tk ps).more (by decide)⟩, ?_⟩
  refine List.forall_mem_cons.mpr ⟨⟨⟨20, rfl, by decide⟩, (qu4 w b o os _ tk ps).more (by decide), (eq4_6 w b o os _ tk ps).more (by decide)⟩, ?_⟩
  refine List.forall_mem_cons.mpr ⟨⟨⟨21, rfl, by decide⟩, (qu5 w b o os _ tk ps).more (by decide), (eq5_6 w b o os _ tk ps).more (by decide)⟩, ?_⟩
  exact List.forall_mem_nil _
theorem se6 : Rn p (wf w b) 11 ann cd B 834 (dictSet 15 (.ref 22) (.str "shut" 215)) ps (S o os (Dd #[en0 w.params, en1 w.params, en2 w.params, en3 w.params, en4 w.params, en5 w.params] 6) tk) () ps (S o os (Dd #[en0 w.params, en1 w.params, en2 w.params, en3 w.params, en4 w.params, en5 w.params, en6 w.params] 7) (tk + 4)) :=
  (set_new (h := reduceHash (hi6 w.params)) (ru w b o os _ (tk + 4) ps) (hash_tup (ru w b o os _ (tk + 4) ps) (ro6 w b o os _ tk ps) (sp6 w b o os _ tk ps) (ca6 w b o os _ tk ps)) (fi6 w b o os (tk + 4) ps _) (up6 w b o os (tk + 4) ps (en0 w.params) (en1 w.params) (en2 w.params) (en3 w.params) (en4 w.params) (en5 w.params) (en6 w.params))).more (by decide)
theorem fi7 (h : Int) : Rn p (wf w b) 11 ann cd B 797 (dictFind 15 (.ref 23) h) ps (S o os (Dd #[en0 w.params, en1 w.params, en2 w.params, en3 w.params, en4 w.params, en5 w.params, en6 w.params] 7) tk) none ps (S o os (Dd #[en0 w.params, en1 w.params, en2 w.params, en3 w.params, en4 w.params, en5 w.params, en6 w.params] 7) tk) := by
  refine find_none (m := 26) (L := 14) (es := #[en0 w.params, en1 w.params, en2 w.params, en3 w.params, en4 w.params, en5 w.params, en6 w.params]) (Nat.le_of_ble_eq_true rfl) (ru w b o os _ tk ps) (den w b o os tk ps _ _) (dep w b o os tk ps _ _) ((qu7 w b o os _ tk ps).more (by decide)) ?_
  refine List.forall_mem_cons.mpr ⟨⟨⟨16, rfl, by decide⟩, (qu0 w b o os _ tk ps).more (by decide), (eq0_7 w b o os _ tk ps).more (by decide)⟩, ?_⟩
  refine List.forall_mem_cons.mpr ⟨⟨⟨17, rfl, by decide⟩, (qu1 w b o os _ tk ps).more (by decide), (eq1_7 w b o os _ tk ps).more (by decide)⟩, ?_⟩
  refine List.forall_mem_cons.mpr ⟨⟨⟨18, rfl, by decide⟩, (qu2 w b o os _ tk ps).more (by decide), (eq2_7 w b o os _ tk ps).more (by decide)⟩, ?_⟩
  refine List.forall_mem_cons.mpr ⟨⟨⟨19, rfl, by decide⟩, (qu3 w b o os _ tk ps).more (by decide), (eq3_7 w b o os _ tk ps).more (by decide)⟩, ?_⟩
  refine List.forall_mem_cons.mpr ⟨⟨⟨20, rfl, by decide⟩, (qu4 w b o os _ tk ps).more (by decide), (eq4_7 w b o os _ tk ps).more (by decide)⟩, ?_⟩
  refine List.forall_mem_cons.mpr ⟨⟨⟨21, rfl, by decide⟩, (qu5 w b o os _ tk ps).more (by decide), (eq5_7 w b o os _ tk ps).more (by decide)⟩, ?_⟩
  refine List.forall_mem_cons.mpr ⟨⟨⟨22, rfl, by decide⟩, (qu6 w b o os _ tk ps).more (by decide), (eq6_7 w b o os _ tk ps).more (by decide)⟩, ?_⟩
  exact List.forall_mem_nil _
theorem se7 : Rn p (wf w b) 11 ann cd B 832 (dictSet 15 (.ref 23) (.str "called" 218)) ps (S o os (Dd #[en0 w.params, en1 w.params, en2 w.params, en3 w.params, en4 w.params, en5 w.params, en6 w.params] 7) tk) () ps (S o os (Dd #[en0 w.params, en1 w.params, en2 w.params, en3 w.params, en4 w.params, en5 w.params, en6 w.params, en7 w.params] 8) (tk + 4)) :=
  (set_new (h := reduceHash (hi7 w.params)) (ru w b o os _ (tk + 4) ps) (hash_tup (ru w b o os _ (tk + 4) ps) (ro7 w b o os _ tk ps) (sp7 w b o os _ tk ps) (ca7 w b o os _ tk ps)) (fi7 w b o os (tk + 4) ps _) (up7 w b o os (tk + 4) ps (en0 w.params) (en1 w.params) (en2 w.params) (en3 w.params) (en4 w.params) (en5 w.params) (en6 w.params) (en7 w.params))).more (by decide)
theorem fi8 (h : Int) : Rn p (wf w b) 11 ann cd B 797 (dictFind 15 (.ref 24) h) ps (S o os (Dd #[en0 w.params, en1 w.params, en2 w.params, en3 w.params, en4 w.params, en5 w.params, en6 w.params, en7 w.params] 8) tk) none ps (S o os (Dd #[en0 w.params, en1 w.params, en2 w.params, en3 w.params, en4 w.params, en5 w.params, en6 w.params, en7 w.params] 8) tk) := by
  refine find_none (m := 26) (L := 14) (es := #[en0 w.params, en1 w.params, en2 w.params, en3 w.params, en4 w.params, en5 w.params, en6 w.params, en7 w.params]) (Nat.le_of_ble_eq_true rfl) (ru w b o os _ tk ps) (den w b o os tk ps _ _) (dep w b o os tk ps _ _) ((qu8 w b o os _ tk ps).more (by decide)) ?_
  refine List.forall_mem_cons.mpr ⟨⟨⟨16, rfl, by decide⟩, (qu0 w b o os _ tk ps).more (by decide), (eq0_8 w b o os _ tk ps).more (by decide)⟩, ?_⟩
  refine List.forall_mem_cons.mpr ⟨⟨⟨17, rfl, by decide⟩, (qu1 w b o os _ tk ps).more (by decide), (eq1_8 w b o os _ tk ps).more (by decide)⟩, ?_⟩
  refine List.forall_mem_cons.mpr ⟨⟨⟨18, rfl, by decide⟩, (qu2 w b o os _ tk ps).more (by decide), (eq2_8 w b o os _ tk ps).more (by decide)⟩, ?_⟩
  refine List.forall_mem_cons.mpr ⟨⟨⟨19, rfl, by decide⟩, (qu3 w b o os _ tk ps).more (by decide), (eq3_8 w b o os _ tk ps).more (by decide)⟩, ?_⟩
  refine List.forall_mem_cons.mpr ⟨⟨⟨20, rfl, by decide⟩, (qu4 w b o os _ tk ps).more (by decide), (eq4_8 w b o os _ tk ps).more (by decide)⟩, ?_⟩
  refine List.forall_mem_cons.mpr ⟨⟨⟨21, rfl, by decide⟩, (qu5 w b o os _ tk ps).more (by decide), (eq5_8 w b o os _ tk ps).more (by decide)⟩, ?_⟩
  refine List.forall_mem_cons.mpr ⟨⟨⟨22, rfl, by decide⟩, (qu6 w b o os _ tk ps).more (by decide), (eq6_8 w b o os _ tk ps).more (by decide)⟩, ?_⟩
  refine List.forall_mem_cons.mpr ⟨⟨⟨23, rfl, by decide⟩, (qu7 w b o os _ tk ps).more (by decide), (eq7_8 w b o os _ tk ps).more (by decide)⟩, ?_⟩
  exact List.forall_mem_nil _
theorem se8 : Rn p (wf w b) 11 ann cd B 834 (dictSet 15 (.ref 24) (.str "called" 222)) ps (S o os (Dd #[en0 w.params, en1 w.params, en2 w.params, en3 w.params, en4 w.params, en5 w.params, en6 w.params, en7 w.params] 8) tk) () ps (S o os (Dd #[en0 w.params, en1 w.params, en2 w.params, en3 w.params, en4 w.params, en5 w.params, en6 w.params, en7 w.params, en8 w.params] 9) (tk + 4)) :=
  (set_new (h := reduceHash (hi8 w.params)) (ru w b o os _ (tk + 4) ps) (hash_tup (ru w b o os _ (tk + 4) ps) (ro8 w b o os _ tk ps) (sp8 w b o os _ tk ps) (ca8 w b o os _ tk ps)) (fi8 w b o os (tk + 4) ps _) (up8 w b o os (tk + 4) ps (en0 w.params) (en1 w.params) (en2 w.params) (en3 w.params) (en4 w.params) (en5 w.params) (en6 w.params) (en7 w.params) (en8 w.params))).more (by decide)
theorem fi9 (h : Int) : Rn p (wf w b) 11 ann cd B 797 (dictFind 15 (.ref 25) h) ps (S o os (Dd #[en0 w.params, en1 w.params, en2 w.params, en3 w.params, en4 w.params, en5 w.params, en6 w.params, en7 w.params, en8 w.params] 9) tk) none ps (S o os (Dd #[en0 w.params, en1 w.params, en2 w.params, en3 w.params, en4 w.params, en5 w.params, en6 w.params, en7 w.params, en8 w.params] 9) tk) := by
  refine find_none (m := 26) (L := 14) (es := #[en0 w.params, en1 w.params, en2 w.params, en3 w.params, en4 w.params, en5 w.params, en6 w.params, en7 w.params, en8 w.params]) (Nat.le_of_ble_eq_true rfl) (ru w b o os _ tk ps) (den w b o os tk ps _ _) (dep w b o os tk ps _ _) ((qu9 w b o os _ tk ps).more (by decide)) ?_
  refine List.forall_mem_cons.mpr ⟨⟨⟨16, rfl, by decide⟩, (qu0 w b o os _ tk ps).more (by decide), (eq0_9 w b o os _ tk ps).more (by decide)⟩, ?_⟩
  refine List.forall_mem_cons.mpr ⟨⟨⟨17, rfl, by decide⟩, (qu1 w b o os _ tk ps).more (by decide), (eq1_9 w b o os _ tk ps).more (by decide)⟩, ?_⟩
  refine List.forall_mem_cons.mpr ⟨⟨⟨18, rfl, by decide⟩, (qu2 w b o os _ tk ps).more (by decide), (eq2_9 w b o os _ tk ps).more (by decide)⟩, ?_⟩
  refine List.forall_mem_cons.mpr ⟨⟨⟨19, rfl, by decide⟩, (qu3 w b o os _ tk ps).more (by decide), (eq3_9 w b o os _ tk ps).more (by decide)⟩, ?_⟩
  refine List.forall_mem_cons.mpr ⟨⟨⟨20, rfl, by decide⟩, (qu4 w b o os _ tk ps).more (by decide), (eq4_9 w b o os _ tk ps).more (by decide)⟩, ?_⟩
  refine List.forall_mem_cons.mpr ⟨⟨⟨21, rfl, by decide⟩, (qu5 w b o os _ tk ps).more (by decide), (eq5_9 w b o os _ tk ps).more (by decide)⟩, ?_⟩
  refine List.forall_mem_cons.mpr ⟨⟨⟨22, rfl, by decide⟩, (qu6 w b o os _ tk ps).more (by decide), (eq6_9 w b o os _ tk ps).more (by decide)⟩, ?_⟩
  refine List.forall_mem_cons.mpr ⟨⟨⟨23, rfl, by decide⟩, (qu7 w b o os _ tk ps).more (by decide), (eq7_9 w b o os _ tk ps).more (by decide)⟩, ?_⟩
  refine List.forall_mem_cons.mpr ⟨⟨⟨24, rfl, by decide⟩, (qu8 w b o os _ tk ps).more (by decide), (eq8_9 w b o os _ tk ps).more (by decide)⟩, ?_⟩
  exact List.forall_mem_nil _
theorem se9 : Rn p (wf w b) 11 ann cd B 834 (dictSet 15 (.ref 25) (.str "up" 226)) ps (S o os (Dd #[en0 w.params, en1 w.params, en2 w.params, en3 w.params, en4 w.params, en5 w.params, en6 w.params, en7 w.params, en8 w.params] 9) tk) () ps (S o os (Dd #[en0 w.params, en1 w.params, en2 w.params, en3 w.params, en4 w.params, en5 w.params, en6 w.params, en7 w.params, en8 w.params, en9 w.params] 10) (tk + 4)) :=
  (set_new (h := reduceHash (hi9 w.params)) (ru w b o os _ (tk + 4) ps) (hash_tup (ru w b o os _ (tk + 4) ps) (ro9 w b o os _ tk ps) (sp9 w b o os _ tk ps) (ca9 w b o os _ tk ps)) (fi9 w b o os (tk + 4) ps _) (up9 w b o os (tk + 4) ps (en0 w.params) (en1 w.params) (en2 w.params) (en3 w.params) (en4 w.params) (en5 w.params) (en6 w.params) (en7 w.params) (en8 w.params) (en9 w.params))).more (by decide)
theorem fi10 (h : Int) : Rn p (wf w b) 11 ann cd B 797 (dictFind 15 (.ref 26) h) ps (S o os (Dd #[en0 w.params, en1 w.params, en2 w.params, en3 w.params, en4 w.params, en5 w.params, en6 w.params, en7 w.params, en8 w.params, en9 w.params] 10) tk) none ps (S o os (Dd #[en0 w.params, en1 w.params, en2 w.params, en3 w.params, en4 w.params, en5 w.params, en6 w.params, en7 w.params, en8 w.params, en9 w.params] 10) tk) := by
  refine find_none (m := 26) (L := 14) (es := #[en0 w.params, en1 w.params, en2 w.params, en3 w.params, en4 w.params, en5 w.params, en6 w.params, en7 w.params, en8 w.params, en9 w.params]) (Nat.le_of_ble_eq_true rfl) (ru w b o os _ tk ps) (den w b o os tk ps _ _) (dep w b o os tk ps _ _) ((qu10 w b o os _ tk ps).more (by decide)) ?_
  refine List.forall_mem_cons.mpr ⟨⟨⟨16, rfl, by decide⟩, (qu0 w b o os _ tk ps).more (by decide), (eq0_10 w b o os _ tk ps).more (by decide)⟩, ?_⟩
  refine List.forall_mem_cons.mpr ⟨⟨⟨17, rfl, by decide⟩, (qu1 w b o os _ tk ps).more (by decide), (eq1_10 w b o os _ tk ps).more (by decide)⟩, ?_⟩
  refine List.forall_mem_cons.mpr ⟨⟨⟨18, rfl, by decide⟩, (qu2 w b o os _ tk ps).more (by decide), (eq2_10 w b o os _ tk ps).more (by decide)⟩, ?_⟩
  refine List.forall_mem_cons.mpr ⟨⟨⟨19, rfl, by decide⟩, (qu3 w b o os _ tk ps).more (by decide), (eq3_10 w b o os _ tk ps).more (by decide)⟩, ?_⟩
  refine List.forall_mem_cons.mpr ⟨⟨⟨20, rfl, by decide⟩, (qu4 w b o os _ tk ps).more (by decide), (eq4_10 w b o os _ tk ps).more (by decide)⟩, ?_⟩
  refine List.forall_mem_cons.mpr ⟨⟨⟨21, rfl, by decide⟩, (qu5 w b o os _ tk ps).more (by decide), (eq5_10 w b o os _ tk ps).more (by decide)⟩, ?_⟩
  refine List.forall_mem_cons.mpr ⟨⟨⟨22, rfl, by decide⟩, (qu6 w b o os _ tk ps).more (by decide), (eq6_10 w b o os _ tk ps).more (by decide)⟩, ?_⟩
  refine List.forall_mem_cons.mpr ⟨⟨⟨23, rfl, by decide⟩, (qu7 w b o os _ tk ps).more (by decide), (eq7_10 w b o os _ tk ps).more (by decide)⟩, ?_⟩
  refine List.forall_mem_cons.mpr ⟨⟨⟨24, rfl, by decide⟩, (qu8 w b o os _ tk ps).more (by decide), (eq8_10 w b o os _ tk ps).more (by decide)⟩, ?_⟩
  refine List.forall_mem_cons.mpr ⟨⟨⟨25, rfl, by decide⟩, (qu9 w b o os _ tk ps).more (by decide), (eq9_10 w b o os _ tk ps).more (by decide)⟩, ?_⟩
  exact List.forall_mem_nil _
theorem se10 : Rn p (wf w b) 11 ann cd B 834 (dictSet 15 (.ref 26) (.str "up" 230)) ps (S o os (Dd #[en0 w.params, en1 w.params, en2 w.params, en3 w.params, en4 w.params, en5 w.params, en6 w.params, en7 w.params, en8 w.params, en9 w.params] 10) tk) () ps (S o os (Dd #[en0 w.params, en1 w.params, en2 w.params, en3 w.params, en4 w.params, en5 w.params, en6 w.params, en7 w.params, en8 w.params, en9 w.params, en10 w.params] 11) (tk + 4)) :=
  (set_new (h := reduceHash (hi10 w.params)) (ru w b o os _ (tk + 4) ps) (hash_tup (ru w b o os _ (tk + 4) ps) (ro10 w b o os _ tk ps) (sp10 w b o os _ tk ps) (ca10 w b o os _ tk ps)) (fi10 w b o os (tk + 4) ps _) (up10 w b o os (tk + 4) ps (en0 w.params) (en1 w.params) (en2 w.params) (en3 w.params) (en4 w.params) (en5 w.params) (en6 w.params) (en7 w.params) (en8 w.params) (en9 w.params) (en10 w.params))).more (by decide)
theorem fi11 (h : Int) : Rn p (wf w b) 11 ann cd B 797 (dictFind 15 (.ref 27) h) ps (S o os (Dd #[en0 w.params, en1 w.params, en2 w.params, en3 w.params, en4 w.params, en5 w.params, en6 w.params, en7 w.params, en8 w.params, en9 w.params, en10 w.params] 11) tk) none ps (S o os (Dd #[en0 w.params, en1 w.params, en2 w.params, en3 w.params, en4 w.params, en5 w.params, en6 w.params, en7 w.params, en8 w.params, en9 w.params, en10 w.params] 11) tk) := by
  refine find_none (m := 26) (L := 14) (es := #[en0 w.params, en1 w.params, en2 w.params, en3 w.params, en4 w.params, en5 w.params, en6 w.params, en7 w.params, en8 w.params, en9 w.params, en10 w.params]) (Nat.le_of_ble_eq_true rfl) (ru w b o os _ tk ps) (den w b o os tk ps _ _) (dep w b o os tk ps _ _) ((qu11 w b o os _ tk ps).more (by decide)) ?_
  refine List.forall_mem_cons.mpr ⟨⟨⟨16, rfl, by decide⟩, (qu0 w b o os _ tk ps).more (by decide), (eq0_11 w b o os _ tk ps).more (by decide)⟩, ?_⟩
  refine List.forall_mem_cons.mpr ⟨⟨⟨17, rfl, by decide⟩, (qu1 w b o os _ tk ps).more (by decide), (eq1_11 w b o os _ tk ps).more (by decide)⟩, ?_⟩
  refine List.forall_mem_cons.mpr ⟨⟨⟨18, rfl, by decide⟩, (qu2 w b o os _ tk ps).more (by decide), (eq2_11 w b o os _ tk ps).more (by decide)⟩, ?_⟩
  refine List.forall_mem_cons.mpr ⟨⟨⟨19, rfl, by decide⟩, (qu3 w b o os _ tk ps).more (by decide), (eq3_11 w b o os _ tk ps).more (by decide)⟩, ?_⟩
  refine List.forall_mem_cons.mpr ⟨⟨⟨20, rfl, by decide⟩, (qu4 w b o os _ tk ps).more (by decide), (eq4_11 w b o os _ tk ps).more (by decide)⟩, ?_⟩
  refine List.forall_mem_cons.mpr ⟨⟨⟨21, rfl, by decide⟩, (qu5 w b o os _ tk ps).more (by decide), (eq5_11 w b o os _ tk ps).more (by decide)⟩, ?_⟩
  refine List.forall_mem_cons.mpr ⟨⟨⟨22, rfl, by decide⟩, (qu6 w b o os _ tk ps).more (by decide), (eq6_11 w b o os _ tk ps).more (by decide)⟩, ?_⟩
  refine List.forall_mem_cons.mpr ⟨⟨⟨23, rfl, by decide⟩, (qu7 w b o os _ tk ps).more (by decide), (eq7_11 w b o os _ tk ps).more (by decide)⟩, ?_⟩
  refine List.forall_mem_cons.mpr ⟨⟨⟨24, rfl, by decide⟩, (qu8 w b o os _ tk ps).more (by decide), (eq8_11 w b o os _ tk ps).more (by decide)⟩, ?_⟩
  refine List.forall_mem_cons.mpr ⟨⟨⟨25, rfl, by decide⟩, (qu9 w b o os _ tk ps).more (by decide), (eq9_11 w b o os _ tk ps).more (by decide)⟩, ?_⟩
  refine List.forall_mem_cons.mpr ⟨⟨⟨26, rfl, by decide⟩, (qu10 w b o os _ tk ps).more (by decide), (eq10_11 w b o os _ tk ps).more (by decide)⟩, ?_⟩
  exact List.forall_mem_nil _
theorem se11 : Rn p (wf w b) 11 ann cd B 834 (dictSet 15 (.ref 27) (.str "near" 234)) ps (S o os (Dd #[en0 w.params, en1 w.params, en2 w.params, en3 w.params, en4 w.params, en5 w.params, en6 w.params, en7 w.params, en8 w.params, en9 w.params, en10 w.params] 11) tk) () ps (S o os (Dd #[en0 w.params, en1 w.params, en2 w.params, en3 w.params, en4 w.params, en5 w.params, en6 w.params, en7 w.params, en8 w.params, en9 w.params, en10 w.params, en11 w.params] 12) (tk + 4)) :=
  (set_new (h := reduceHash (hi11 w.params)) (ru w b o os _ (tk + 4) ps) (hash_tup (ru w b o os _ (tk + 4) ps) (ro11 w b o os _ tk ps) (sp11 w b o os _ tk ps) (ca11 w b o os _ tk ps)) (fi11 w b o os (tk + 4) ps _) (up11 w b o os (tk + 4) ps (en0 w.params) (en1 w.params) (en2 w.params) (en3 w.params) (en4 w.params) (en5 w.params) (en6 w.params) (en7 w.params) (en8 w.params) (en9 w.params) (en10 w.params) (en11 w.params))).more (by decide)
theorem fi12 (h : Int) : Rn p (wf w b) 11 ann cd B 797 (dictFind 15 (.ref 28) h) ps (S o os (Dd #[en0 w.params, en1 w.params, en2 w.params, en3 w.params, en4 w.params, en5 w.params, en6 w.params, en7 w.params, en8 w.params, en9 w.params, en10 w.params, en11 w.params] 12) tk) none ps (S o os (Dd #[en0 w.params, en1 w.params, en2 w.params, en3 w.params, en4 w.params, en5 w.params, en6 w.params, en7 w.params, en8 w.params, en9 w.params, en10 w.params, en11 w.params] 12) tk) := by
  refine find_none (m := 26) (L := 14) (es := #[en0 w.params, en1 w.params, en2 w.params, en3 w.params, en4 w.params, en5 w.params, en6 w.params, en7 w.params, en8 w.params, en9 w.params, en10 w.params, en11 w.params]) (Nat.le_of_ble_eq_true rfl) (ru w b o os _ tk ps) (den w b o os tk ps _ _) (dep w b o os tk ps _ _) ((qu12 w b o os _ tk ps).more (by decide)) ?_
  refine List.forall_mem_cons.mpr ⟨⟨⟨16, rfl, by decide⟩, (qu0 w b o os _ tk ps).more (by decide), (eq0_12 w b o os _ tk ps).more (by decide)⟩, ?_⟩
  refine List.forall_mem_cons.mpr ⟨⟨⟨17, rfl, by decide⟩, (qu1 w b o os _ tk ps).more (by decide), (eq1_12 w b o os _ tk ps).more (by decide)⟩, ?_⟩
  refine List.forall_mem_cons.mpr ⟨⟨⟨18, rfl, by decide⟩, (qu2 w b o os _ tk ps).more (by decide), (eq2_12 w b o os _ tk ps).more (by decide)⟩, ?_⟩
  refine List.forall_mem_cons.mpr ⟨⟨⟨19, rfl, by decide⟩, (qu3 w b o os _ tk ps).more (by decide), (eq3_12 w b o os _ tk ps).more (by decide)⟩, ?_⟩
  refine List.forall_mem_cons.mpr ⟨⟨⟨20, rfl, by decide⟩, (qu4 w b o os _ tk ps).more (by decide), (eq4_12 w b o os _ tk ps).more (by decide)⟩, ?_⟩
  refine List.forall_mem_cons.mpr ⟨⟨⟨21, rfl, by decide⟩, (qu5 w b o os _ tk ps).more (by decide), (eq5_12 w b o os _ tk ps).more (by decide)⟩, ?_⟩
  refine List.forall_mem_cons.mpr ⟨⟨⟨22, rfl, by decide⟩, (qu6 w b o os _ tk ps).more (by decide), (eq6_12 w b o os _ tk ps).more (by decide)⟩, ?_⟩
  refine List.forall_mem_cons.mpr ⟨⟨⟨23, rfl, by decide⟩, (qu7 w b o os _ tk ps).more (by decide), (eq7_12 w b o os _ tk ps).more (by decide)⟩, ?_⟩
  refine List.forall_mem_cons.mpr ⟨⟨⟨24, rfl, by decide⟩, (qu8 w b o os _ tk ps).more (by decide), (eq8_12 w b o os _ tk ps).more (by decide)⟩, ?_⟩
  refine List.forall_mem_cons.mpr ⟨⟨⟨25, rfl, by decide⟩, (qu9 w b o os _ tk ps).more (by decide), (eq9_12 w b o os _ tk ps).more (by decide)⟩, ?_⟩
  refine List.forall_mem_cons.mpr ⟨⟨⟨26, rfl, by decide⟩, (qu10 w b o os _ tk ps).more (by decide), (eq10_12 w b o os _ tk ps).more (by decide)⟩, ?_⟩
  refine List.forall_mem_cons.mpr ⟨⟨⟨27, rfl, by decide⟩, (qu11 w b o os _ tk ps).more (by decide), (eq11_12 w b o os _ tk ps).more (by decide)⟩, ?_⟩
  exact List.forall_mem_nil _
theorem se12 : Rn p (wf w b) 11 ann cd B 834 (dictSet 15 (.ref 28) (.str "far" 238)) ps (S o os (Dd #[en0 w.params, en1 w.params, en2 w.params, en3 w.params, en4 w.params, en5 w.params, en6 w.params, en7 w.params, en8 w.params, en9 w.params, en10 w.params, en11 w.params] 12) tk) () ps (S o os (Dd #[en0 w.params, en1 w.params, en2 w.params, en3 w.params, en4 w.params, en5 w.params, en6 w.params, en7 w.params, en8 w.params, en9 w.params, en10 w.params, en11 w.params, en12 w.params] 13) (tk + 4)) :=
  (set_new (h := reduceHash (hi12 w.params)) (ru w b o os _ (tk + 4) ps) (hash_tup (ru w b o os _ (tk + 4) ps) (ro12 w b o os _ tk ps) (sp12 w b o os _ tk ps) (ca12 w b o os _ tk ps)) (fi12 w b o os (tk + 4) ps _) (up12 w b o os (tk + 4) ps (en0 w.params) (en1 w.params) (en2 w.params) (en3 w.params) (en4 w.params) (en5 w.params) (en6 w.params) (en7 w.params) (en8 w.params) (en9 w.params) (en10 w.params) (en11 w.params) (en12 w.params))).more (by decide)
theorem fi13 (h : Int) : Rn p (wf w b) 11 ann cd B 797 (dictFind 15 (.ref 29) h) ps (S o os (Dd #[en0 w.params, en1 w.params, en2 w.params, en3 w.params, en4 w.params, en5 w.params, en6 w.params, en7 w.params, en8 w.params, en9 w.params, en10 w.params, en11 w.params, en12 w.params] 13) tk) none ps (S o os (Dd #[en0 w.params, en1 w.params, en2 w.params, en3 w.params, en4 w.params, en5 w.params, en6 w.params, en7 w.params, en8 w.params, en9 w.params, en10 w.params, en11 w.params, en12 w.params] 13) tk) := by
  refine find_none (m := 26) (L := 14) (es := #[en0 w.params, en1 w.params, en2 w.params, en3 w.params, en4 w.params, en5 w.params, en6 w.params, en7 w.params, en8 w.params, en9 w.params, en10 w.params, en11 w.params, en12 w.params]) (Nat.le_of_ble_eq_true rfl) (ru w b o os _ tk ps) (den w b o os tk ps _ _) (dep w b o os tk ps _ _) ((qu13 w b o os _ tk ps).more (by decide)) ?_
  refine List.forall_mem_cons.mpr ⟨⟨⟨16, rfl, by decide⟩, (qu0 w b o os _ tk ps).more (by decide), (eq0_13 w b o os _ tk ps).more (by decide)⟩, ?_⟩
  refine List.forall_mem_cons.mpr ⟨⟨⟨17, rfl, by decide⟩, (qu1 w b o os _ tk ps).more (by decide), (eq1_13 w b o os _ tk ps).more (by decide)⟩, ?_⟩
  refine List.forall_mem_cons.mpr ⟨⟨⟨18, rfl, by decide⟩, (qu2 w b o os _ tk ps).more (by decide), (eq2_13 w b o os _ tk ps).more (by decide)⟩, ?_⟩
  refine List.forall_mem_cons.mpr ⟨⟨⟨19, rfl, by decide⟩, (qu3 w b o os _ tk ps).more (by decide), (eq3_13 w b o os _ tk ps).more (by decide)⟩, ?_⟩
  refine List.forall_mem_cons.mpr ⟨⟨⟨20, rfl, by decide⟩, (qu4 w b o os _ tk ps).more (by decide), (eq4_13 w b o os _ tk ps).more (by decide)⟩, ?_⟩
  refine List.forall_mem_cons.mpr ⟨⟨⟨21, rfl, by decide⟩, (qu5 w b o os _ tk ps).more (by decide), (eq5_13 w b o os _ tk ps).more (by decide)⟩, ?_⟩
  refine List.forall_mem_cons.mpr ⟨⟨⟨22, rfl, by decide⟩, (qu6 w b o os _ tk ps).more (by decide), (eq6_13 w b o os _ tk ps).more (by decide)⟩, ?_⟩
  refine List.forall_mem_cons.mpr ⟨⟨⟨23, rfl, by decide⟩, (qu7 w b o os _ tk ps).more (by decide), (eq7_13 w b o os _ tk ps).more (by decide)⟩, ?_⟩
  refine List.forall_mem_cons.mpr ⟨⟨⟨24, rfl, by decide⟩, (qu8 w b o os _ tk ps).more (by decide), (eq8_13 w b o os _ tk ps).more (by decide)⟩, ?_⟩
  refine List.forall_mem_cons.mpr ⟨⟨⟨25, rfl, by decide⟩, (qu9 w b o os _ tk ps).more (by decide), (eq9_13 w b o os _ tk ps).more (by decide)⟩, ?_⟩
  refine List.forall_mem_cons.mpr ⟨⟨⟨26, rfl, by decide⟩, (qu10 w b o os _ tk ps).more (by decide), (eq10_13 w b o os _ tk ps).more (by decide)⟩, ?_⟩
  refine List.forall_mem_cons.mpr ⟨⟨⟨27, rfl, by decide⟩, (qu11 w b o os _ tk ps).more (by decide), (eq11_13 w b o os _ tk ps).more (by decide)⟩, ?_⟩
  refine List.forall_mem_cons.mpr ⟨⟨⟨28, rfl, by decide⟩, (qu12 w b o os _ tk ps).more (by decide), (eq12_13 w b o os _ tk ps).more (by decide)⟩, ?_⟩
  exact List.forall_mem_nil _
theorem se13 : Rn p (wf w b) 11 ann cd B 834 (dictSet 15 (.ref 29) (.str "shut" 242)) ps (S o os (Dd #[en0 w.params, en1 w.params, en2 w.params, en3 w.params, en4 w.params, en5 w.params, en6 w.params, en7 w.params, en8 w.params, en9 w.params, en10 w.params, en11 w.params, en12 w.params] 13) tk) () ps (S o os (Dd #[en0 w.params, en1 w.params, en2 w.params, en3 w.params, en4 w.params, en5 w.params, en6 w.params, en7 w.params, en8 w.params, en9 w.params, en10 w.params, en11 w.params, en12 w.params, en13 w.params] 14) (tk + 4)) :=
  (set_new (h := reduceHash (hi13 w.params)) (ru w b o os _ (tk + 4) ps) (hash_tup (ru w b o os _ (tk + 4) ps) (ro13 w b o os _ tk ps) (sp13 w b o os _ tk ps) (ca13 w b o os _ tk ps)) (fi13 w b o os (tk + 4) ps _) (up13 w b o os (tk + 4) ps (en0 w.params) (en1 w.params) (en2 w.params) (en3 w.params) (en4 w.params) (en5 w.params) (en6 w.params) (en7 w.params) (en8 w.params) (en9 w.params) (en10 w.params) (en11 w.params) (en12 w.params) (en13 w.params))).more (by decide)
end
def vs : List (Value × Value) := [(.ref 16, .str "asked" 191), (.ref 17, .str "asked" 195), (.ref 18, .str "up" 199), (.ref 19, .str "up" 203), (.ref 20, .str "far" 207), (.ref 21, .str "near" 211), (.ref 22, .str "shut" 215), (.ref 23, .str "called" 218), (.ref 24, .str "called" 222), (.ref 25, .str "up" 226), (.ref 26, .str "up" 230), (.ref 27, .str "near" 234), (.ref 28, .str "far" 238), (.ref 29, .str "shut" 242)]
def DD (P : Params) : Obj := Dd #[en0 P, en1 P, en2 P, en3 P, en4 P, en5 P, en6 P, en7 P, en8 P, en9 P, en10 P, en11 P, en12 P, en13 P] 14
theorem loop_all (w : World) (b : Bool) (o : Nat → Obj) (os : OsState) (tk : Nat) (ps : Pos) {f : Value × Value → Unit → Sem (ForInStep Unit)} (hf : ∀ k v, f (k, v) () = (do dictSet 15 k v; pure (.yield ()))) :
    Rn p (wf w b) 11 ann cd B 11672 (forIn vs () f) ps (S o os (Dd #[] 0) tk) () ps (S o os (DD w.params) (tk + 56)) := by
  unfold vs
  refine Rn.more (m1 := 832 + 10840) (rn_turn (rn_eq (hf _ _) ((rn_bind (m2 := 0) (se0 w b o os tk ps) rn_pure))) ?_) (by decide)
  refine Rn.more (m1 := 834 + 10006) (rn_turn (rn_eq (hf _ _) ((rn_bind (m2 := 0) (se1 w b o os (tk + 4) ps) rn_pure))) ?_) (by decide)
  refine Rn.more (m1 := 834 + 9172) (rn_turn (rn_eq (hf _ _) ((rn_bind (m2 := 0) (se2 w b o os ((tk + 4) + 4) ps) rn_pure))) ?_) (by decide)
  refine Rn.more (m1 := 834 + 8338) (rn_turn (rn_eq (hf _ _) ((rn_bind (m2 := 0) (se3 w b o os (((tk + 4) + 4) + 4) ps) rn_pure))) ?_) (by decide)
  refine Rn.more (m1 := 834 + 7504) (rn_turn (rn_eq (hf _ _) ((rn_bind (m2 := 0) (se4 w b o os ((((tk + 4) + 4) + 4) + 4) ps) rn_pure))) ?_) (by decide)
  refine Rn.more (m1 := 834 + 6670) (rn_turn (rn_eq (hf _ _) ((rn_bind (m2 := 0) (se5 w b o os (((((tk + 4) + 4) + 4) + 4) + 4) ps) rn_pure))) ?_) (by decide)
  refine Rn.more (m1 := 834 + 5836) (rn_turn (rn_eq (hf _ _) ((rn_bind (m2 := 0) (se6 w b o os ((((((tk + 4) + 4) + 4) + 4) + 4) + 4) ps) rn_pure))) ?_) (by decide)
  refine Rn.more (m1 := 832 + 5004) (rn_turn (rn_eq (hf _ _) ((rn_bind (m2 := 0) (se7 w b o os (((((((tk + 4) + 4) + 4) + 4) + 4) + 4) + 4) ps) rn_pure))) ?_) (by decide)
  refine Rn.more (m1 := 834 + 4170) (rn_turn (rn_eq (hf _ _) ((rn_bind (m2 := 0) (se8 w b o os ((((((((tk + 4) + 4) + 4) + 4) + 4) + 4) + 4) + 4) ps) rn_pure))) ?_) (by decide)
  refine Rn.more (m1 := 834 + 3336) (rn_turn (rn_eq (hf _ _) ((rn_bind (m2 := 0) (se9 w b o os (((((((((tk + 4) + 4) + 4) + 4) + 4) + 4) + 4) + 4) + 4) ps) rn_pure))) ?_) (by decide)
  refine Rn.more (m1 := 834 + 2502) (rn_turn (rn_eq (hf _ _) ((rn_bind (m2 := 0) (se10 w b o os ((((((((((tk + 4) + 4) + 4) + 4) + 4) + 4) + 4) + 4) + 4) + 4) ps) rn_pure))) ?_) (by decide)
  refine Rn.more (m1 := 834 + 1668) (rn_turn (rn_eq (hf _ _) ((rn_bind (m2 := 0) (se11 w b o os (((((((((((tk + 4) + 4) + 4) + 4) + 4) + 4) + 4) + 4) + 4) + 4) + 4) ps) rn_pure))) ?_) (by decide)
  refine Rn.more (m1 := 834 + 834) (rn_turn (rn_eq (hf _ _) ((rn_bind (m2 := 0) (se12 w b o os ((((((((((((tk + 4) + 4) + 4) + 4) + 4) + 4) + 4) + 4) + 4) + 4) + 4) + 4) ps) rn_pure))) ?_) (by decide)
  refine Rn.more (m1 := 834 + 0) (rn_turn (rn_eq (hf _ _) ((rn_bind (m2 := 0) (se13 w b o os (((((((((((((tk + 4) + 4) + 4) + 4) + 4) + 4) + 4) + 4) + 4) + 4) + 4) + 4) + 4) ps) rn_pure))) ?_) (by decide)
  exact rn_last
def st : Stmt := body[1]
def theKs : List (Option PySem.Expr) := match st with | .Assign _ (.Dict ks _ _) _ => ks | _ => []
def theVs : List PySem.Expr := match st with | .Assign _ (.Dict _ vs _) _ => vs | _ => []
def dpos : Pos := match st with | .Assign _ (.Dict _ _ q) _ => q | _ => default
def spos : Pos := match st with | .Assign _ _ q => q | _ => default
def npos : Pos := ⟨2, 0, 2, 10⟩
theorem stq0 : st = .Assign [.Name "LINE_STEPS" npos] (.Dict theKs theVs dpos) spos := by kernel_rfl
def its : List (Option (Sem Value) × Sem Value) := (evalEachOpt theKs env).zip ((evalEach theVs env).map fun v => do let x ← v; standAt dpos; pure x)
def prs : List (Sem Value × Sem Value) := its.filterMap fun x => x.1.map fun k => (k, x.2)
theorem stq : exec st env = (do
    standAt spos
    let v ← eval (.Dict theKs theVs dpos) env
    standAt npos
    bindName env "LINE_STEPS" v
    pure .next) := by rw [stq0]; exact exec_Assign_Name env "LINE_STEPS" npos (.Dict theKs theVs dpos) spos (by kernel_rfl)
theorem dq : eval (.Dict theKs theVs dpos) env = (do standAt dpos; dictDisplay its) := by kernel_rfl
theorem dd : dictDisplay its = ((subDict prs >>= fun d => pure (some d)) >>= fun o => match o with | some d => pure (.ref d) | none => newDict) := by kernel_rfl
theorem loop_w (w : World) (o : Nat → Obj) (os : OsState) (tk : Nat) (ps : Pos) {f : Value × Value → Unit → Sem (ForInStep Unit)} (hf : ∀ k v, f (k, v) () = (do dictSet 15 k v; pure (.yield ()))) :
    Rn p w 11 ann cd B 11672 (forIn vs () f) ps (S o os (Dd #[] 0) tk) () ps (S o os (DD w.params) (tk + 56)) := by
  have h := loop_all w (w.params.followText "special-get-raises") o os tk ps hf
  unfold wf at h
  rw [World.withFollow_self] at h
  exact h
theorem at_ {w : World} {s : SharedT} {ps ps' : Pos} : Rn p w 11 ann cd B 1 (standAt ps') ps s () ps' s := rn_at fun K H lv => by kernel_rfl
theorem al {w : World} {o : Nat → Obj} {os : OsState} {tk : Nat} {ps : Pos} : Rn p w 11 ann cd B 1 (alloc { cls := .type "dict", data := .dict #[] }) ps (S0 o os tk) 15 ps (S0d o os tk) := rn_at fun K H lv => by kernel_rfl
theorem ev {w : World} {o : Nat → Obj} {os : OsState} {ps : Pos} : Rn p w 11 ann cd B 96 (evalPairs prs) ps (S0d o os 189) vs dpos (S o os (Dd #[] 0) 243) := rn_at fun K H lv => by
  rw [PySem.W.Fast.te10295753902157049106, PySem.W.Fast.te14364793385576792824]; kernel_rfl
theorem sub {w : World} {o : Nat → Obj} {os : OsState} {ps : Pos} : Rn p w 11 ann cd B 11769 (subDict prs) ps (S0 o os 189) 15 dpos (S o os (DD w.params) 299) := by
  unfold subDict
  refine Rn.more (m1 := 1 + (96 + (11672 + 0) + 0)) (rn_bind al (rn_bind (a := ()) (rn_holding ?_) rn_pure)) (by decide)
  rw [if_pos (Nat.le_of_ble_eq_true (by kernel_rfl))]
  refine rn_bind ev (rn_holding ?_)
  exact rn_bind (loop_w w o os 243 dpos (fun _ _ => rfl)) rn_pure
def S_D (P : Params) (os : OsState) (D : Obj) : SharedT := ⟨treeOf ((((fin P D).take 30).set 3 (nsO ((e1 P "__name__" 165 (.str "lentgate.lines" 187)) :: ((ns P).drop 1).take 9) 10)).set 12 (tbO (tb.take 0))), 30, {}, #[], {}, 300, os⟩
theorem bn {w : World} {os : OsState} {D : Obj} {ps : Pos} : Rn p w 11 ann cd B 6 (bindName env "LINE_STEPS" (.ref 15)) ps (S (ob w.params) os D 299) () ps (S_D w.params os D) := rn_at fun K H lv => by
  rw [PySem.W.Fast.te10295753902157049106, PySem.W.Fast.te14364793385576792824]; kernel_rfl
theorem st_rn {w : World} {os : OsState} {ps : Pos} : Rn p w 11 ann cd B 11778 (execs [st] env) ps (S0 (ob w.params) os 189) .next npos (S_D w.params os (DD w.params)) := by
  rw [execs_cons, stq, dq, dd]
  refine Rn.more (m1 := (1 + ((1 + ((11769 + 0) + 0)) + (1 + (6 + 0)))) + 0) (rn_bind (a := .next) (rn_bind at_ (rn_bind (rn_bind at_ (rn_bind (rn_bind sub rn_pure) rn_pure)) (rn_bind at_ (rn_bind bn rn_pure)))) ?_) (by decide)
  exact rn_pure
theorem run1 (w : World) (os : OsState) : segRunT treeTable p w 11 ann 1 11779 (S_0 w.params os) (piecesOf [st] env cd ⟨1, 0, 1, 8⟩ B) = some (.next, S_D w.params os (DD w.params), cd, npos) := by
  rw [s0_eq]
  obtain ⟨n, hn, h⟩ := st_rn (w := w) (os := os) (ps := ⟨1, 0, 1, 8⟩) doneF deadEnd id
  have e := run_add (m := 1) (r := (.next, S_D w.params os (DD w.params), cd, npos)) h rfl
  have e2 := run_more (11778 - n) e
  rw [show n + 1 + (11778 - n) = 11779 by omega] at e2
  exact e2
def S_2 (P : Params) (os : OsState) (D : Obj) : SharedT := ⟨treeOf ((fin P D).take 87), 87, {}, #[], {}, 392, os⟩
theorem run2 (w : World) (os : OsState) (D : Obj) : segRunT treeTable p w 11 ann 1 285 (S_D w.params os D) (piecesOf ((body.drop 2).take 10) env cd npos B) = some (.next, S_2 w.params os D, cd, ⟨49, 0, 70, 15⟩) := by
  rw [PySem.W.Fast.te10110043849684766642, PySem.W.Fast.te14364793385576792824]; kernel_rfl
def TF (P : Params) : BT := (S_2 P default (DD P)).tree
def H1 (P : Params) : Heap := absHeap (TF P) 87 {}
theorem body_eq : body = ((body.drop 0).take 1) ++ ([st] ++ (((body.drop 2).take 10) ++ [])) := by kernel_rfl
theorem run_eq (w : World) (os : OsState) : topRun treeTable p w 11 ann (12 + (1 + (10 + (11779 + (285 + 2))))) ⟨boot_heap w.params, #[], boot_drawn, boot_toks, os⟩ (topStub p) = some ⟨H1 w.params, #[], {}, 392, os⟩ := by
  refine go_top (pre_eq w os) (piece_block (block_eq w os) ?_)
  show topRun treeTable p w 11 ann _ _ (restOf body env cd q0 B) = _
  rw [body_eq]
  refine piece_app (segRun_of (run0 w os)) ?_
  refine piece_app (segRun_of (run1 w os)) ?_
  refine piece_app (segRun_of (run2 w os _)) ?_
  kernel_rfl
def q : Program := view p [1, 2, 3, 4, 5, 7, 8, 9, 10, 11]
def loose : List Str := ["LINE_STEPS"]
def ks : List Addr := [nat_lit 2, nat_lit 3, nat_lit 6, nat_lit 15, nat_lit 16, nat_lit 17, nat_lit 18, nat_lit 19, nat_lit 20, nat_lit 21, nat_lit 22, nat_lit 23, nat_lit 24, nat_lit 25, nat_lit 26, nat_lit 27, nat_lit 28, nat_lit 29, nat_lit 30, nat_lit 31, nat_lit 33, nat_lit 34, nat_lit 36, nat_lit 37, nat_lit 38, nat_lit 40, nat_lit 41, nat_lit 43, nat_lit 44, nat_lit 45, nat_lit 47, nat_lit 48, nat_lit 50, nat_lit 51, nat_lit 52, nat_lit 54, nat_lit 55, nat_lit 57, nat_lit 58, nat_lit 59, nat_lit 61, nat_lit 62, nat_lit 64, nat_lit 65, nat_lit 66, nat_lit 68, nat_lit 69, nat_lit 71, nat_lit 72, nat_lit 73, nat_lit 75, nat_lit 76, nat_lit 78, nat_lit 79, nat_lit 80, nat_lit 82, nat_lit 83, nat_lit 85, nat_lit 86]
def K (P : Params) : Frag := (nat_lit 2, boot_o_2 P) :: (nat_lit 3, nsO ((ns P).take 19) 19) :: (nat_lit 6, boot_o_6 P) :: (nat_lit 15, DD P) :: (nat_lit 16, v18 P) :: (nat_lit 17, v19 P) :: (nat_lit 18, v20 P) :: (nat_lit 19, v21 P) :: (nat_lit 20, v22 P) :: (nat_lit 21, v23 P) :: (nat_lit 22, v24 P) :: (nat_lit 23, v25 P) :: (nat_lit 24, v26 P) :: (nat_lit 25, v27 P) :: (nat_lit 26, v28 P) :: (nat_lit 27, v29 P) :: (nat_lit 28, v30 P) :: (nat_lit 29, v31 P) :: (nat_lit 30, v33 P) :: (nat_lit 31, v36 P) :: (nat_lit 33, v38 P) :: (nat_lit 34, v39 P) :: (nat_lit 36, v41 P) :: (nat_lit 37, v42 P) :: (nat_lit 38, v45 P) :: (nat_lit 40, v47 P) :: (nat_lit 41, v48 P) :: (nat_lit 43, v50 P) :: (nat_lit 44, v51 P) :: (nat_lit 45, v54 P) :: (nat_lit 47, v56 P) :: (nat_lit 48, v57 P) :: (nat_lit 50, v59 P) :: (nat_lit 51, v60 P) :: (nat_lit 52, v64 P) :: (nat_lit 54, v66 P) :: (nat_lit 55, v67 P) :: (nat_lit 57, v69 P) :: (nat_lit 58, v70 P) :: (nat_lit 59, v73 P) :: (nat_lit 61, v75 P) :: (nat_lit 62, v76 P) :: (nat_lit 64, v78 P) :: (nat_lit 65, v79 P) :: (nat_lit 66, v82 P) :: (nat_lit 68, v84 P) :: (nat_lit 69, v85 P) :: (nat_lit 71, v87 P) :: (nat_lit 72, v88 P) :: (nat_lit 73, v91 P) :: (nat_lit 75, v93 P) :: (nat_lit 76, v94 P) :: (nat_lit 78, v96 P) :: (nat_lit 79, v97 P) :: (nat_lit 80, v100 P) :: (nat_lit 82, v102 P) :: (nat_lit 83, v103 P) :: (nat_lit 85, v105 P) :: (nat_lit 86, v106 P) :: []
theorem ks_eq (P : Params) : ks = (K P).map (·.1) := by kernel_rfl
def Hk : Hook := kHook K ks ks_eq
def Xt (s : Shared) : Bool := xlAt q [] s && recOk [] s
def NN : Nat := 1000000
theorem size_eq (w : World) : ((boot_heap w.params).isNs mainGlobals && (#[] : Array GenState).size == 0, (boot_heap w.params).objs.size, (boot_heap w.params).nsMap mainGlobals "__annotations__") = (true, 11, ann) := by kernel_rfl
theorem op1 : opening p = plainProg p.main.scope.names := by kernel_rfl
theorem op2 (s : Shared) : fenceModules? p s = some s := by kernel_rfl
theorem look1 (w : World) (os : OsState) : (staticsOk (importedModules p.main.body) (boot_heap w.params) (H1 w.params) && namesBound p (H1 w.params) && gensDone ⟨H1 w.params, #[], {}, 392, os⟩ && laidKept (boot_heap w.params) (H1 w.params)) = true := by kernel_rfl
theorem look2 (w : World) (os : OsState) : openSeen q loose (importedModules p.main.body) Xt true ⟨H1 w.params, #[], {}, 392, os⟩ = openGood q loose := by kernel_rfl
theorem look3 (w : World) (os : OsState) : Hk.obs ⟨H1 w.params, #[], {}, 392, os⟩ = Hk.val w := by kernel_rfl
theorem left : LeftO p q loose Xt Hk.obs Hk.val NN :=
  LeftO.of_pieces (H₀ := boot_heap) (H₁ := H1) (gs₀ := #[]) (gs₁ := #[]) (d₀ := boot_drawn) (d₁ := {}) (k₀ := boot_toks) (k₁ := 392) (m₀ := 11) (ann := ann) (M := 12 + (1 + (10 + (11779 + (285 + 2))))) (boot_open op1 (by decide) op2) size_eq run_eq (by decide)
    fun w => funext fun os => Prod.ext (look1 w os) (Prod.ext (look2 w os) (look3 w os))
end
end H01
set_option Elab.async false
set_option linter.all false
set_option maxRecDepth 100000
set_option maxHeartbeats 0
namespace K01
open PySem PySem.Spec PyProof.Rows L2 R
theorem hs_eq (w : World) (x : Str) : H01.hs w.params x = okH w (some (.inr x)) := rfl
theorem hn_eq (w : World) : PySem.W.hashW w.params .none = okH w none := rfl
section
variable {P : Program} {w : World}
theorem ene0 : H01.en0 w.params = entryOfKey (tupleKind (optKind P w)) ([some (.inr "house"), none, some (.inr "open")], 16, .str "asked" 191) := by
  unfold H01.en0 H01.hi0
  rw [hs_eq, hn_eq, hs_eq]
  rfl
theorem ene1 : H01.en1 w.params = entryOfKey (tupleKind (optKind P w)) ([some (.inr "house"), some (.inr "asked"), some (.inr "open")], 17, .str "asked" 195) := by
  unfold H01.en1 H01.hi1
  rw [hs_eq, hs_eq, hs_eq]
  rfl
theorem ene2 : H01.en2 w.params = entryOfKey (tupleKind (optKind P w)) ([some (.inr "house"), some (.inr "called"), some (.inr "open")], 18, .str "up" 199) := by
  unfold H01.en2 H01.hi2
  rw [hs_eq, hs_eq, hs_eq]
  rfl
theorem ene3 : H01.en3 w.params = entryOfKey (tupleKind (optKind P w)) ([some (.inr "house"), some (.inr "up"), some (.inr "say")], 19, .str "up" 203) := by
  unfold H01.en3 H01.hi3
  rw [hs_eq, hs_eq, hs_eq]
  rfl
theorem ene4 : H01.en4 w.params = entryOfKey (tupleKind (optKind P w)) ([some (.inr "house"), some (.inr "far"), some (.inr "say")], 20, .str "far" 207) := by
  unfold H01.en4 H01.hi4
  rw [hs_eq, hs_eq, hs_eq]
  rfl
theorem ene5 : H01.en5 w.params = entryOfKey (tupleKind (optKind P w)) ([some (.inr "house"), some (.inr "up"), some (.inr "close")], 21, .str "near" 211) := by
  unfold H01.en5 H01.hi5
  rw [hs_eq, hs_eq, hs_eq]
  rfl
theorem ene6 : H01.en6 w.params = entryOfKey (tupleKind (optKind P w)) ([some (.inr "house"), some (.inr "far"), some (.inr "close")], 22, .str "shut" 215) := by
  unfold H01.en6 H01.hi6
  rw [hs_eq, hs_eq, hs_eq]
  rfl
theorem ene7 : H01.en7 w.params = entryOfKey (tupleKind (optKind P w)) ([some (.inr "far"), none, some (.inr "open")], 23, .str "called" 218) := by
  unfold H01.en7 H01.hi7
  rw [hs_eq, hn_eq, hs_eq]
  rfl
theorem ene8 : H01.en8 w.params = entryOfKey (tupleKind (optKind P w)) ([some (.inr "far"), some (.inr "called"), some (.inr "open")], 24, .str "called" 222) := by
  unfold H01.en8 H01.hi8
  rw [hs_eq, hs_eq, hs_eq]
  rfl
theorem ene9 : H01.en9 w.params = entryOfKey (tupleKind (optKind P w)) ([some (.inr "far"), some (.inr "asked"), some (.inr "open")], 25, .str "up" 226) := by
  unfold H01.en9 H01.hi9
  rw [hs_eq, hs_eq, hs_eq]
  rfl
theorem ene10 : H01.en10 w.params = entryOfKey (tupleKind (optKind P w)) ([some (.inr "far"), some (.inr "up"), some (.inr "say")], 26, .str "up" 230) := by
  unfold H01.en10 H01.hi10
  rw [hs_eq, hs_eq, hs_eq]
  rfl
theorem ene11 : H01.en11 w.params = entryOfKey (tupleKind (optKind P w)) ([some (.inr "far"), some (.inr "near"), some (.inr "say")], 27, .str "near" 234) := by
  unfold H01.en11 H01.hi11
  rw [hs_eq, hs_eq, hs_eq]
  rfl
theorem ene12 : H01.en12 w.params = entryOfKey (tupleKind (optKind P w)) ([some (.inr "far"), some (.inr "up"), some (.inr "close")], 28, .str "far" 238) := by
  unfold H01.en12 H01.hi12
  rw [hs_eq, hs_eq, hs_eq]
  rfl
theorem ene13 : H01.en13 w.params = entryOfKey (tupleKind (optKind P w)) ([some (.inr "far"), some (.inr "near"), some (.inr "close")], 29, .str "shut" 242) := by
  unfold H01.en13 H01.hi13
  rw [hs_eq, hs_eq, hs_eq]
  rfl
end
theorem items3 {P : Program} {w : World} {a b c : Option Key} {u v x : Value} (h1 : okIs a u = true) (h2 : okIs b v = true) (h3 : okIs c x = true) : ItemsAre (optKind P w) [a, b, c] ([u, v, x] : List Value) := .cons h1 (.cons h2 (.cons h3 .nil))
def XS : List (TK × Addr × Value) := [([some (.inr "house"), none, some (.inr "open")], 16, .str "asked" 191), ([some (.inr "house"), some (.inr "asked"), some (.inr "open")], 17, .str "asked" 195), ([some (.inr "house"), some (.inr "called"), some (.inr "open")], 18, .str "up" 199), ([some (.inr "house"), some (.inr "up"), some (.inr "say")], 19, .str "up" 203), ([some (.inr "house"), some (.inr "far"), some (.inr "say")], 20, .str "far" 207), ([some (.inr "house"), some (.inr "up"), some (.inr "close")], 21, .str "near" 211), ([some (.inr "house"), some (.inr "far"), some (.inr "close")], 22, .str "shut" 215), ([some (.inr "far"), none, some (.inr "open")], 23, .str "called" 218), ([some (.inr "far"), some (.inr "called"), some (.inr "open")], 24, .str "called" 222), ([some (.inr "far"), some (.inr "asked"), some (.inr "open")], 25, .str "up" 226), ([some (.inr "far"), some (.inr "up"), some (.inr "say")], 26, .str "up" 230), ([some (.inr "far"), some (.inr "near"), some (.inr "say")], 27, .str "near" 234), ([some (.inr "far"), some (.inr "up"), some (.inr "close")], 28, .str "far" 238), ([some (.inr "far"), some (.inr "near"), some (.inr "close")], 29, .str "shut" 242)]
theorem line_tab {w : World} {mg : Str → Option Value} {h : Heap} (X : (H01.K w.params).In h) (G : h.Ns mainGlobals mg) : KTabT PySem.Challenge.pw_lentgate_k01_words_lead_states w (H01.K w.params) mg "LINE_STEPS" TAB := by
  refine ktabT_mk (xs := XS) (PySem.W.mg_of X G (n := "LINE_STEPS") (v := .ref 15) (by kernel_rfl)) (show (H01.K w.params).lookup 15 = some (H01.DD w.params) by kernel_rfl) rfl ⟨rfl, rfl, rfl⟩ ?he ?hi (by decide +kernel) ?hv
  case he =>
    show [H01.en0 w.params, H01.en1 w.params, H01.en2 w.params, H01.en3 w.params, H01.en4 w.params, H01.en5 w.params, H01.en6 w.params, H01.en7 w.params, H01.en8 w.params, H01.en9 w.params, H01.en10 w.params, H01.en11 w.params, H01.en12 w.params, H01.en13 w.params] = _
    rw [ene0 (P := PySem.Challenge.pw_lentgate_k01_words_lead_states) (w := w), ene1 (P := PySem.Challenge.pw_lentgate_k01_words_lead_states) (w := w), ene2 (P := PySem.Challenge.pw_lentgate_k01_words_lead_states) (w := w), ene3 (P := PySem.Challenge.pw_lentgate_k01_words_lead_states) (w := w), ene4 (P := PySem.Challenge.pw_lentgate_k01_words_lead_states) (w := w), ene5 (P := PySem.Challenge.pw_lentgate_k01_words_lead_states) (w := w), ene6 (P := PySem.Challenge.pw_lentgate_k01_words_lead_states) (w := w), ene7 (P := PySem.Challenge.pw_lentgate_k01_words_lead_states) (w := w), ene8 (P := PySem.Challenge.pw_lentgate_k01_words_lead_states) (w := w), ene9 (P := PySem.Challenge.pw_lentgate_k01_words_lead_states) (w := w), ene10 (P := PySem.Challenge.pw_lentgate_k01_words_lead_states) (w := w), ene11 (P := PySem.Challenge.pw_lentgate_k01_words_lead_states) (w := w), ene12 (P := PySem.Challenge.pw_lentgate_k01_words_lead_states) (w := w), ene13 (P := PySem.Challenge.pw_lentgate_k01_words_lead_states) (w := w)]
    rfl
  case hi =>
    unfold XS
    refine List.forall_mem_cons.mpr ⟨⟨HD.tup [.str "house" 189, .none, .str "open" 190], _, 0, (by kernel_rfl), rfl, rfl, items3 (by decide +kernel) (by decide +kernel) (by decide +kernel)⟩, ?_⟩
    refine List.forall_mem_cons.mpr ⟨⟨HD.tup [.str "house" 192, .str "asked" 193, .str "open" 194], _, 0, (by kernel_rfl), rfl, rfl, items3 (by decide +kernel) (by decide +kernel) (by decide +kernel)⟩, ?_⟩
    refine List.forall_mem_cons.mpr ⟨⟨HD.tup [.str "house" 196, .str "called" 197, .str "open" 198], _, 0, (by kernel_rfl), rfl, rfl, items3 (by decide +kernel) (by decide +kernel) (by decide +kernel)⟩, ?_⟩
    refine List.forall_mem_cons.mpr ⟨⟨HD.tup [.str "house" 200, .str "up" 201, .str "say" 202], _, 0, (by kernel_rfl), rfl, rfl, items3 (by decide +kernel) (by decide +kernel) (by decide +kernel)⟩, ?_⟩
    refine List.forall_mem_cons.mpr ⟨⟨HD.tup [.str "house" 204, .str "far" 205, .str "say" 206], _, 0, (by kernel_rfl), rfl, rfl, items3 (by decide +kernel) (by decide +kernel) (by decide +kernel)⟩, ?_⟩
    refine List.forall_mem_cons.mpr ⟨⟨HD.tup [.str "house" 208, .str "up" 209, .str "close" 210], _, 0, (by kernel_rfl), rfl, rfl, items3 (by decide +kernel) (by decide +kernel) (by decide +kernel)⟩, ?_⟩
    refine List.forall_mem_cons.mpr ⟨⟨HD.tup [.str "house" 212, .str "far" 213, .str "close" 214], _, 0, (by kernel_rfl), rfl, rfl, items3 (by decide +kernel) (by decide +kernel) (by decide +kernel)⟩, ?_⟩
    refine List.forall_mem_cons.mpr ⟨⟨HD.tup [.str "far" 216, .none, .str "open" 217], _, 0, (by kernel_rfl), rfl, rfl, items3 (by decide +kernel) (by decide +kernel) (by decide +kernel)⟩, ?_⟩
    refine List.forall_mem_cons.mpr ⟨⟨HD.tup [.str "far" 219, .str "called" 220, .str "open" 221], _, 0, (by kernel_rfl), rfl, rfl, items3 (by decide +kernel) (by decide +kernel) (by decide +kernel)⟩, ?_⟩
    refine List.forall_mem_cons.mpr ⟨⟨HD.tup [.str "far" 223, .str "asked" 224, .str "open" 225], _, 0, (by kernel_rfl), rfl, rfl, items3 (by decide +kernel) (by decide +kernel) (by decide +kernel)⟩, ?_⟩
    refine List.forall_mem_cons.mpr ⟨⟨HD.tup [.str "far" 227, .str "up" 228, .str "say" 229], _, 0, (by kernel_rfl), rfl, rfl, items3 (by decide +kernel) (by decide +kernel) (by decide +kernel)⟩, ?_⟩
    refine List.forall_mem_cons.mpr ⟨⟨HD.tup [.str "far" 231, .str "near" 232, .str "say" 233], _, 0, (by kernel_rfl), rfl, rfl, items3 (by decide +kernel) (by decide +kernel) (by decide +kernel)⟩, ?_⟩
    refine List.forall_mem_cons.mpr ⟨⟨HD.tup [.str "far" 235, .str "up" 236, .str "close" 237], _, 0, (by kernel_rfl), rfl, rfl, items3 (by decide +kernel) (by decide +kernel) (by decide +kernel)⟩, ?_⟩
    refine List.forall_mem_cons.mpr ⟨⟨HD.tup [.str "far" 239, .str "near" 240, .str "close" 241], _, 0, (by kernel_rfl), rfl, rfl, items3 (by decide +kernel) (by decide +kernel) (by decide +kernel)⟩, ?_⟩
    exact List.forall_mem_nil _
  case hv =>
    exact ⟨rfl, ⟨_, rfl⟩, rfl, ⟨_, rfl⟩, rfl, ⟨_, rfl⟩, rfl, ⟨_, rfl⟩, rfl, ⟨_, rfl⟩, rfl, ⟨_, rfl⟩, rfl, ⟨_, rfl⟩, rfl, ⟨_, rfl⟩, rfl, ⟨_, rfl⟩, rfl, ⟨_, rfl⟩, rfl, ⟨_, rfl⟩, rfl, ⟨_, rfl⟩, rfl, ⟨_, rfl⟩, rfl, ⟨_, rfl⟩, trivial⟩
end K01
open PySem PySem.W PyProof.Rows
set_option maxRecDepth 100000 in
set_option maxHeartbeats 0 in
theorem PySem.Challenge.cw_lentgate_k01_words_lead_states_holds : PySem.Challenge.rw_lentgate_k01_words_lead_states.Holds := by
  w_on; o_law
  refine PySem.W.holds_open (r := (PySem.Challenge.rw_lentgate_k01_words_lead_states).row) (q := H01.q) (loose := H01.loose) (Xt := H01.Xt) (XP := PySem.W.XL H01.q [])
    (Yf := (PySem.W.kHook H01.K H01.ks H01.ks_eq).obs) (Ya := (PySem.W.kHook H01.K H01.ks H01.ks_eq).val) (YP := (PySem.W.kHook H01.K H01.ks H01.ks_eq).says) (N := H01.NN)
    H01.left (PySem.W.Hook.of _) (PySem.W.Hook.keeps _) (fun s e => PySem.W.xl_of s (Bool.and_eq_true_iff.mp e).1) PySem.W.XL.keeps (by rfl) (by rfl) (by rfl)
    (fun s e => PySem.W.recFacts_of (Bool.and_eq_true_iff.mp e).2) (by rfl) (by assumption) (by decide +kernel) ⟨rfl, rfl, rfl, rfl, rfl, by decide +kernel⟩ ?hw ?hc
  (case hw => w_witness2)
  k_fill
  refine K01.walk (l := PySem.Challenge.rw_lentgate_k01_words_lead_states) rfl rfl (fun w h Y => PySem.W.kIn_of Y) ?F
  case F =>
    intro w mg fa h KX G hmg
    refine' K01.all_mk KX G hmg ?a0 ?l0 ?c0 ?k0 ?a1 ?l1 ?c1 ?k1 ?a2 ?l2 ?c2 ?k2 ?a3 ?l3 ?c3 ?k3 ?a4 ?l4 ?c4 ?k4 ?a5 ?l5 ?c5 ?k5 ?a6 ?l6 ?c6 ?k6 ?a7 ?l7 ?c7 ?k7 ?z_isinstance ?z_len ?z_range ?z_str ?z_BREAKABLE ?l_BREAKABLE ?y_BREAKABLE ?v_BREAKABLE ?tLS
    (case a0 => k_is)
    (case l0 => k_is)
    (case c0 => k_is)
    (case k0 => k_is)
    (case a1 => k_is)
    (case l1 => k_is)
    (case c1 => k_is)
    (case k1 => k_is)
    (case a2 => k_is)
    (case l2 => k_is)
    (case c2 => k_is)
    (case k2 => k_is)
    (case a3 => k_is)
    (case l3 => k_is)
    (case c3 => k_is)
    (case k3 => k_is)
    (case a4 => k_is)
    (case l4 => k_is)
    (case c4 => k_is)
    (case k4 => k_is)
    (case a5 => k_is)
    (case l5 => k_is)
    (case c5 => k_is)
    (case k5 => k_is)
    (case a6 => k_is)
    (case l6 => k_is)
    (case c6 => k_is)
    (case k6 => k_is)
    (case a7 => k_is)
    (case l7 => k_is)
    (case c7 => k_is)
    (case k7 => k_is)
    (case z_isinstance => k_is)
    (case z_len => k_is)
    (case z_range => k_is)
    (case z_str => k_is)
    (case z_BREAKABLE => k_is)
    (case l_BREAKABLE => k_is)
    (case y_BREAKABLE => exact (by decide))
    (case v_BREAKABLE => exact .cons ⟨_, rfl⟩ (.cons ⟨_, rfl⟩ (.cons ⟨_, rfl⟩ (.cons ⟨_, rfl⟩ (.cons ⟨_, rfl⟩ (.nil))))))
    (case tLS => exact K01.line_tab KX G)
