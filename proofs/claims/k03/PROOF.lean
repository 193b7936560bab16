import PyProof.Rows.All
import Wide.All
import OpenK.AllK
import Wide.FinOn
import Lean
import PyProof.EqAt
import PyProof.EqKinds
import PyProof.TupleCall
import PyProof.NeKinds
import PyProof.ZipIter
import KE.KIntText
import KE.KDictSum
import KE.KEqDict
import KE.KSortedM
import KE.KIsAll
import KE.KTryMore
import PyProof.NsDelKeeps
import PyProof.Rows.EnumRows
import PySem.Challenge.RW_lentgate_k03_forms_of_any_form
set_option Elab.async false
set_option linter.all false
set_option maxRecDepth 100000
set_option maxHeartbeats 0
section
namespace HD
open PySem PySem.W PyProof.Rows
def topOf (p : Program) (i : Nat) : Stmt := p.main.body.getD i (.Pass ⟨0, 0, 0, 0⟩)
def sub (s : Stmt) (i : Nat) : Stmt := match s with
  | .ClassDef (body := b) .. => b.getD i (.Pass ⟨0, 0, 0, 0⟩)
  | s => s
def defA (s : Stmt) : Arguments := match s with
  | .FunctionDef (args := a) .. => a
  | _ => default
def defB (s : Stmt) : List Stmt := match s with
  | .FunctionDef (body := b) .. => b
  | _ => []
def defS (s : Stmt) : Scope := match s with
  | .FunctionDef (scope := c) .. => c
  | _ => default
abbrev e1 (P : Params) (x : String) (t : Tok) (v : Value) : DictEntry := ⟨PyData.keyHash P x, .str x t, v⟩
abbrev nsO (es : List DictEntry) (n : Nat) : Obj := ⟨.type "dict", none, .dict es.toArray n, #[]⟩
abbrev tbO (vs : List Value) : Obj := ⟨.none, none, .fields vs.toArray, #[]⟩
abbrev coO (vs : List Value) : Obj := ⟨.type "code", none, .fields vs.toArray, #[]⟩
abbrev tup (xs : List Value) : Obj := ⟨.type "tuple", none, .seq xs.toArray 0, #[]⟩
abbrev fnO (n q : String) (s : Stmt) (pm cd : Value) : Obj := ⟨.type "function", none, .func { name := n, qualname := q, params := defA s, body := .stmts (defB s), scope := defS s, globals := 3, closure := [], defaults := .none, kwdefaults := .none, doc := .none, pyModule := pm, annotations := none, code := cd, closureTuple := .none, builtins := 0 }, #[]⟩
abbrev tfO (n q : String) (s : Stmt) : Obj := ⟨.none, none, .func { name := n, qualname := q, params := defA s, body := .stmts (defB s), scope := defS s, globals := 0, closure := [], defaults := .none, kwdefaults := .none, doc := .none, pyModule := .none, annotations := none, code := .none, closureTuple := .none, builtins := 0 }, #[]⟩
structure DF where
  n : String
  q : String
  s : Stmt
  a : Nat
  t : Nat
  l : Nat
  c : Nat
  xs : List String
  pm : Value
def df (n q : String) (s : Stmt) (a t l c : Nat) (xs : List String) (pm : Value) : DF := ⟨n, q, s, a, t, l, c, xs, pm⟩
def toksOf : Nat → List String → List Value
  | _, [] => []
  | t, x :: xs => .str x t :: toksOf (t + 1) xs
def DF.co (d : DF) : Obj := coO [.str d.n d.t, .str d.q (d.t + 1), .str "/claim/cut.py" (d.t + 2), .int d.l 0, .int d.c 0, .int 0 0, .int 0 0, .int 3 0, .ref d.a, .bool true, .int 181 0, .ref (d.a + 1), .none, .ref (d.a + 2), .ref (d.a + 3), .ref (d.a + 4), .int (d.t + 3 + d.xs.length : Nat) 0, .int d.l 0, .str "/claim/cut.py" (d.t + 4 + d.xs.length)]
def DF.fn (d : DF) : Obj := fnO d.n d.q d.s d.pm (.ref (d.a + 5))
def DF.objs (d : DF) : List Obj := [tup [], tbO [], tup (toksOf (d.t + 3) d.xs), tup [], tfO d.n d.q d.s, d.co, d.fn]
def treeOf (l : List Obj) : BT := (l.foldl (fun (x : BT × Nat) o => (x.1.ins x.2 o, x.2+1)) (.nil, 0)).1
theorem go_add {tb : String → Option Builtin} {p : Program} {w : World} {n₀ : Nat} {an : Option Value} {b : Nat} : ∀ {n m : Nat} {s s' : SharedT} {t t' : Thread} {r : Option (SharedT × Thread)},
    segGoT tb p w n₀ an b n s t = some (s', t') → segGoT tb p w n₀ an b m s' t' = r → segGoT tb p w n₀ an b (n + m) s t = r
  | 0, m, s, s', t, t', r, h, k => by
    simp only [segGoT, Option.some.injEq, Prod.mk.injEq] at h
    obtain ⟨rfl, rfl⟩ := h
    rw [Nat.zero_add]; exact k
  | n + 1, m, s, s', t, t', r, h, k => by
    have e : n + 1 + m = (n + m) + 1 := by omega
    rw [e]
    simp only [segGoT] at h ⊢
    split at h
    · cases h
    · rename_i he
      split at h
      · cases h
      · rename_i hk
        split at h
        · rename_i s2 t2 hs
          exact go_add h k
        · cases h
theorem run_add {tb : String → Option Builtin} {p : Program} {w : World} {n₀ : Nat} {an : Option Value} {b : Nat} : ∀ {n m : Nat} {s s' : SharedT} {t t' : Thread} {r : Flow × SharedT × Code × Pos},
    segGoT tb p w n₀ an b n s t = some (s', t') → segRunT tb p w n₀ an b m s' t' = some r → segRunT tb p w n₀ an b (n + m) s t = some r
  | 0, m, s, s', t, t', r, h, k => by
    simp only [segGoT, Option.some.injEq, Prod.mk.injEq] at h
    obtain ⟨rfl, rfl⟩ := h
    rw [Nat.zero_add]; exact k
  | n + 1, m, s, s', t, t', r, h, k => by
    have e : n + 1 + m = (n + m) + 1 := by omega
    rw [e]
    simp only [segGoT] at h
    simp only [segRunT]
    split at h
    · cases h
    · rename_i he
      split at h
      · cases h
      · rename_i hk
        split at h
        · rename_i s2 t2 hs
          exact run_add h k
        · cases h
theorem run_more {tb : String → Option Builtin} {p : Program} {w : World} {n₀ : Nat} {an : Option Value} {b : Nat} (k : Nat) : ∀ {n : Nat} {s : SharedT} {t : Thread} {r : Flow × SharedT × Code × Pos},
    segRunT tb p w n₀ an b n s t = some r → segRunT tb p w n₀ an b (n + k) s t = some r
  | 0, s, t, r, h => by cases h
  | n + 1, s, t, r, h => by
    have e : n + 1 + k = (n + k) + 1 := by omega
    rw [e]
    simp only [segRunT] at h ⊢
    split at h
    · exact h
    · rename_i he
      split at h
      · cases h
      · rename_i hk
        split at h
        · exact run_more k h
        · cases h
def Rn {α : Type} (p : Program) (w : World) (n₀ : Nat) (an : Option Value) (c : Code) (F : List Frame) (m : Nat) (x : Sem α) (ps : Pos) (s : SharedT) (a : α) (ps' : Pos) (s' : SharedT) : Prop :=
  ∀ (K : α → Sem Fin) (H : Value → Sem Fin) (lv : List Value → List Value), ∃ n, n ≤ m ∧ segGoT treeTable p w n₀ an 1 n s ⟨x.wrap K H id lv, c, ps, F⟩ = some (s', ⟨K a, c, ps', F⟩)
section
variable {α β : Type} {p : Program} {w : World} {n₀ : Nat} {an : Option Value} {c : Code} {F : List Frame} {m m1 m2 : Nat} {ps ps1 ps2 ps' : Pos} {s s1 s2 s' : SharedT}
theorem Rn.more {x : Sem α} {a : α} (h : Rn p w n₀ an c F m1 x ps s a ps' s') (e : m1 ≤ m) : Rn p w n₀ an c F m x ps s a ps' s' := fun K H lv => by
  obtain ⟨n, hn, h⟩ := h K H lv
  exact ⟨n, Nat.le_trans hn e, h⟩
theorem rn_pure {a : α} : Rn p w n₀ an c F m (pure a) ps s a ps s := fun K H lv => ⟨0, Nat.zero_le _, rfl⟩
theorem rn_bind {x : Sem α} {f : α → Sem β} {a : α} {b : β} (h1 : Rn p w n₀ an c F m1 x ps s a ps1 s1) (h2 : Rn p w n₀ an c F m2 (f a) ps1 s1 b ps2 s2) : Rn p w n₀ an c F (m1 + m2) (x >>= f) ps s b ps2 s2 := fun K H lv => by
  obtain ⟨n1, l1, e1⟩ := h1 (fun a => (f a).wrap K H id lv) H lv
  obtain ⟨n2, l2, e2⟩ := h2 K H lv
  refine ⟨n1 + n2, Nat.add_le_add l1 l2, ?_⟩
  rw [Sem.bind_eq_wrap', Sem.wrap_wrap]
  exact go_add e1 e2
theorem rn_keep {x : Sem α} {a : α} {vs : List Value} (h : Rn p w n₀ an c F m x ps s a ps' s') : Rn p w n₀ an c F m (x.keep vs) ps s a ps' s' := fun K H lv => by
  obtain ⟨n, l, e⟩ := h K H (fun r => lv (vs ++ r))
  refine ⟨n, l, ?_⟩
  rw [Sem.keep_eq_wrap, Sem.wrap_wrap]
  exact e
theorem rn_holding {x : Sem α} {a : α} {vs : List Value} (h : Rn p w n₀ an c F m x ps s a ps' s') : Rn p w n₀ an c F m (holding vs x) ps s a ps' s' := by
  unfold holding
  split
  · exact h
  · exact rn_keep h
theorem rn_at {x : Sem α} {a : α} {n : Nat} (h : ∀ (K : α → Sem Fin) (H : Value → Sem Fin) (lv : List Value → List Value), segGoT treeTable p w n₀ an 1 n s ⟨x.wrap K H id lv, c, ps, F⟩ = some (s', ⟨K a, c, ps', F⟩)) : Rn p w n₀ an c F n x ps s a ps' s' :=
  fun K H lv => ⟨n, Nat.le_refl _, h K H lv⟩
theorem rn_loop {b : β} {f : α → β → Sem (ForInStep β)} : ∀ {xs : List α}, (∀ x ∈ xs, Rn p w n₀ an c F m (f x b) ps s (.yield b) ps s) → Rn p w n₀ an c F (m * xs.length) (forIn xs b f) ps s b ps s
  | [], _ => by rw [List.forIn_nil]; exact rn_pure
  | x :: xs, h => by
    rw [List.forIn_cons]
    have h1 := h x (List.mem_cons_self ..)
    have h2 := rn_loop (xs := xs) fun y hy => h y (List.mem_cons_of_mem _ hy)
    have e : m * (x :: xs).length = m + m * xs.length := by rw [List.length_cons, Nat.mul_succ, Nat.add_comm]
    rw [e]
    exact rn_bind h1 h2
end
section
variable {p : Program} {w : World} {n₀ : Nat} {an : Option Value} {c : Code} {F : List Frame} {ps : Pos} {s : SharedT} {m L : Nat}
theorem tells_not {a : Addr} {st : List Value} (hL : st.length ≤ L) (hq : Rn p w n₀ an c F m (eqIsQuiet 8 (.ref a)) ps s true ps s)
    (hs : ∀ v ∈ st, Rn p w n₀ an c F m (eqIsQuiet 8 v) ps s true ps s) : Rn p w n₀ an c F (m + m * L) (tableMayTell (.ref a) st) ps s false ps s := by
  unfold tableMayTell
  split
  · exact rn_pure
  · refine Rn.more (rn_bind hq (m2 := m * st.length) ?_) (Nat.add_le_add_left (Nat.mul_le_mul_left _ hL) _)
    rw [if_neg (by decide)]
    refine Rn.more (rn_bind (m2 := 0) (rn_loop (m := m) fun v hv => ?_) ?_) (Nat.le_refl _)
    · refine Rn.more (rn_bind (m2 := 0) (hs v hv) ?_) (Nat.le_refl _)
      rw [if_neg (by decide)]
      exact rn_pure
    · exact rn_pure
theorem find_none {d a : Addr} {h : Int} {es : Array DictEntry} {ep : Nat} (hL : es.size ≤ L) (rn_rule : ∀ t, Rn p w n₀ an c F 1 (rule t) ps s () ps s)
    (hd : Rn p w n₀ an c F 1 (dictEntries d none) ps s es ps s) (he : Rn p w n₀ an c F 1 (dictEpoch d none) ps s ep ps s)
    (hq : Rn p w n₀ an c F m (eqIsQuiet 8 (.ref a)) ps s true ps s)
    (hk : ∀ e ∈ es.toList, (∃ b : Addr, e.key = .ref b ∧ b ≠ a) ∧ Rn p w n₀ an c F m (eqIsQuiet 8 e.key) ps s true ps s ∧ Rn p w n₀ an c F m (eqBool e.key (.ref a)) ps s false ps s) :
    Rn p w n₀ an c F (1 + ((m + m * L) + (m + 3) * L)) (dictFind d (.ref a) h) ps s none ps s := by
  unfold dictFind
  refine rn_holding ?_
  dsimp only [keyPart]
  refine rn_bind hd ?_
  have hp : ∀ i ∈ placesWithHash es.size (fun i => Option.map (fun x => x.hash) es[i]?) h, i < es.size := fun i hi => by
    unfold placesWithHash at hi
    exact List.mem_range.mp (List.mem_filter.mp hi).1
  have hpl : (placesWithHash es.size (fun i => Option.map (fun x => x.hash) es[i]?) h).length ≤ L := by
    unfold placesWithHash
    refine Nat.le_trans (List.length_filter_le _ _) ?_
    rw [List.length_range]
    exact hL
  generalize placesWithHash es.size (fun i => Option.map (fun x => x.hash) es[i]?) h = places at hp hpl ⊢
  have hst : ∀ v ∈ List.filterMap (fun i => Option.map (fun x => x.key) es[i]?) places, ∃ e ∈ es.toList, v = e.key := fun v hv => by
    obtain ⟨i, hi, e⟩ := List.mem_filterMap.mp hv
    obtain ⟨x, hx, rfl⟩ := Option.map_eq_some_iff.mp e
    exact ⟨x, Array.mem_toList_iff.mpr (Array.mem_of_getElem? hx), rfl⟩
  have hsl : (List.filterMap (fun i => Option.map (fun x => x.key) es[i]?) places).length ≤ L := Nat.le_trans (List.length_filterMap_le _ _) hpl
  generalize List.filterMap (fun i => Option.map (fun x => x.key) es[i]?) places = stored at hst hsl ⊢
  have hno : ∀ e ∈ es.toList, (e.key == Value.ref a) = false := fun e h1 => by
    obtain ⟨⟨b, h2, h3⟩, _⟩ := hk e h1
    rw [h2]
    exact beq_eq_false_iff_ne.mpr fun q => h3 (Value.ref.inj q)
  rw [if_neg (by simp [carriedByValue])]
  rw [if_neg (by
    rw [← Array.any_toList, Bool.not_eq_true, List.any_eq_false]
    intro e h1
    rw [hno e h1]
    simp)]
  rw [if_neg (by
    intro q
    have q := eq_of_beq q
    obtain ⟨e, h1, h2⟩ := hst (.ref a) (by rw [q]; exact List.mem_cons_self ..)
    have := hno e h1
    rw [← h2] at this
    simp at this)]
  refine rn_bind (tells_not hsl hq fun v hv => ?_) ?_
  · obtain ⟨e, h1, rfl⟩ := hst v hv
    exact (hk e h1).2.1
  rw [if_neg (by simp)]
  refine Rn.more (rn_bind (m2 := 0) (rn_loop (m := m + 3) fun i hi => ?_) ?_) (Nat.mul_le_mul_left _ hpl)
  · have hi' := hp i hi
    have hg : es[i]? = some es[i] := Array.getElem?_eq_getElem hi'
    rw [hg]
    dsimp only
    split
    · obtain ⟨_, _, hb⟩ := hk es[i] (Array.mem_toList_iff.mpr (Array.getElem_mem hi'))
      refine Rn.more (rn_bind he (rn_bind (m2 := 2) hb (rn_bind (m2 := 1) he ?_))) (by omega)
      rw [if_neg (by simp), if_neg (by decide)]
      refine Rn.more (rn_bind (m2 := 0) (rn_rule _) ?_) (Nat.le_refl _)
      rw [if_neg (by simp)]
      exact rn_pure
    · exact rn_pure
  · exact rn_pure
end
section
variable {α β : Type} {p : Program} {w : World} {n₀ : Nat} {an : Option Value} {c : Code} {F : List Frame} {ps ps1 ps2 : Pos} {s s1 s2 : SharedT} {m m1 m2 m3 mf mu : Nat}
theorem hash_red {i : Int} (hr : ∀ t, Rn p w n₀ an c F 1 (rule t) ps s () ps s) : Rn p w n₀ an c F 1 (pyHashByItsType.reduced i) ps s (reduceHash i) ps s := by
  unfold pyHashByItsType.reduced reduceHash
  split
  · exact rn_pure
  · exact Rn.more (rn_bind (m2 := 0) (hr _) rn_pure) (Nat.le_refl _)
theorem hash_tup {a : Addr} {i : Int} {t : Tok} (hr : ∀ x, Rn p w n₀ an c F 1 (rule x) ps s1 () ps s1) (h1 : Rn p w n₀ an c F m1 (cRoomFor "hash" [.ref a]) ps s () ps s)
    (h2 : Rn p w n₀ an c F m2 (specialOf (.ref a) "__hash__") ps s (some (.builtin "tuple.__hash__")) ps s)
    (h3 : ∀ E, Rn p w n₀ an c F m3 (callSpecialIfBoundUnlessNone? (.ref a) "__hash__" E) ps s (some (.int i t)) ps s1) : Rn p w n₀ an c F (m1 + (m2 + (m2 + (m3 + 1)))) (pyHash (.ref a)) ps s (reduceHash i) ps s1 := by
  unfold pyHash
  dsimp only
  unfold pyHashByItsType
  refine rn_bind h1 (rn_bind h2 ?_)
  rw [if_neg (by decide)]
  refine rn_bind h2 ?_
  rw [if_neg (by decide)]
  refine rn_bind (h3 _) ?_
  exact hash_red hr
theorem set_new {d a : Addr} {h : Int} {v : Value} (hr : ∀ x, Rn p w n₀ an c F 1 (rule x) ps s1 () ps s1) (hh : Rn p w n₀ an c F m1 (pyHash (.ref a)) ps s h ps s1) (hf : Rn p w n₀ an c F mf (dictFind d (.ref a) h) ps s1 none ps s1)
    (hu : Rn p w n₀ an c F mu (updateDictKeys d (fun x => x.push ⟨h, .ref a, v⟩) none) ps s1 () ps s2) : Rn p w n₀ an c F (m1 + (mf + (1 + mu))) (dictSet d (.ref a) v) ps s () ps s2 := by
  unfold dictSet
  refine rn_holding (rn_bind hh ?_)
  unfold dictSetHashed
  refine rn_holding (rn_bind hf ?_)
  exact rn_bind (hr _) hu
theorem rn_turn {x : α} {xs : List α} {b : β} {f : α → β → Sem (ForInStep β)} (h1 : Rn p w n₀ an c F m1 (f x b) ps s (.yield b) ps1 s1) (h2 : Rn p w n₀ an c F m2 (forIn xs b f) ps1 s1 b ps2 s2) : Rn p w n₀ an c F (m1 + m2) (forIn (x :: xs) b f) ps s b ps2 s2 := by
  rw [List.forIn_cons]
  exact rn_bind h1 h2
theorem rn_last {b : β} {f : α → β → Sem (ForInStep β)} : Rn p w n₀ an c F 0 (forIn [] b f) ps s b ps s := by
  rw [List.forIn_nil]; exact rn_pure
theorem rn_eq {x y : Sem α} {a : α} (e : x = y) (h : Rn p w n₀ an c F m y ps s a ps1 s1) : Rn p w n₀ an c F m x ps s a ps1 s1 := e ▸ h
end
section
open PySem.W PyProof.Rows
theorem open_of {q : Program} {loose mods : List Str} {Xt : Shared → Bool} {h : Heap} {d : Drawn} {k : Nat} {os : OsState}
    (a : PyProof.Rows.seen (List.map (fun x => x.name) (recsOf q)) (ownsOf q) [] ⟨h, #[], d, k, os⟩ = expectedOf q) (b : h.bltView = bltViewBooted)
    (c : h.keysOk (looseW q loose) (List.map (fun x => x.name) (recsOf q)) (List.map (fun x => x.fst) (litsOf q)) (List.map (fun x => x.name) (clssOf q (looseW q loose))) = true)
    (c2 : h.accountedOkI mods = true) (c3 : (h.isNs mainGlobals && h.isNs builtinsNs) = true) (c4 : tablesOk q h = true) (c5 : Xt ⟨h, #[], d, k, os⟩ = true)
    (e : tabsOk q ⟨h, #[], d, k, os⟩ = true) (f : pinSeenD q (drecsOf q) ⟨h, #[], d, k, os⟩ = pinGoodD (drecsOf q)) (g : plainSeenE q (looseW q loose) ⟨h, #[], d, k, os⟩ = plainGoodE q (looseW q loose)) (g2 : plainSeenD q loose ⟨h, #[], d, k, os⟩ = plainGoodD q loose)
    (g3 : wideSeen q ⟨h, #[], d, k, os⟩ = wideGood q) (g4 : clsSeenW q loose ⟨h, #[], d, k, os⟩ = clsGoodW q loose) : openSeen q loose mods Xt true ⟨h, #[], d, k, os⟩ = openGood q loose := by
  rw [Bool.and_eq_true] at c3
  unfold openSeen openGood
  dsimp only
  rw [a, b, c, c2, c3.1, c3.2, c4, c5, e, f, g, g2, g3, g4]
  rfl
end
end HD
end
namespace H03
open PySem PySem.W PyProof.Rows HD
abbrev p := PySem.Challenge.pw_lentgate_k03_forms_of_any_form
abbrev body := behindTheImports p
abbrev top (i : Nat) : Stmt := topOf p i
def env : Env := { scope := p.main.scope, locals := mainNs, globals := mainNs, cells := [], code := .ref 13, frame := some 14 }
def cd : Code := .body body env
def ann : Option Value := some (.ref 6)
def q0 : Pos := ⟨0, 0, 0, 0⟩
def B : List Frame := [topFrame q0]
abbrev wf (w : World) (b : Bool) : World := w.withFollow "special-get-raises" b
noncomputable section
def ns (P : Params) : List DictEntry := [e1 P "__name__" 165 (.str "law_lentgate_k03_forms_of_any_form" 1633), e1 P "__doc__" 166 (.none), e1 P "__package__" 167 (.none), e1 P "__loader__" 168 (.builtin "__main__.__loader__#opaque"), e1 P "__spec__" 169 (.none), e1 P "__annotations__" 170 (.ref 6), e1 P "__builtins__" 171 (.ref 4), e1 P "__file__" 173 (.str "/claim/cut.py" 172), e1 P "__cached__" 174 (.none), e1 P "_wall" 193 (.ref 21), e1 P "GREATEST_HOUSE" 197 (.int 99 196), e1 P "GREATEST_DOOR" 199 (.int 9999 198), e1 P "GREATEST_PLACE" 201 (.int 1000000 200), e1 P "GREATEST_TICKS" 203 (.int 1000000 202), e1 P "GREATEST_RULE" 205 (.int 1000000 204), e1 P "MOST_SIGNS" 207 (.int 40 206), e1 P "FIRST_SIGN" 209 (.int 32 208), e1 P "LAST_SIGN" 211 (.int 126 210), e1 P "PERCENT_SIGN" 213 (.int 37 212), e1 P "KINDS" 216 (.ref 22), e1 P "NOTE_WORDS" 218 (.ref 23), e1 P "LINE_WORDS" 223 (.ref 24), e1 P "is_whole" 230 (.ref 31), e1 P "is_whole_within" 239 (.ref 38), e1 P "is_house" 246 (.ref 45), e1 P "is_door" 253 (.ref 52), e1 P "is_place" 260 (.ref 59), e1 P "is_outer_place" 267 (.ref 66), e1 P "is_ticks" 274 (.ref 73), e1 P "is_kind" 281 (.ref 80), e1 P "is_word" 289 (.ref 87), e1 P "is_sign" 297 (.ref 94), e1 P "is_text" 303 (.ref 99), e1 P "is_letter" 312 (.ref 106), e1 P "is_out" 326 (.ref 113), e1 P "is_come" 339 (.ref 120), e1 P "is_lost" 351 (.ref 127), e1 P "is_wait" 358 (.ref 134), e1 P "is_rule" 370 (.ref 141), e1 P "is_unrule" 377 (.ref 148), e1 P "DEEDS" 390 (.ref 149), e1 P "name_of" 397 (.ref 156), e1 P "is_deed" 406 (.ref 163), e1 P "LENDINGS" 412 (.ref 164), e1 P "SIEVES" 416 (.ref 165), e1 P "PICKS" 419 (.ref 166), e1 P "WIDEST_STEP" 421 (.int 199 420), e1 P "GREATEST_MOST" 423 (.int 200 422), e1 P "GREATEST_TIME" 425 (.int 1000000 424), e1 P "TIME_AT" 444 (.ref 167), e1 P "is_pool" 452 (.ref 174), e1 P "is_times" 458 (.ref 179), e1 P "is_form" 473 (.ref 186), e1 P "holder_of" 487 (.ref 193), e1 P "time_of" 496 (.ref 200), e1 P "GateError" 516 (.ref 210), e1 P "NoForm" 532 (.ref 223), e1 P "NoDeed" 548 (.ref 235), e1 P "NoRule" 564 (.ref 247), e1 P "NoPlan" 580 (.ref 259), e1 P "NoRow" 596 (.ref 271), e1 P "LINE_STEPS" 709 (.ref 274), e1 P "BREAKABLE" 715 (.ref 289), e1 P "note_state" 723 (.ref 296), e1 P "line_state" 732 (.ref 303), e1 P "next_state" 742 (.ref 310), e1 P "Rules" 824 (.ref 360), e1 P "Pool" 924 (.ref 433), e1 P "Talk" 961 (.ref 454), e1 P "Talks" 1131 (.ref 574), e1 P "talk_row" 1145 (.ref 585), e1 P "Gate" 1466 (.ref 787), e1 P "WITH_TEXT" 1471 (.ref 792), e1 P "FIGURES" 1473 (.str "0123456789" 1472), e1 P "MOST_FIGURES" 1475 (.int 7 1474), e1 P "show_part" 1482 (.ref 799), e1 P "show_row" 1488 (.ref 804), e1 P "show_answer" 1494 (.ref 809), e1 P "is_number_word" 1500 (.ref 814), e1 P "read_word" 1507 (.ref 821), e1 P "read_words" 1513 (.ref 826), e1 P "read_parts" 1524 (.ref 833), e1 P "read_deed" 1532 (.ref 840), e1 P "show_rows" 1540 (.ref 845), e1 P "Desk" 1577 (.ref 869), e1 P "replayed" 1589 (.ref 880), e1 P "number_in" 1596 (.ref 887), e1 P "answered_as" 1605 (.ref 894), e1 P "is_same" 1611 (.ref 899), e1 P "could_be_next" 1621 (.ref 906), e1 P "looked" 1632 (.ref 913), e1 P "_law_cell" 1642 (.ref 920), e1 P "_law_well" 1650 (.ref 927), e1 P "_law_take" 1661 (.ref 934), e1 P "_law_whole" 1668 (.ref 941), e1 P "_law_a_form" 1674 (.ref 946), e1 P "_law_odd" 1685 (.ref 953), e1 P "_law_in_bounds" 1694 (.ref 960), e1 P "_law_is_one" 1702 (.ref 967), e1 P "_law_is_right" 1708 (.ref 972), e1 P "_law_bent" 1718 (.ref 979), e1 P "_law_made" 1728 (.ref 986), e1 P "law" 1743 (.ref 993)]
def tb : List Value := [.int 1 0, .int 0 0, .ref 20, .int 17 0, .int 0 0, .ref 30, .int 19 0, .int 0 0, .ref 37, .int 21 0, .int 0 0, .ref 44, .int 23 0, .int 0 0, .ref 51, .int 25 0, .int 0 0, .ref 58, .int 27 0, .int 0 0, .ref 65, .int 29 0, .int 0 0, .ref 72, .int 31 0, .int 0 0, .ref 79, .int 33 0, .int 0 0, .ref 86, .int 37 0, .int 0 0, .ref 93, .int 40 0, .int 0 0, .ref 98, .int 44 0, .int 0 0, .ref 105, .int 46 0, .int 0 0, .ref 112, .int 51 0, .int 0 0, .ref 119, .int 56 0, .int 0 0, .ref 126, .int 61 0, .int 0 0, .ref 133, .int 63 0, .int 0 0, .ref 140, .int 70 0, .int 0 0, .ref 147, .int 73 0, .int 0 0, .ref 155, .int 77 0, .int 0 0, .ref 162, .int 91 0, .int 0 0, .ref 173, .int 93 0, .int 0 0, .ref 178, .int 98 0, .int 0 0, .ref 185, .int 107 0, .int 0 0, .ref 192, .int 115 0, .int 0 0, .ref 199, .int 119 0, .int 0 0, .ref 206, .int 121 0, .int 0 0, .ref 219, .int 123 0, .int 0 0, .ref 231, .int 125 0, .int 0 0, .ref 243, .int 127 0, .int 0 0, .ref 255, .int 129 0, .int 0 0, .ref 267, .int 134 0, .int 0 0, .ref 295, .int 138 0, .int 0 0, .ref 302, .int 142 0, .int 0 0, .ref 309, .int 147 0, .int 0 0, .ref 316, .int 175 0, .int 0 0, .ref 370, .int 219 0, .int 0 0, .ref 443, .int 226 0, .int 0 0, .ref 464, .int 309 0, .int 0 0, .ref 584, .int 312 0, .int 0 0, .ref 591, .int 486 0, .int 0 0, .ref 798, .int 488 0, .int 0 0, .ref 803, .int 490 0, .int 0 0, .ref 808, .int 496 0, .int 0 0, .ref 813, .int 502 0, .int 0 0, .ref 820, .int 506 0, .int 0 0, .ref 825, .int 508 0, .int 0 0, .ref 832, .int 514 0, .int 0 0, .ref 839, .int 520 0, .int 0 0, .ref 844, .int 524 0, .int 0 0, .ref 851, .int 544 0, .int 0 0, .ref 879, .int 549 0, .int 0 0, .ref 886, .int 553 0, .int 0 0, .ref 893, .int 556 0, .int 0 0, .ref 898, .int 562 0, .int 0 0, .ref 905, .int 570 0, .int 0 0, .ref 912, .int 577 0, .int 0 0, .ref 919, .int 581 0, .int 0 0, .ref 926, .int 585 0, .int 0 0, .ref 933, .int 595 0, .int 0 0, .ref 940, .int 597 0, .int 0 0, .ref 945, .int 609 0, .int 0 0, .ref 952, .int 615 0, .int 0 0, .ref 959, .int 617 0, .int 0 0, .ref 966, .int 619 0, .int 0 0, .ref 971, .int 633 0, .int 0 0, .ref 978, .int 645 0, .int 0 0, .ref 985, .int 660 0, .int 0 0, .ref 992]
abbrev pm0 : Value := .str "__main__" 164
abbrev pm1 : Value := .str "lentgate.ends" 194
abbrev pm2 : Value := .str "lentgate.forms" 407
abbrev pm3 : Value := .str "lentgate.lines" 597
abbrev pm4 : Value := .str "lentgate.rules" 743
abbrev pm5 : Value := .str "lentgate.pool" 825
abbrev pm6 : Value := .str "lentgate.talks" 925
abbrev pm7 : Value := .str "lentgate.gate" 1132
abbrev pm8 : Value := .str "lentgate.texts" 1467
abbrev pm9 : Value := .str "lentgate.desk" 1533
abbrev pm10 : Value := .str "lentgate.looker" 1578
abbrev pm11 : Value := .str "law_lentgate_k03_forms_of_any_form" 1633
abbrev d15 := df "_wall" "_wall" (top 0) 15 187 1 1 ["k"] pm0
abbrev d25 := df "is_whole" "is_whole" (top 14) 25 224 17 1 ["thing"] pm1
abbrev d32 := df "is_whole_within" "is_whole_within" (top 15) 32 231 19 3 ["thing", "least", "greatest"] pm1
abbrev d39 := df "is_house" "is_house" (top 16) 39 240 21 1 ["thing"] pm1
abbrev d46 := df "is_door" "is_door" (top 17) 46 247 23 1 ["thing"] pm1
abbrev d53 := df "is_place" "is_place" (top 18) 53 254 25 1 ["thing"] pm1
abbrev d60 := df "is_outer_place" "is_outer_place" (top 19) 60 261 27 1 ["thing"] pm1
abbrev d67 := df "is_ticks" "is_ticks" (top 20) 67 268 29 1 ["thing"] pm1
abbrev d74 := df "is_kind" "is_kind" (top 21) 74 275 31 1 ["thing"] pm1
abbrev d81 := df "is_word" "is_word" (top 22) 81 282 33 2 ["kind", "thing"] pm1
abbrev d88 := df "is_sign" "is_sign" (top 23) 88 290 37 1 ["sign", "at"] pm1
abbrev d100 := df "is_letter" "is_letter" (top 25) 100 304 44 3 ["kind", "word", "text"] pm1
abbrev d107 := df "is_out" "is_out" (top 26) 107 313 46 1 ["parts", "kind", "house", "door", "place", "far", "word", "text"] pm1
abbrev d114 := df "is_come" "is_come" (top 27) 114 327 51 1 ["parts", "kind", "place", "far", "number", "word", "text"] pm1
abbrev d121 := df "is_lost" "is_lost" (top 28) 121 340 56 1 ["parts", "teller", "kind", "number", "place", "far"] pm1
abbrev d128 := df "is_wait" "is_wait" (top 29) 128 352 61 1 ["parts"] pm1
abbrev d135 := df "is_rule" "is_rule" (top 30) 135 359 63 1 ["parts", "kind", "number", "place", "house", "door"] pm1
abbrev d142 := df "is_unrule" "is_unrule" (top 31) 142 371 70 1 ["parts"] pm1
abbrev d150 := df "name_of" "name_of" (top 33) 150 391 73 1 ["thing"] pm1
abbrev d157 := df "is_deed" "is_deed" (top 34) 157 398 77 1 ["thing", "name", "has_parts"] pm1
abbrev d168 := df "is_pool" "is_pool" (top 43) 168 445 91 2 ["low", "high"] pm2
abbrev d180 := df "is_form" "is_form" (top 45) 180 459 98 1 ["thing", "low", "high", "lending", "sieve", "pick", "most", "renew", "times"] pm2
abbrev d187 := df "holder_of" "holder_of" (top 46) 187 474 107 2 ["form", "inner", "kind", "house", "door", "place", "far", "lending"] pm2
abbrev d194 := df "time_of" "time_of" (top 47) 194 488 115 2 ["form", "state", "times"] pm2
abbrev d290 := df "note_state" "note_state" (top 58) 290 716 134 2 ["state", "word"] pm3
abbrev d297 := df "line_state" "line_state" (top 59) 297 724 138 3 ["state", "side", "word"] pm3
abbrev d304 := df "next_state" "next_state" (top 60) 304 733 142 4 ["kind", "state", "side", "word"] pm3
abbrev d318 := df "__init__" "Rules.__init__" (sub (top 62) 0) 318 757 149 1 ["self"] pm4
abbrev d325 := df "tell" "Rules.tell" (sub (top 62) 1) 325 764 153 6 ["self", "kind", "number", "place", "house", "door", "told"] pm4
abbrev d332 := df "stands" "Rules.stands" (sub (top 62) 2) 332 777 159 2 ["self", "k"] pm4
abbrev d339 := df "drop" "Rules.drop" (sub (top 62) 3) 339 785 162 2 ["self", "k"] pm4
abbrev d346 := df "door_for" "Rules.door_for" (sub (top 62) 4) 346 793 165 4 ["self", "kind", "number", "place", "rule_kind", "rule_number", "rule_place", "house", "door", "fits_place"] pm4
abbrev d372 := df "__init__" "Pool.__init__" (sub (top 64) 0) 372 839 177 3 ["self", "low", "high"] pm5
abbrev d379 := df "has" "Pool.has" (sub (top 64) 1) 379 848 184 2 ["self", "number"] pm5
abbrev d386 := df "is_free" "Pool.is_free" (sub (top 64) 2) 386 856 187 3 ["self", "number", "moment"] pm5
abbrev d393 := df "from_mark" "Pool.from_mark" (sub (top 64) 3) 393 865 192 1 ["self"] pm5
abbrev d400 := df "picked" "Pool.picked" (sub (top 64) 4) 400 872 195 4 ["self", "pick", "door", "moment", "number"] pm5
abbrev d407 := df "take" "Pool.take" (sub (top 64) 5) 407 883 203 2 ["self", "number"] pm5
abbrev d414 := df "give" "Pool.give" (sub (top 64) 6) 414 891 209 3 ["self", "number", "until"] pm5
abbrev d445 := df "__init__" "Talk.__init__" (sub (top 66) 0) 445 939 221 5 ["self", "inner", "number", "state", "over"] pm6
abbrev d466 := df "__init__" "Talks.__init__" (sub (top 67) 0) 466 974 228 2 ["self", "form"] pm6
abbrev d473 := df "of_inner" "Talks.of_inner" (sub (top 67) 1) 473 982 237 2 ["self", "inner"] pm6
abbrev d480 := df "of_outer" "Talks.of_outer" (sub (top 67) 2) 480 990 240 5 ["self", "kind", "number", "place", "far"] pm6
abbrev d492 := df "living" "Talks.living" (sub (top 67) 4) 492 1007 248 1 ["self"] pm6
abbrev d499 := df "is_living" "Talks.is_living" (sub (top 67) 5) 499 1014 251 2 ["self", "talk"] pm6
abbrev d506 := df "number_of" "Talks.number_of" (sub (top 67) 6) 506 1022 254 2 ["self", "inner"] pm6
abbrev d513 := df "holder_at" "Talks.holder_at" (sub (top 67) 7) 513 1030 257 2 ["self", "number"] pm6
abbrev d525 := df "lent_until" "Talks.lent_until" (sub (top 67) 9) 525 1044 263 2 ["self", "number"] pm6
abbrev d532 := df "lend" "Talks.lend" (sub (top 67) 10) 532 1052 266 3 ["self", "number", "inner", "holder"] pm6
abbrev d539 := df "end_lend" "Talks.end_lend" (sub (top 67) 11) 539 1062 272 3 ["self", "number", "moment"] pm6
abbrev d546 := df "begin" "Talks.begin" (sub (top 67) 12) 546 1071 277 4 ["self", "inner", "number", "state", "kind", "house", "door", "place", "far", "talk"] pm6
abbrev d553 := df "lead" "Talks.lead" (sub (top 67) 13) 553 1087 285 3 ["self", "talk", "state"] pm6
abbrev d560 := df "end" "Talks.end" (sub (top 67) 14) 560 1096 292 3 ["self", "talk", "moment", "kind", "house", "door", "place", "far", "number"] pm6
abbrev d579 := df "talk_row" "talk_row" (top 69) 579 1134 309 1 ["talk", "kind", "house", "door", "place", "far"] pm7
abbrev d593 := df "__init__" "Gate.__init__" (sub (top 70) 0) 593 1158 314 2 ["self", "form"] pm7
abbrev d600 := df "deed" "Gate.deed" (sub (top 70) 1) 600 1166 323 2 ["self", "deed", "answer"] pm7
abbrev d607 := df "out" "Gate.out" (sub (top 70) 2) 607 1175 330 8 ["self", "kind", "house", "door", "place", "far", "word", "text"] pm7
abbrev d614 := df "come" "Gate.come" (sub (top 70) 3) 614 1189 333 7 ["self", "kind", "place", "far", "number", "word", "text"] pm7
abbrev d621 := df "lost" "Gate.lost" (sub (top 70) 4) 621 1202 336 6 ["self", "teller", "kind", "number", "place", "far"] pm7
abbrev d628 := df "wait" "Gate.wait" (sub (top 70) 5) 628 1214 339 2 ["self", "ticks"] pm7
abbrev d635 := df "rule" "Gate.rule" (sub (top 70) 6) 635 1222 342 6 ["self", "kind", "number", "place", "house", "door"] pm7
abbrev d642 := df "unrule" "Gate.unrule" (sub (top 70) 7) 642 1234 345 2 ["self", "k"] pm7
abbrev d649 := df "moment" "Gate.moment" (sub (top 70) 8) 649 1242 348 1 ["self"] pm7
abbrev d656 := df "free" "Gate.free" (sub (top 70) 9) 656 1249 351 1 ["self"] pm7
abbrev d673 := df "rests" "Gate.rests" (sub (top 70) 12) 673 1268 360 1 ["self"] pm7
abbrev d680 := df "rules" "Gate.rules" (sub (top 70) 13) 680 1275 363 1 ["self"] pm7
abbrev d687 := df "book" "Gate.book" (sub (top 70) 14) 687 1282 366 1 ["self"] pm7
abbrev d694 := df "answered" "Gate.answered" (sub (top 70) 15) 694 1289 369 3 ["self", "name", "parts", "kind", "place", "far", "number", "word", "text"] pm7
abbrev d701 := df "sent" "Gate.sent" (sub (top 70) 16) 701 1304 384 2 ["self", "parts", "kind", "house", "door", "place", "far", "word", "text", "answer", "number"] pm7
abbrev d708 := df "lead_out" "Gate.lead_out" (sub (top 70) 17) 708 1321 392 3 ["self", "inner", "word", "talk", "state"] pm7
abbrev d715 := df "begin_out" "Gate.begin_out" (sub (top 70) 18) 715 1332 402 3 ["self", "inner", "state", "number"] pm7
abbrev d722 := df "picked_for" "Gate.picked_for" (sub (top 70) 19) 722 1342 414 2 ["self", "door", "pool", "now"] pm7
abbrev d729 := df "come_in" "Gate.come_in" (sub (top 70) 20) 729 1352 420 6 ["self", "kind", "place", "far", "number", "word", "talk"] pm7
abbrev d736 := df "lead_in" "Gate.lead_in" (sub (top 70) 21) 736 1365 428 3 ["self", "talk", "word", "kind", "house", "door", "place", "far", "state", "renew"] pm7
abbrev d743 := df "sifted" "Gate.sifted" (sub (top 70) 22) 743 1381 438 4 ["self", "kind", "place", "number", "holder"] pm7
abbrev d750 := df "lets_note_in" "Gate.lets_note_in" (sub (top 70) 23) 750 1392 446 3 ["self", "place", "number", "sieve"] pm7
abbrev d757 := df "come_by_rule" "Gate.come_by_rule" (sub (top 70) 24) 757 1402 450 6 ["self", "kind", "place", "far", "number", "word", "to", "house", "door", "state", "inner"] pm7
abbrev d764 := df "told_lost" "Gate.told_lost" (sub (top 70) 25) 764 1419 464 2 ["self", "parts", "teller", "kind", "number", "place", "far", "talk"] pm7
abbrev d771 := df "rule_told" "Gate.rule_told" (sub (top 70) 26) 771 1433 471 2 ["self", "parts", "kind", "number", "place", "house", "door"] pm7
abbrev d778 := df "rule_dropped" "Gate.rule_dropped" (sub (top 70) 27) 778 1446 477 2 ["self", "k"] pm7
abbrev d793 := df "show_part" "show_part" (top 75) 793 1476 486 1 ["part"] pm8
abbrev d815 := df "read_word" "read_word" (top 79) 815 1501 502 1 ["word"] pm8
abbrev d827 := df "read_parts" "read_parts" (top 81) 827 1514 508 1 ["text", "name", "head", "colon", "letter"] pm8
abbrev d834 := df "read_deed" "read_deed" (top 82) 834 1525 514 1 ["text", "deed"] pm8
abbrev d853 := df "__init__" "Desk.__init__" (sub (top 85) 0) 853 1553 526 2 ["self", "form"] pm9
abbrev d860 := df "say" "Desk.say" (sub (top 85) 1) 860 1561 529 2 ["self", "row"] pm9
abbrev d874 := df "replayed" "replayed" (top 87) 874 1580 544 2 ["form", "deeds", "gate", "deed"] pm10
abbrev d881 := df "number_in" "number_in" (top 88) 881 1590 549 1 ["answer"] pm10
abbrev d888 := df "answered_as" "answered_as" (top 89) 888 1597 553 3 ["gate", "deed", "told"] pm10
abbrev d900 := df "could_be_next" "could_be_next" (top 91) 900 1612 562 2 ["gate", "row", "deed", "told"] pm10
abbrev d907 := df "looked" "looked" (top 92) 907 1622 570 2 ["form", "book", "gate", "at", "row"] pm10
abbrev d914 := df "_law_cell" "_law_cell" (top 94) 914 1635 577 2 ["script", "k"] pm11
abbrev d921 := df "_law_well" "_law_well" (top 95) 921 1643 581 2 ["cell", "turn"] pm11
abbrev d928 := df "_law_take" "_law_take" (top 96) 928 1651 585 2 ["bag", "many", "found", "p", "n"] pm11
abbrev d935 := df "_law_whole" "_law_whole" (top 97) 935 1662 595 1 ["found"] pm11
abbrev d947 := df "_law_odd" "_law_odd" (top 99) 947 1675 609 2 ["bag", "part", "near", "ends", "some"] pm11
abbrev d954 := df "_law_in_bounds" "_law_in_bounds" (top 100) 954 1686 615 3 ["thing", "low", "high"] pm11
abbrev d961 := df "_law_is_one" "_law_is_one" (top 101) 961 1695 617 2 ["thing", "words"] pm11
abbrev d973 := df "_law_bent" "_law_bent" (top 103) 973 1709 633 2 ["bag", "parts", "at", "way"] pm11
abbrev d980 := df "_law_made" "_law_made" (top 104) 980 1719 645 2 ["way", "thing", "kinds", "e"] pm11
abbrev d987 := df "law" "law" (top 105) 987 1729 660 1 ["script", "cell", "bag", "bends", "thing", "turn", "found", "due", "way"] pm11
def v11 (P : Params) : Obj := tup []
def v13 (P : Params) : Obj := coO [.str "<module>" 182, .str "<module>" 183, .str "/claim/cut.py" 184, .int 1 0, .int 0 0, .int 0 0, .int 0 0, .int 0 0, .ref 11, .bool false, .int 181 0, .ref 12, .none, .none, .none, .none, .int 185 0, .int 1 0, .str "/claim/cut.py" 186]
def v14 (P : Params) : Obj := ⟨.type "frame", none, .plain, #[some (.ref 13), some (.ref 3), some (.ref 3), none, some (.str "__main__" 164), none, some (.ref 0)]⟩
def v35 (P : Params) : Obj := tup [.str "note" 214, .str "line" 215]
def v37 (P : Params) : Obj := tup [.str "say" 217]
def v39 (P : Params) : Obj := tup [.str "open" 219, .str "say" 220, .str "close" 221, .str "break" 222]
def v132 (P : Params) : Obj := tup []
def v133 (P : Params) : Obj := ⟨.none, none, .fields #[], #[]⟩
def v134 (P : Params) : Obj := tfO "is_text" "is_text" (top 24)
def v135 (P : Params) : Obj := coO [.str "is_text" 298, .str "is_text" 299, .str "/claim/cut.py" 300, .int 40 0, .int 1 0, .int 0 0, .int 0 0, .int 3 0, .ref 95, .bool true, .int 181 0, .ref 96, .none, .none, .none, .ref 97, .int 301 0, .int 40 0, .str "/claim/cut.py" 302]
def v136 (P : Params) : Obj := fnO "is_text" "is_text" (top 24) (.str "lentgate.ends" 194) (.ref 98)
def v201 (P : Params) : Obj := nsO [e1 P "out" 378 (.ref 113), e1 P "come" 379 (.ref 120), e1 P "lost" 380 (.ref 127), e1 P "wait" 381 (.ref 134), e1 P "rule" 382 (.ref 141), e1 P "unrule" 383 (.ref 148)] 6
def v222 (P : Params) : Obj := tup [.str "door" 409, .str "place" 410, .str "talk" 411]
def v224 (P : Params) : Obj := tup [.str "all" 413, .str "place" 414, .str "talk" 415]
def v226 (P : Params) : Obj := tup [.str "next" 417, .str "keep" 418]
def v231 (P : Params) : Obj := nsO [e1 P "note" 426 (.int 0 427), e1 P "asked" 428 (.int 1 429), e1 P "called" 430 (.int 1 431), e1 P "up" 432 (.int 2 433), e1 P "near" 434 (.int 2 435), e1 P "far" 436 (.int 2 437)] 6
def v243 (P : Params) : Obj := tup []
def v244 (P : Params) : Obj := ⟨.none, none, .fields #[], #[]⟩
def v245 (P : Params) : Obj := tfO "is_times" "is_times" (top 44)
def v246 (P : Params) : Obj := coO [.str "is_times" 453, .str "is_times" 454, .str "/claim/cut.py" 455, .int 93 0, .int 1 0, .int 0 0, .int 0 0, .int 3 0, .ref 175, .bool true, .int 181 0, .ref 176, .none, .none, .none, .ref 177, .int 456 0, .int 93 0, .str "/claim/cut.py" 457]
def v247 (P : Params) : Obj := fnO "is_times" "is_times" (top 44) (.str "lentgate.forms" 407) (.ref 178)
def v278 (P : Params) : Obj := tup [.type "ValueError"]
def v279 (P : Params) : Obj := ⟨.type "builtin_function_or_method", none, .fields #[.builtin "type.__prepare__", .type "type"], #[]⟩
def v280 (P : Params) : Obj := nsO [e1 P "__module__" 506 (.str "lentgate.errors" 497), e1 P "__qualname__" 508 (.str "GateError" 507), e1 P "__firstlineno__" 510 (.int 119 509), e1 P "__static_attributes__" 511 (.ref 208)] 4
def v281 (P : Params) : Obj := tup []
def v282 (P : Params) : Obj := ⟨.none, none, .fields #[], #[]⟩
def v283 (P : Params) : Obj := coO [.str "GateError" 501, .str "GateError" 502, .str "/claim/cut.py" 503, .int 119 0, .int 0 0, .int 0 0, .int 0 0, .int 0 0, .ref 204, .bool false, .int 181 0, .ref 205, .none, .none, .none, .none, .int 504 0, .int 119 0, .str "/claim/cut.py" 505]
def v284 (P : Params) : Obj := ⟨.type "frame", none, .plain, #[some (.ref 206), some (.ref 3), some (.ref 203), none, some (.str "lentgate.errors" 497), none, some (.ref 0)]⟩
def v285 (P : Params) : Obj := tup []
def v286 (P : Params) : Obj := nsO [e1 P "__module__" 506 (.str "lentgate.errors" 497), e1 P "__firstlineno__" 510 (.int 119 509), e1 P "__static_attributes__" 511 (.ref 208), e1 P "__weakref__" 513 (.ref 211), e1 P "__doc__" 514 (.none)] 3
def v287 (P : Params) : Obj := ⟨.type "type", none, .cls { name := "GateError", bases := [.type "ValueError"], mro := [.ref 210, .type "ValueError", .type "Exception", .type "BaseException", .type "object"], ns := 209, qualname := "GateError", hasDict := true, slotNames := [], subclasses := [], abstract := false, collection := none, hasDel := false }, #[some (.ref 201), none, some (.str "GateError" 499), some (.str "GateError" 507), some (.builtin "ValueError.__new__"), some (.bool true)]⟩
def v288 (P : Params) : Obj := ⟨.type "getset_descriptor", none, .fields #[.str "__weakref__" 512, .ref 210, .builtin "ExceptionGroup.__weakref__", .none], #[]⟩
def v289 (P : Params) : Obj := ⟨.type "super", none, .fields #[.ref 210, .ref 210, .ref 210], #[]⟩
def v290 (P : Params) : Obj := ⟨.type "builtin_function_or_method", none, .fields #[.builtin "object.__init_subclass__", .ref 210], #[]⟩
def v293 (P : Params) : Obj := ⟨.type "type", none, .cls { name := "GateError", bases := [.type "ValueError"], mro := [.ref 210, .type "ValueError", .type "Exception", .type "BaseException", .type "object"], ns := 209, qualname := "GateError", hasDict := true, slotNames := [], subclasses := [.ref 223], abstract := false, collection := none, hasDel := false }, #[some (.ref 201), none, some (.str "GateError" 499), some (.str "GateError" 507), some (.builtin "ValueError.__new__"), some (.bool true)]⟩
def v294 (P : Params) : Obj := tup [.ref 210]
def v295 (P : Params) : Obj := ⟨.type "builtin_function_or_method", none, .fields #[.builtin "type.__prepare__", .type "type"], #[]⟩
def v296 (P : Params) : Obj := nsO [e1 P "__module__" 524 (.str "lentgate.errors" 497), e1 P "__qualname__" 526 (.str "NoForm" 525), e1 P "__firstlineno__" 528 (.int 121 527), e1 P "__static_attributes__" 529 (.ref 221)] 4
def v297 (P : Params) : Obj := tup []
def v298 (P : Params) : Obj := ⟨.none, none, .fields #[], #[]⟩
def v299 (P : Params) : Obj := coO [.str "NoForm" 519, .str "NoForm" 520, .str "/claim/cut.py" 521, .int 121 0, .int 0 0, .int 0 0, .int 0 0, .int 0 0, .ref 217, .bool false, .int 181 0, .ref 218, .none, .none, .none, .none, .int 522 0, .int 121 0, .str "/claim/cut.py" 523]
def v300 (P : Params) : Obj := ⟨.type "frame", none, .plain, #[some (.ref 219), some (.ref 3), some (.ref 216), none, some (.str "lentgate.errors" 497), none, some (.ref 0)]⟩
def v301 (P : Params) : Obj := tup []
def v302 (P : Params) : Obj := nsO [e1 P "__module__" 524 (.str "lentgate.errors" 497), e1 P "__firstlineno__" 528 (.int 121 527), e1 P "__static_attributes__" 529 (.ref 221), e1 P "__doc__" 530 (.none)] 2
def v303 (P : Params) : Obj := ⟨.type "type", none, .cls { name := "NoForm", bases := [.ref 210], mro := [.ref 223, .ref 210, .type "ValueError", .type "Exception", .type "BaseException", .type "object"], ns := 222, qualname := "NoForm", hasDict := true, slotNames := [], subclasses := [], abstract := false, collection := none, hasDel := false }, #[some (.ref 214), none, some (.str "NoForm" 517), some (.str "NoForm" 525), some (.builtin "ValueError.__new__"), some (.bool true)]⟩
def v304 (P : Params) : Obj := ⟨.type "super", none, .fields #[.ref 223, .ref 223, .ref 223], #[]⟩
def v305 (P : Params) : Obj := ⟨.type "builtin_function_or_method", none, .fields #[.builtin "object.__init_subclass__", .ref 223], #[]⟩
def v308 (P : Params) : Obj := ⟨.type "type", none, .cls { name := "GateError", bases := [.type "ValueError"], mro := [.ref 210, .type "ValueError", .type "Exception", .type "BaseException", .type "object"], ns := 209, qualname := "GateError", hasDict := true, slotNames := [], subclasses := [.ref 223, .ref 235], abstract := false, collection := none, hasDel := false }, #[some (.ref 201), none, some (.str "GateError" 499), some (.str "GateError" 507), some (.builtin "ValueError.__new__"), some (.bool true)]⟩
def v309 (P : Params) : Obj := tup [.ref 210]
def v310 (P : Params) : Obj := ⟨.type "builtin_function_or_method", none, .fields #[.builtin "type.__prepare__", .type "type"], #[]⟩
def v311 (P : Params) : Obj := nsO [e1 P "__module__" 540 (.str "lentgate.errors" 497), e1 P "__qualname__" 542 (.str "NoDeed" 541), e1 P "__firstlineno__" 544 (.int 123 543), e1 P "__static_attributes__" 545 (.ref 233)] 4
def v312 (P : Params) : Obj := tup []
def v313 (P : Params) : Obj := ⟨.none, none, .fields #[], #[]⟩
def v314 (P : Params) : Obj := coO [.str "NoDeed" 535, .str "NoDeed" 536, .str "/claim/cut.py" 537, .int 123 0, .int 0 0, .int 0 0, .int 0 0, .int 0 0, .ref 229, .bool false, .int 181 0, .ref 230, .none, .none, .none, .none, .int 538 0, .int 123 0, .str "/claim/cut.py" 539]
def v315 (P : Params) : Obj := ⟨.type "frame", none, .plain, #[some (.ref 231), some (.ref 3), some (.ref 228), none, some (.str "lentgate.errors" 497), none, some (.ref 0)]⟩
def v316 (P : Params) : Obj := tup []
def v317 (P : Params) : Obj := nsO [e1 P "__module__" 540 (.str "lentgate.errors" 497), e1 P "__firstlineno__" 544 (.int 123 543), e1 P "__static_attributes__" 545 (.ref 233), e1 P "__doc__" 546 (.none)] 2
def v318 (P : Params) : Obj := ⟨.type "type", none, .cls { name := "NoDeed", bases := [.ref 210], mro := [.ref 235, .ref 210, .type "ValueError", .type "Exception", .type "BaseException", .type "object"], ns := 234, qualname := "NoDeed", hasDict := true, slotNames := [], subclasses := [], abstract := false, collection := none, hasDel := false }, #[some (.ref 226), none, some (.str "NoDeed" 533), some (.str "NoDeed" 541), some (.builtin "ValueError.__new__"), some (.bool true)]⟩
def v319 (P : Params) : Obj := ⟨.type "super", none, .fields #[.ref 235, .ref 235, .ref 235], #[]⟩
def v320 (P : Params) : Obj := ⟨.type "builtin_function_or_method", none, .fields #[.builtin "object.__init_subclass__", .ref 235], #[]⟩
def v323 (P : Params) : Obj := ⟨.type "type", none, .cls { name := "GateError", bases := [.type "ValueError"], mro := [.ref 210, .type "ValueError", .type "Exception", .type "BaseException", .type "object"], ns := 209, qualname := "GateError", hasDict := true, slotNames := [], subclasses := [.ref 223, .ref 235, .ref 247], abstract := false, collection := none, hasDel := false }, #[some (.ref 201), none, some (.str "GateError" 499), some (.str "GateError" 507), some (.builtin "ValueError.__new__"), some (.bool true)]⟩
def v324 (P : Params) : Obj := tup [.ref 210]
def v325 (P : Params) : Obj := ⟨.type "builtin_function_or_method", none, .fields #[.builtin "type.__prepare__", .type "type"], #[]⟩
def v326 (P : Params) : Obj := nsO [e1 P "__module__" 556 (.str "lentgate.errors" 497), e1 P "__qualname__" 558 (.str "NoRule" 557), e1 P "__firstlineno__" 560 (.int 125 559), e1 P "__static_attributes__" 561 (.ref 245)] 4
def v327 (P : Params) : Obj := tup []
def v328 (P : Params) : Obj := ⟨.none, none, .fields #[], #[]⟩
def v329 (P : Params) : Obj := coO [.str "NoRule" 551, .str "NoRule" 552, .str "/claim/cut.py" 553, .int 125 0, .int 0 0, .int 0 0, .int 0 0, .int 0 0, .ref 241, .bool false, .int 181 0, .ref 242, .none, .none, .none, .none, .int 554 0, .int 125 0, .str "/claim/cut.py" 555]
def v330 (P : Params) : Obj := ⟨.type "frame", none, .plain, #[some (.ref 243), some (.ref 3), some (.ref 240), none, some (.str "lentgate.errors" 497), none, some (.ref 0)]⟩
def v331 (P : Params) : Obj := tup []
def v332 (P : Params) : Obj := nsO [e1 P "__module__" 556 (.str "lentgate.errors" 497), e1 P "__firstlineno__" 560 (.int 125 559), e1 P "__static_attributes__" 561 (.ref 245), e1 P "__doc__" 562 (.none)] 2
def v333 (P : Params) : Obj := ⟨.type "type", none, .cls { name := "NoRule", bases := [.ref 210], mro := [.ref 247, .ref 210, .type "ValueError", .type "Exception", .type "BaseException", .type "object"], ns := 246, qualname := "NoRule", hasDict := true, slotNames := [], subclasses := [], abstract := false, collection := none, hasDel := false }, #[some (.ref 238), none, some (.str "NoRule" 549), some (.str "NoRule" 557), some (.builtin "ValueError.__new__"), some (.bool true)]⟩
def v334 (P : Params) : Obj := ⟨.type "super", none, .fields #[.ref 247, .ref 247, .ref 247], #[]⟩
def v335 (P : Params) : Obj := ⟨.type "builtin_function_or_method", none, .fields #[.builtin "object.__init_subclass__", .ref 247], #[]⟩
def v338 (P : Params) : Obj := ⟨.type "type", none, .cls { name := "GateError", bases := [.type "ValueError"], mro := [.ref 210, .type "ValueError", .type "Exception", .type "BaseException", .type "object"], ns := 209, qualname := "GateError", hasDict := true, slotNames := [], subclasses := [.ref 223, .ref 235, .ref 247, .ref 259], abstract := false, collection := none, hasDel := false }, #[some (.ref 201), none, some (.str "GateError" 499), some (.str "GateError" 507), some (.builtin "ValueError.__new__"), some (.bool true)]⟩
def v339 (P : Params) : Obj := tup [.ref 210]
def v340 (P : Params) : Obj := ⟨.type "builtin_function_or_method", none, .fields #[.builtin "type.__prepare__", .type "type"], #[]⟩
def v341 (P : Params) : Obj := nsO [e1 P "__module__" 572 (.str "lentgate.errors" 497), e1 P "__qualname__" 574 (.str "NoPlan" 573), e1 P "__firstlineno__" 576 (.int 127 575), e1 P "__static_attributes__" 577 (.ref 257)] 4
def v342 (P : Params) : Obj := tup []
def v343 (P : Params) : Obj := ⟨.none, none, .fields #[], #[]⟩
def v344 (P : Params) : Obj := coO [.str "NoPlan" 567, .str "NoPlan" 568, .str "/claim/cut.py" 569, .int 127 0, .int 0 0, .int 0 0, .int 0 0, .int 0 0, .ref 253, .bool false, .int 181 0, .ref 254, .none, .none, .none, .none, .int 570 0, .int 127 0, .str "/claim/cut.py" 571]
def v345 (P : Params) : Obj := ⟨.type "frame", none, .plain, #[some (.ref 255), some (.ref 3), some (.ref 252), none, some (.str "lentgate.errors" 497), none, some (.ref 0)]⟩
def v346 (P : Params) : Obj := tup []
def v347 (P : Params) : Obj := nsO [e1 P "__module__" 572 (.str "lentgate.errors" 497), e1 P "__firstlineno__" 576 (.int 127 575), e1 P "__static_attributes__" 577 (.ref 257), e1 P "__doc__" 578 (.none)] 2
def v348 (P : Params) : Obj := ⟨.type "type", none, .cls { name := "NoPlan", bases := [.ref 210], mro := [.ref 259, .ref 210, .type "ValueError", .type "Exception", .type "BaseException", .type "object"], ns := 258, qualname := "NoPlan", hasDict := true, slotNames := [], subclasses := [], abstract := false, collection := none, hasDel := false }, #[some (.ref 250), none, some (.str "NoPlan" 565), some (.str "NoPlan" 573), some (.builtin "ValueError.__new__"), some (.bool true)]⟩
def v349 (P : Params) : Obj := ⟨.type "super", none, .fields #[.ref 259, .ref 259, .ref 259], #[]⟩
def v350 (P : Params) : Obj := ⟨.type "builtin_function_or_method", none, .fields #[.builtin "object.__init_subclass__", .ref 259], #[]⟩
def v353 (P : Params) : Obj := ⟨.type "type", none, .cls { name := "GateError", bases := [.type "ValueError"], mro := [.ref 210, .type "ValueError", .type "Exception", .type "BaseException", .type "object"], ns := 209, qualname := "GateError", hasDict := true, slotNames := [], subclasses := [.ref 223, .ref 235, .ref 247, .ref 259, .ref 271], abstract := false, collection := none, hasDel := false }, #[some (.ref 201), none, some (.str "GateError" 499), some (.str "GateError" 507), some (.builtin "ValueError.__new__"), some (.bool true)]⟩
def v354 (P : Params) : Obj := tup [.ref 210]
def v355 (P : Params) : Obj := ⟨.type "builtin_function_or_method", none, .fields #[.builtin "type.__prepare__", .type "type"], #[]⟩
def v356 (P : Params) : Obj := nsO [e1 P "__module__" 588 (.str "lentgate.errors" 497), e1 P "__qualname__" 590 (.str "NoRow" 589), e1 P "__firstlineno__" 592 (.int 129 591), e1 P "__static_attributes__" 593 (.ref 269)] 4
def v357 (P : Params) : Obj := tup []
def v358 (P : Params) : Obj := ⟨.none, none, .fields #[], #[]⟩
def v359 (P : Params) : Obj := coO [.str "NoRow" 583, .str "NoRow" 584, .str "/claim/cut.py" 585, .int 129 0, .int 0 0, .int 0 0, .int 0 0, .int 0 0, .ref 265, .bool false, .int 181 0, .ref 266, .none, .none, .none, .none, .int 586 0, .int 129 0, .str "/claim/cut.py" 587]
def v360 (P : Params) : Obj := ⟨.type "frame", none, .plain, #[some (.ref 267), some (.ref 3), some (.ref 264), none, some (.str "lentgate.errors" 497), none, some (.ref 0)]⟩
def v361 (P : Params) : Obj := tup []
def v362 (P : Params) : Obj := nsO [e1 P "__module__" 588 (.str "lentgate.errors" 497), e1 P "__firstlineno__" 592 (.int 129 591), e1 P "__static_attributes__" 593 (.ref 269), e1 P "__doc__" 594 (.none)] 2
def v363 (P : Params) : Obj := ⟨.type "type", none, .cls { name := "NoRow", bases := [.ref 210], mro := [.ref 271, .ref 210, .type "ValueError", .type "Exception", .type "BaseException", .type "object"], ns := 270, qualname := "NoRow", hasDict := true, slotNames := [], subclasses := [], abstract := false, collection := none, hasDel := false }, #[some (.ref 262), none, some (.str "NoRow" 581), some (.str "NoRow" 589), some (.builtin "ValueError.__new__"), some (.bool true)]⟩
def v364 (P : Params) : Obj := ⟨.type "super", none, .fields #[.ref 271, .ref 271, .ref 271], #[]⟩
def v365 (P : Params) : Obj := ⟨.type "builtin_function_or_method", none, .fields #[.builtin "object.__init_subclass__", .ref 271], #[]⟩
def v369 (P : Params) : Obj := tup [.str "house" 599, .none, .str "open" 600]
def v370 (P : Params) : Obj := tup [.str "house" 602, .str "asked" 603, .str "open" 604]
def v371 (P : Params) : Obj := tup [.str "house" 606, .str "called" 607, .str "open" 608]
def v372 (P : Params) : Obj := tup [.str "house" 610, .str "up" 611, .str "say" 612]
def v373 (P : Params) : Obj := tup [.str "house" 614, .str "far" 615, .str "say" 616]
def v374 (P : Params) : Obj := tup [.str "house" 618, .str "up" 619, .str "close" 620]
def v375 (P : Params) : Obj := tup [.str "house" 622, .str "far" 623, .str "close" 624]
def v376 (P : Params) : Obj := tup [.str "far" 626, .none, .str "open" 627]
def v377 (P : Params) : Obj := tup [.str "far" 629, .str "called" 630, .str "open" 631]
def v378 (P : Params) : Obj := tup [.str "far" 633, .str "asked" 634, .str "open" 635]
def v379 (P : Params) : Obj := tup [.str "far" 637, .str "up" 638, .str "say" 639]
def v380 (P : Params) : Obj := tup [.str "far" 641, .str "near" 642, .str "say" 643]
def v381 (P : Params) : Obj := tup [.str "far" 645, .str "up" 646, .str "close" 647]
def v382 (P : Params) : Obj := tup [.str "far" 649, .str "near" 650, .str "close" 651]
def v384 (P : Params) : Obj := tup [.str "asked" 710, .str "called" 711, .str "up" 712, .str "near" 713, .str "far" 714]
def v415 (P : Params) : Obj := tup []
def v416 (P : Params) : Obj := ⟨.type "builtin_function_or_method", none, .fields #[.builtin "type.__prepare__", .type "type"], #[]⟩
def v417 (P : Params) : Obj := nsO [e1 P "__module__" 752 (.str "lentgate.rules" 743), e1 P "__qualname__" 754 (.str "Rules" 753), e1 P "__firstlineno__" 756 (.int 147 755), e1 P "__init__" 763 (.ref 324), e1 P "tell" 776 (.ref 331), e1 P "stands" 784 (.ref 338), e1 P "drop" 792 (.ref 345), e1 P "door_for" 808 (.ref 352), e1 P "listed" 814 (.ref 357), e1 P "__static_attributes__" 817 (.ref 358)] 10
def v418 (P : Params) : Obj := tup []
def v419 (P : Params) : Obj := ⟨.none, none, .fields #[.int 149 0, .int 4 0, .ref 323, .int 153 0, .int 4 0, .ref 330, .int 159 0, .int 4 0, .ref 337, .int 162 0, .int 4 0, .ref 344, .int 165 0, .int 4 0, .ref 351, .int 172 0, .int 4 0, .ref 356], #[]⟩
def v420 (P : Params) : Obj := coO [.str "Rules" 747, .str "Rules" 748, .str "/claim/cut.py" 749, .int 147 0, .int 0 0, .int 0 0, .int 0 0, .int 0 0, .ref 314, .bool false, .int 181 0, .ref 315, .none, .none, .none, .none, .int 750 0, .int 147 0, .str "/claim/cut.py" 751]
def v421 (P : Params) : Obj := ⟨.type "frame", none, .plain, #[some (.ref 316), some (.ref 3), some (.ref 313), none, some (.str "lentgate.rules" 743), none, some (.ref 0)]⟩
def v457 (P : Params) : Obj := tup []
def v458 (P : Params) : Obj := ⟨.none, none, .fields #[], #[]⟩
def v459 (P : Params) : Obj := tfO "listed" "Rules.listed" (sub (top 62) 5)
def v460 (P : Params) : Obj := coO [.str "listed" 809, .str "Rules.listed" 810, .str "/claim/cut.py" 811, .int 172 0, .int 1 0, .int 0 0, .int 0 0, .int 3 0, .ref 353, .bool true, .int 181 0, .ref 354, .none, .none, .none, .ref 355, .int 812 0, .int 172 0, .str "/claim/cut.py" 813]
def v461 (P : Params) : Obj := fnO "listed" "Rules.listed" (sub (top 62) 5) (.str "lentgate.rules" 743) (.ref 356)
def v462 (P : Params) : Obj := tup [.str "many_told" 815, .str "standing" 816]
def v463 (P : Params) : Obj := nsO [e1 P "__module__" 752 (.str "lentgate.rules" 743), e1 P "__firstlineno__" 756 (.int 147 755), e1 P "__init__" 763 (.ref 324), e1 P "tell" 776 (.ref 331), e1 P "stands" 784 (.ref 338), e1 P "drop" 792 (.ref 345), e1 P "door_for" 808 (.ref 352), e1 P "listed" 814 (.ref 357), e1 P "__static_attributes__" 817 (.ref 358), e1 P "__dict__" 819 (.ref 361), e1 P "__weakref__" 821 (.ref 362), e1 P "__doc__" 822 (.none)] 4
def v464 (P : Params) : Obj := ⟨.type "type", none, .cls { name := "Rules", bases := [.type "object"], mro := [.ref 360, .type "object"], ns := 359, qualname := "Rules", hasDict := true, slotNames := [], subclasses := [], abstract := false, collection := none, hasDel := false }, #[none, none, some (.str "Rules" 745), some (.str "Rules" 753), some (.builtin "object.__new__"), some (.bool true)]⟩
def v465 (P : Params) : Obj := ⟨.type "getset_descriptor", none, .fields #[.str "__dict__" 818, .ref 360, .builtin "function.__dict__", .builtin "function.__dict__#set"], #[]⟩
def v466 (P : Params) : Obj := ⟨.type "getset_descriptor", none, .fields #[.str "__weakref__" 820, .ref 360, .builtin "ExceptionGroup.__weakref__", .none], #[]⟩
def v467 (P : Params) : Obj := ⟨.type "super", none, .fields #[.ref 360, .ref 360, .ref 360], #[]⟩
def v468 (P : Params) : Obj := ⟨.type "builtin_function_or_method", none, .fields #[.builtin "object.__init_subclass__", .ref 360], #[]⟩
def v472 (P : Params) : Obj := tup []
def v473 (P : Params) : Obj := ⟨.type "builtin_function_or_method", none, .fields #[.builtin "type.__prepare__", .type "type"], #[]⟩
def v474 (P : Params) : Obj := nsO [e1 P "__module__" 834 (.str "lentgate.pool" 825), e1 P "__qualname__" 836 (.str "Pool" 835), e1 P "__firstlineno__" 838 (.int 175 837), e1 P "__init__" 847 (.ref 378), e1 P "has" 855 (.ref 385), e1 P "is_free" 864 (.ref 392), e1 P "from_mark" 871 (.ref 399), e1 P "picked" 882 (.ref 406), e1 P "take" 890 (.ref 413), e1 P "give" 899 (.ref 420), e1 P "resting" 905 (.ref 425), e1 P "many_free" 911 (.ref 430), e1 P "__static_attributes__" 917 (.ref 431)] 13
def v475 (P : Params) : Obj := tup []
def v476 (P : Params) : Obj := ⟨.none, none, .fields #[.int 177 0, .int 4 0, .ref 377, .int 184 0, .int 4 0, .ref 384, .int 187 0, .int 4 0, .ref 391, .int 192 0, .int 4 0, .ref 398, .int 195 0, .int 4 0, .ref 405, .int 203 0, .int 4 0, .ref 412, .int 209 0, .int 4 0, .ref 419, .int 213 0, .int 4 0, .ref 424, .int 216 0, .int 4 0, .ref 429], #[]⟩
def v477 (P : Params) : Obj := coO [.str "Pool" 829, .str "Pool" 830, .str "/claim/cut.py" 831, .int 175 0, .int 0 0, .int 0 0, .int 0 0, .int 0 0, .ref 368, .bool false, .int 181 0, .ref 369, .none, .none, .none, .none, .int 832 0, .int 175 0, .str "/claim/cut.py" 833]
def v478 (P : Params) : Obj := ⟨.type "frame", none, .plain, #[some (.ref 370), some (.ref 3), some (.ref 367), none, some (.str "lentgate.pool" 825), none, some (.ref 0)]⟩
def v528 (P : Params) : Obj := tup []
def v529 (P : Params) : Obj := ⟨.none, none, .fields #[], #[]⟩
def v530 (P : Params) : Obj := tfO "resting" "Pool.resting" (sub (top 64) 7)
def v531 (P : Params) : Obj := coO [.str "resting" 900, .str "Pool.resting" 901, .str "/claim/cut.py" 902, .int 213 0, .int 2 0, .int 0 0, .int 0 0, .int 3 0, .ref 421, .bool true, .int 181 0, .ref 422, .none, .none, .none, .ref 423, .int 903 0, .int 213 0, .str "/claim/cut.py" 904]
def v532 (P : Params) : Obj := fnO "resting" "Pool.resting" (sub (top 64) 7) (.str "lentgate.pool" 825) (.ref 424)
def v533 (P : Params) : Obj := tup []
def v534 (P : Params) : Obj := ⟨.none, none, .fields #[], #[]⟩
def v535 (P : Params) : Obj := tfO "many_free" "Pool.many_free" (sub (top 64) 8)
def v536 (P : Params) : Obj := coO [.str "many_free" 906, .str "Pool.many_free" 907, .str "/claim/cut.py" 908, .int 216 0, .int 2 0, .int 0 0, .int 0 0, .int 3 0, .ref 426, .bool true, .int 181 0, .ref 427, .none, .none, .none, .ref 428, .int 909 0, .int 216 0, .str "/claim/cut.py" 910]
def v537 (P : Params) : Obj := fnO "many_free" "Pool.many_free" (sub (top 64) 8) (.str "lentgate.pool" 825) (.ref 429)
def v538 (P : Params) : Obj := tup [.str "high" 912, .str "low" 913, .str "mark" 914, .str "taken" 915, .str "until" 916]
def v539 (P : Params) : Obj := nsO [e1 P "__module__" 834 (.str "lentgate.pool" 825), e1 P "__firstlineno__" 838 (.int 175 837), e1 P "__init__" 847 (.ref 378), e1 P "has" 855 (.ref 385), e1 P "is_free" 864 (.ref 392), e1 P "from_mark" 871 (.ref 399), e1 P "picked" 882 (.ref 406), e1 P "take" 890 (.ref 413), e1 P "give" 899 (.ref 420), e1 P "resting" 905 (.ref 425), e1 P "many_free" 911 (.ref 430), e1 P "__static_attributes__" 917 (.ref 431), e1 P "__dict__" 919 (.ref 434), e1 P "__weakref__" 921 (.ref 435), e1 P "__doc__" 922 (.none)] 4
def v540 (P : Params) : Obj := ⟨.type "type", none, .cls { name := "Pool", bases := [.type "object"], mro := [.ref 433, .type "object"], ns := 432, qualname := "Pool", hasDict := true, slotNames := [], subclasses := [], abstract := false, collection := none, hasDel := false }, #[none, none, some (.str "Pool" 827), some (.str "Pool" 835), some (.builtin "object.__new__"), some (.bool true)]⟩
def v541 (P : Params) : Obj := ⟨.type "getset_descriptor", none, .fields #[.str "__dict__" 918, .ref 433, .builtin "function.__dict__", .builtin "function.__dict__#set"], #[]⟩
def v542 (P : Params) : Obj := ⟨.type "getset_descriptor", none, .fields #[.str "__weakref__" 920, .ref 433, .builtin "ExceptionGroup.__weakref__", .none], #[]⟩
def v543 (P : Params) : Obj := ⟨.type "super", none, .fields #[.ref 433, .ref 433, .ref 433], #[]⟩
def v544 (P : Params) : Obj := ⟨.type "builtin_function_or_method", none, .fields #[.builtin "object.__init_subclass__", .ref 433], #[]⟩
def v548 (P : Params) : Obj := tup []
def v549 (P : Params) : Obj := ⟨.type "builtin_function_or_method", none, .fields #[.builtin "type.__prepare__", .type "type"], #[]⟩
def v550 (P : Params) : Obj := nsO [e1 P "__module__" 934 (.str "lentgate.talks" 925), e1 P "__qualname__" 936 (.str "Talk" 935), e1 P "__firstlineno__" 938 (.int 219 937), e1 P "__init__" 949 (.ref 451), e1 P "__static_attributes__" 954 (.ref 452)] 5
def v551 (P : Params) : Obj := tup []
def v552 (P : Params) : Obj := ⟨.none, none, .fields #[.int 221 0, .int 4 0, .ref 450], #[]⟩
def v553 (P : Params) : Obj := coO [.str "Talk" 929, .str "Talk" 930, .str "/claim/cut.py" 931, .int 219 0, .int 0 0, .int 0 0, .int 0 0, .int 0 0, .ref 441, .bool false, .int 181 0, .ref 442, .none, .none, .none, .none, .int 932 0, .int 219 0, .str "/claim/cut.py" 933]
def v554 (P : Params) : Obj := ⟨.type "frame", none, .plain, #[some (.ref 443), some (.ref 3), some (.ref 440), none, some (.str "lentgate.talks" 925), none, some (.ref 0)]⟩
def v562 (P : Params) : Obj := tup [.str "inner" 950, .str "number" 951, .str "over" 952, .str "state" 953]
def v563 (P : Params) : Obj := nsO [e1 P "__module__" 934 (.str "lentgate.talks" 925), e1 P "__firstlineno__" 938 (.int 219 937), e1 P "__init__" 949 (.ref 451), e1 P "__static_attributes__" 954 (.ref 452), e1 P "__dict__" 956 (.ref 455), e1 P "__weakref__" 958 (.ref 456), e1 P "__doc__" 959 (.none)] 4
def v564 (P : Params) : Obj := ⟨.type "type", none, .cls { name := "Talk", bases := [.type "object"], mro := [.ref 454, .type "object"], ns := 453, qualname := "Talk", hasDict := true, slotNames := [], subclasses := [], abstract := false, collection := none, hasDel := false }, #[none, none, some (.str "Talk" 927), some (.str "Talk" 935), some (.builtin "object.__new__"), some (.bool true)]⟩
def v565 (P : Params) : Obj := ⟨.type "getset_descriptor", none, .fields #[.str "__dict__" 955, .ref 454, .builtin "function.__dict__", .builtin "function.__dict__#set"], #[]⟩
def v566 (P : Params) : Obj := ⟨.type "getset_descriptor", none, .fields #[.str "__weakref__" 957, .ref 454, .builtin "ExceptionGroup.__weakref__", .none], #[]⟩
def v567 (P : Params) : Obj := ⟨.type "super", none, .fields #[.ref 454, .ref 454, .ref 454], #[]⟩
def v568 (P : Params) : Obj := ⟨.type "builtin_function_or_method", none, .fields #[.builtin "object.__init_subclass__", .ref 454], #[]⟩
def v571 (P : Params) : Obj := tup []
def v572 (P : Params) : Obj := ⟨.type "builtin_function_or_method", none, .fields #[.builtin "type.__prepare__", .type "type"], #[]⟩
def v573 (P : Params) : Obj := nsO [e1 P "__module__" 969 (.str "lentgate.talks" 925), e1 P "__qualname__" 971 (.str "Talks" 970), e1 P "__firstlineno__" 973 (.int 226 972), e1 P "__init__" 981 (.ref 472), e1 P "of_inner" 989 (.ref 479), e1 P "of_outer" 1000 (.ref 486), e1 P "is_with" 1006 (.ref 491), e1 P "living" 1013 (.ref 498), e1 P "is_living" 1021 (.ref 505), e1 P "number_of" 1029 (.ref 512), e1 P "holder_at" 1037 (.ref 519), e1 P "held" 1043 (.ref 524), e1 P "lent_until" 1051 (.ref 531), e1 P "lend" 1061 (.ref 538), e1 P "end_lend" 1070 (.ref 545), e1 P "begin" 1086 (.ref 552), e1 P "lead" 1095 (.ref 559), e1 P "end" 1110 (.ref 566), e1 P "pass_by" 1116 (.ref 571), e1 P "__static_attributes__" 1124 (.ref 572)] 20
def v574 (P : Params) : Obj := tup []
def v575 (P : Params) : Obj := ⟨.none, none, .fields #[.int 228 0, .int 4 0, .ref 471, .int 237 0, .int 4 0, .ref 478, .int 240 0, .int 4 0, .ref 485, .int 245 0, .int 4 0, .ref 490, .int 248 0, .int 4 0, .ref 497, .int 251 0, .int 4 0, .ref 504, .int 254 0, .int 4 0, .ref 511, .int 257 0, .int 4 0, .ref 518, .int 260 0, .int 4 0, .ref 523, .int 263 0, .int 4 0, .ref 530, .int 266 0, .int 4 0, .ref 537, .int 272 0, .int 4 0, .ref 544, .int 277 0, .int 4 0, .ref 551, .int 285 0, .int 4 0, .ref 558, .int 292 0, .int 4 0, .ref 565, .int 303 0, .int 4 0, .ref 570], #[]⟩
def v576 (P : Params) : Obj := coO [.str "Talks" 964, .str "Talks" 965, .str "/claim/cut.py" 966, .int 226 0, .int 0 0, .int 0 0, .int 0 0, .int 0 0, .ref 462, .bool false, .int 181 0, .ref 463, .none, .none, .none, .none, .int 967 0, .int 226 0, .str "/claim/cut.py" 968]
def v577 (P : Params) : Obj := ⟨.type "frame", none, .plain, #[some (.ref 464), some (.ref 3), some (.ref 461), none, some (.str "lentgate.talks" 925), none, some (.ref 0)]⟩
def v599 (P : Params) : Obj := tup []
def v600 (P : Params) : Obj := ⟨.none, none, .fields #[], #[]⟩
def v601 (P : Params) : Obj := tfO "is_with" "Talks.is_with" (sub (top 67) 3)
def v602 (P : Params) : Obj := coO [.str "is_with" 1001, .str "Talks.is_with" 1002, .str "/claim/cut.py" 1003, .int 245 0, .int 3 0, .int 0 0, .int 0 0, .int 3 0, .ref 487, .bool true, .int 181 0, .ref 488, .none, .none, .none, .ref 489, .int 1004 0, .int 245 0, .str "/claim/cut.py" 1005]
def v603 (P : Params) : Obj := fnO "is_with" "Talks.is_with" (sub (top 67) 3) (.str "lentgate.talks" 925) (.ref 490)
def v632 (P : Params) : Obj := tup []
def v633 (P : Params) : Obj := ⟨.none, none, .fields #[], #[]⟩
def v634 (P : Params) : Obj := tfO "held" "Talks.held" (sub (top 67) 8)
def v635 (P : Params) : Obj := coO [.str "held" 1038, .str "Talks.held" 1039, .str "/claim/cut.py" 1040, .int 260 0, .int 2 0, .int 0 0, .int 0 0, .int 3 0, .ref 520, .bool true, .int 181 0, .ref 521, .none, .none, .none, .ref 522, .int 1041 0, .int 260 0, .str "/claim/cut.py" 1042]
def v636 (P : Params) : Obj := fnO "held" "Talks.held" (sub (top 67) 8) (.str "lentgate.talks" 925) (.ref 523)
def v679 (P : Params) : Obj := tup []
def v680 (P : Params) : Obj := ⟨.none, none, .fields #[], #[]⟩
def v681 (P : Params) : Obj := tfO "pass_by" "Talks.pass_by" (sub (top 67) 15)
def v682 (P : Params) : Obj := coO [.str "pass_by" 1111, .str "Talks.pass_by" 1112, .str "/claim/cut.py" 1113, .int 303 0, .int 2 0, .int 0 0, .int 0 0, .int 3 0, .ref 567, .bool true, .int 181 0, .ref 568, .none, .none, .none, .ref 569, .int 1114 0, .int 303 0, .str "/claim/cut.py" 1115]
def v683 (P : Params) : Obj := fnO "pass_by" "Talks.pass_by" (sub (top 67) 15) (.str "lentgate.talks" 925) (.ref 570)
def v684 (P : Params) : Obj := tup [.str "by_inner" 1117, .str "by_number" 1118, .str "form" 1119, .str "holders" 1120, .str "now" 1121, .str "numbers" 1122, .str "pool" 1123]
def v685 (P : Params) : Obj := nsO [e1 P "__module__" 969 (.str "lentgate.talks" 925), e1 P "__firstlineno__" 973 (.int 226 972), e1 P "__init__" 981 (.ref 472), e1 P "of_inner" 989 (.ref 479), e1 P "of_outer" 1000 (.ref 486), e1 P "is_with" 1006 (.ref 491), e1 P "living" 1013 (.ref 498), e1 P "is_living" 1021 (.ref 505), e1 P "number_of" 1029 (.ref 512), e1 P "holder_at" 1037 (.ref 519), e1 P "held" 1043 (.ref 524), e1 P "lent_until" 1051 (.ref 531), e1 P "lend" 1061 (.ref 538), e1 P "end_lend" 1070 (.ref 545), e1 P "begin" 1086 (.ref 552), e1 P "lead" 1095 (.ref 559), e1 P "end" 1110 (.ref 566), e1 P "pass_by" 1116 (.ref 571), e1 P "__static_attributes__" 1124 (.ref 572), e1 P "__dict__" 1126 (.ref 575), e1 P "__weakref__" 1128 (.ref 576), e1 P "__doc__" 1129 (.none)] 4
def v686 (P : Params) : Obj := ⟨.type "type", none, .cls { name := "Talks", bases := [.type "object"], mro := [.ref 574, .type "object"], ns := 573, qualname := "Talks", hasDict := true, slotNames := [], subclasses := [], abstract := false, collection := none, hasDel := false }, #[none, none, some (.str "Talks" 962), some (.str "Talks" 970), some (.builtin "object.__new__"), some (.bool true)]⟩
def v687 (P : Params) : Obj := ⟨.type "getset_descriptor", none, .fields #[.str "__dict__" 1125, .ref 574, .builtin "function.__dict__", .builtin "function.__dict__#set"], #[]⟩
def v688 (P : Params) : Obj := ⟨.type "getset_descriptor", none, .fields #[.str "__weakref__" 1127, .ref 574, .builtin "ExceptionGroup.__weakref__", .none], #[]⟩
def v689 (P : Params) : Obj := ⟨.type "super", none, .fields #[.ref 574, .ref 574, .ref 574], #[]⟩
def v690 (P : Params) : Obj := ⟨.type "builtin_function_or_method", none, .fields #[.builtin "object.__init_subclass__", .ref 574], #[]⟩
def v703 (P : Params) : Obj := tup []
def v704 (P : Params) : Obj := ⟨.type "builtin_function_or_method", none, .fields #[.builtin "type.__prepare__", .type "type"], #[]⟩
def v705 (P : Params) : Obj := nsO [e1 P "__module__" 1153 (.str "lentgate.gate" 1132), e1 P "__qualname__" 1155 (.str "Gate" 1154), e1 P "__firstlineno__" 1157 (.int 312 1156), e1 P "__init__" 1165 (.ref 599), e1 P "deed" 1174 (.ref 606), e1 P "out" 1188 (.ref 613), e1 P "come" 1201 (.ref 620), e1 P "lost" 1213 (.ref 627), e1 P "wait" 1221 (.ref 634), e1 P "rule" 1233 (.ref 641), e1 P "unrule" 1241 (.ref 648), e1 P "moment" 1248 (.ref 655), e1 P "free" 1255 (.ref 662), e1 P "lends" 1261 (.ref 667), e1 P "talks" 1267 (.ref 672), e1 P "rests" 1274 (.ref 679), e1 P "rules" 1281 (.ref 686), e1 P "book" 1288 (.ref 693), e1 P "answered" 1303 (.ref 700), e1 P "sent" 1320 (.ref 707), e1 P "lead_out" 1331 (.ref 714), e1 P "begin_out" 1341 (.ref 721), e1 P "picked_for" 1351 (.ref 728), e1 P "come_in" 1364 (.ref 735), e1 P "lead_in" 1380 (.ref 742), e1 P "sifted" 1391 (.ref 749), e1 P "lets_note_in" 1401 (.ref 756), e1 P "come_by_rule" 1418 (.ref 763), e1 P "told_lost" 1432 (.ref 770), e1 P "rule_told" 1445 (.ref 777), e1 P "rule_dropped" 1453 (.ref 784), e1 P "__static_attributes__" 1459 (.ref 785)] 32
def v706 (P : Params) : Obj := tup []
def v707 (P : Params) : Obj := ⟨.none, none, .fields #[.int 314 0, .int 4 0, .ref 598, .int 323 0, .int 4 0, .ref 605, .int 330 0, .int 4 0, .ref 612, .int 333 0, .int 4 0, .ref 619, .int 336 0, .int 4 0, .ref 626, .int 339 0, .int 4 0, .ref 633, .int 342 0, .int 4 0, .ref 640, .int 345 0, .int 4 0, .ref 647, .int 348 0, .int 4 0, .ref 654, .int 351 0, .int 4 0, .ref 661, .int 354 0, .int 4 0, .ref 666, .int 357 0, .int 4 0, .ref 671, .int 360 0, .int 4 0, .ref 678, .int 363 0, .int 4 0, .ref 685, .int 366 0, .int 4 0, .ref 692, .int 369 0, .int 4 0, .ref 699, .int 384 0, .int 4 0, .ref 706, .int 392 0, .int 4 0, .ref 713, .int 402 0, .int 4 0, .ref 720, .int 414 0, .int 4 0, .ref 727, .int 420 0, .int 4 0, .ref 734, .int 428 0, .int 4 0, .ref 741, .int 438 0, .int 4 0, .ref 748, .int 446 0, .int 4 0, .ref 755, .int 450 0, .int 4 0, .ref 762, .int 464 0, .int 4 0, .ref 769, .int 471 0, .int 4 0, .ref 776, .int 477 0, .int 4 0, .ref 783], #[]⟩
def v708 (P : Params) : Obj := coO [.str "Gate" 1148, .str "Gate" 1149, .str "/claim/cut.py" 1150, .int 312 0, .int 0 0, .int 0 0, .int 0 0, .int 0 0, .ref 589, .bool false, .int 181 0, .ref 590, .none, .none, .none, .none, .int 1151 0, .int 312 0, .str "/claim/cut.py" 1152]
def v709 (P : Params) : Obj := ⟨.type "frame", none, .plain, #[some (.ref 591), some (.ref 3), some (.ref 588), none, some (.str "lentgate.gate" 1132), none, some (.ref 0)]⟩
def v780 (P : Params) : Obj := tup []
def v781 (P : Params) : Obj := ⟨.none, none, .fields #[], #[]⟩
def v782 (P : Params) : Obj := tfO "lends" "Gate.lends" (sub (top 70) 10)
def v783 (P : Params) : Obj := coO [.str "lends" 1256, .str "Gate.lends" 1257, .str "/claim/cut.py" 1258, .int 354 0, .int 1 0, .int 0 0, .int 0 0, .int 3 0, .ref 663, .bool true, .int 181 0, .ref 664, .none, .none, .none, .ref 665, .int 1259 0, .int 354 0, .str "/claim/cut.py" 1260]
def v784 (P : Params) : Obj := fnO "lends" "Gate.lends" (sub (top 70) 10) (.str "lentgate.gate" 1132) (.ref 666)
def v785 (P : Params) : Obj := tup []
def v786 (P : Params) : Obj := ⟨.none, none, .fields #[], #[]⟩
def v787 (P : Params) : Obj := tfO "talks" "Gate.talks" (sub (top 70) 11)
def v788 (P : Params) : Obj := coO [.str "talks" 1262, .str "Gate.talks" 1263, .str "/claim/cut.py" 1264, .int 357 0, .int 1 0, .int 0 0, .int 0 0, .int 3 0, .ref 668, .bool true, .int 181 0, .ref 669, .none, .none, .none, .ref 670, .int 1265 0, .int 357 0, .str "/claim/cut.py" 1266]
def v789 (P : Params) : Obj := fnO "talks" "Gate.talks" (sub (top 70) 11) (.str "lentgate.gate" 1132) (.ref 671)
def v902 (P : Params) : Obj := tup [.str "done" 1454, .str "form" 1455, .str "strangers" 1456, .str "table" 1457, .str "wish" 1458]
def v903 (P : Params) : Obj := nsO [e1 P "__module__" 1153 (.str "lentgate.gate" 1132), e1 P "__firstlineno__" 1157 (.int 312 1156), e1 P "__init__" 1165 (.ref 599), e1 P "deed" 1174 (.ref 606), e1 P "out" 1188 (.ref 613), e1 P "come" 1201 (.ref 620), e1 P "lost" 1213 (.ref 627), e1 P "wait" 1221 (.ref 634), e1 P "rule" 1233 (.ref 641), e1 P "unrule" 1241 (.ref 648), e1 P "moment" 1248 (.ref 655), e1 P "free" 1255 (.ref 662), e1 P "lends" 1261 (.ref 667), e1 P "talks" 1267 (.ref 672), e1 P "rests" 1274 (.ref 679), e1 P "rules" 1281 (.ref 686), e1 P "book" 1288 (.ref 693), e1 P "answered" 1303 (.ref 700), e1 P "sent" 1320 (.ref 707), e1 P "lead_out" 1331 (.ref 714), e1 P "begin_out" 1341 (.ref 721), e1 P "picked_for" 1351 (.ref 728), e1 P "come_in" 1364 (.ref 735), e1 P "lead_in" 1380 (.ref 742), e1 P "sifted" 1391 (.ref 749), e1 P "lets_note_in" 1401 (.ref 756), e1 P "come_by_rule" 1418 (.ref 763), e1 P "told_lost" 1432 (.ref 770), e1 P "rule_told" 1445 (.ref 777), e1 P "rule_dropped" 1453 (.ref 784), e1 P "__static_attributes__" 1459 (.ref 785), e1 P "__dict__" 1461 (.ref 788), e1 P "__weakref__" 1463 (.ref 789), e1 P "__doc__" 1464 (.none)] 4
def v904 (P : Params) : Obj := ⟨.type "type", none, .cls { name := "Gate", bases := [.type "object"], mro := [.ref 787, .type "object"], ns := 786, qualname := "Gate", hasDict := true, slotNames := [], subclasses := [], abstract := false, collection := none, hasDel := false }, #[none, none, some (.str "Gate" 1146), some (.str "Gate" 1154), some (.builtin "object.__new__"), some (.bool true)]⟩
def v905 (P : Params) : Obj := ⟨.type "getset_descriptor", none, .fields #[.str "__dict__" 1460, .ref 787, .builtin "function.__dict__", .builtin "function.__dict__#set"], #[]⟩
def v906 (P : Params) : Obj := ⟨.type "getset_descriptor", none, .fields #[.str "__weakref__" 1462, .ref 787, .builtin "ExceptionGroup.__weakref__", .none], #[]⟩
def v907 (P : Params) : Obj := ⟨.type "super", none, .fields #[.ref 787, .ref 787, .ref 787], #[]⟩
def v908 (P : Params) : Obj := ⟨.type "builtin_function_or_method", none, .fields #[.builtin "object.__init_subclass__", .ref 787], #[]⟩
def v911 (P : Params) : Obj := tup [.str "out" 1469, .str "come" 1470]
def v925 (P : Params) : Obj := tup []
def v926 (P : Params) : Obj := ⟨.none, none, .fields #[], #[]⟩
def v927 (P : Params) : Obj := tfO "show_row" "show_row" (top 76)
def v928 (P : Params) : Obj := coO [.str "show_row" 1483, .str "show_row" 1484, .str "/claim/cut.py" 1485, .int 488 0, .int 1 0, .int 0 0, .int 0 0, .int 3 0, .ref 800, .bool true, .int 181 0, .ref 801, .none, .none, .none, .ref 802, .int 1486 0, .int 488 0, .str "/claim/cut.py" 1487]
def v929 (P : Params) : Obj := fnO "show_row" "show_row" (top 76) (.str "lentgate.texts" 1467) (.ref 803)
def v932 (P : Params) : Obj := tup []
def v933 (P : Params) : Obj := ⟨.none, none, .fields #[], #[]⟩
def v934 (P : Params) : Obj := tfO "show_answer" "show_answer" (top 77)
def v935 (P : Params) : Obj := coO [.str "show_answer" 1489, .str "show_answer" 1490, .str "/claim/cut.py" 1491, .int 490 0, .int 1 0, .int 0 0, .int 0 0, .int 3 0, .ref 805, .bool true, .int 181 0, .ref 806, .none, .none, .none, .ref 807, .int 1492 0, .int 490 0, .str "/claim/cut.py" 1493]
def v936 (P : Params) : Obj := fnO "show_answer" "show_answer" (top 77) (.str "lentgate.texts" 1467) (.ref 808)
def v939 (P : Params) : Obj := tup []
def v940 (P : Params) : Obj := ⟨.none, none, .fields #[], #[]⟩
def v941 (P : Params) : Obj := tfO "is_number_word" "is_number_word" (top 78)
def v942 (P : Params) : Obj := coO [.str "is_number_word" 1495, .str "is_number_word" 1496, .str "/claim/cut.py" 1497, .int 496 0, .int 1 0, .int 0 0, .int 0 0, .int 3 0, .ref 810, .bool true, .int 181 0, .ref 811, .none, .none, .none, .ref 812, .int 1498 0, .int 496 0, .str "/claim/cut.py" 1499]
def v943 (P : Params) : Obj := fnO "is_number_word" "is_number_word" (top 78) (.str "lentgate.texts" 1467) (.ref 813)
def v955 (P : Params) : Obj := tup []
def v956 (P : Params) : Obj := ⟨.none, none, .fields #[], #[]⟩
def v957 (P : Params) : Obj := tfO "read_words" "read_words" (top 80)
def v958 (P : Params) : Obj := coO [.str "read_words" 1508, .str "read_words" 1509, .str "/claim/cut.py" 1510, .int 506 0, .int 1 0, .int 0 0, .int 0 0, .int 3 0, .ref 822, .bool true, .int 181 0, .ref 823, .none, .none, .none, .ref 824, .int 1511 0, .int 506 0, .str "/claim/cut.py" 1512]
def v959 (P : Params) : Obj := fnO "read_words" "read_words" (top 80) (.str "lentgate.texts" 1467) (.ref 825)
def v981 (P : Params) : Obj := tup []
def v982 (P : Params) : Obj := ⟨.none, none, .fields #[], #[]⟩
def v983 (P : Params) : Obj := tfO "show_rows" "show_rows" (top 84)
def v984 (P : Params) : Obj := coO [.str "show_rows" 1535, .str "show_rows" 1536, .str "/claim/cut.py" 1537, .int 520 0, .int 1 0, .int 0 0, .int 0 0, .int 3 0, .ref 841, .bool true, .int 181 0, .ref 842, .none, .none, .none, .ref 843, .int 1538 0, .int 520 0, .str "/claim/cut.py" 1539]
def v985 (P : Params) : Obj := fnO "show_rows" "show_rows" (top 84) (.str "lentgate.desk" 1533) (.ref 844)
def v988 (P : Params) : Obj := tup []
def v989 (P : Params) : Obj := ⟨.type "builtin_function_or_method", none, .fields #[.builtin "type.__prepare__", .type "type"], #[]⟩
def v990 (P : Params) : Obj := nsO [e1 P "__module__" 1548 (.str "lentgate.desk" 1533), e1 P "__qualname__" 1550 (.str "Desk" 1549), e1 P "__firstlineno__" 1552 (.int 524 1551), e1 P "__init__" 1560 (.ref 859), e1 P "say" 1568 (.ref 866), e1 P "__static_attributes__" 1570 (.ref 867)] 6
def v991 (P : Params) : Obj := tup []
def v992 (P : Params) : Obj := ⟨.none, none, .fields #[.int 526 0, .int 4 0, .ref 858, .int 529 0, .int 4 0, .ref 865], #[]⟩
def v993 (P : Params) : Obj := coO [.str "Desk" 1543, .str "Desk" 1544, .str "/claim/cut.py" 1545, .int 524 0, .int 0 0, .int 0 0, .int 0 0, .int 0 0, .ref 849, .bool false, .int 181 0, .ref 850, .none, .none, .none, .none, .int 1546 0, .int 524 0, .str "/claim/cut.py" 1547]
def v994 (P : Params) : Obj := ⟨.type "frame", none, .plain, #[some (.ref 851), some (.ref 3), some (.ref 848), none, some (.str "lentgate.desk" 1533), none, some (.ref 0)]⟩
def v1009 (P : Params) : Obj := tup [.str "gate" 1569]
def v1010 (P : Params) : Obj := nsO [e1 P "__module__" 1548 (.str "lentgate.desk" 1533), e1 P "__firstlineno__" 1552 (.int 524 1551), e1 P "__init__" 1560 (.ref 859), e1 P "say" 1568 (.ref 866), e1 P "__static_attributes__" 1570 (.ref 867), e1 P "__dict__" 1572 (.ref 870), e1 P "__weakref__" 1574 (.ref 871), e1 P "__doc__" 1575 (.none)] 4
def v1011 (P : Params) : Obj := ⟨.type "type", none, .cls { name := "Desk", bases := [.type "object"], mro := [.ref 869, .type "object"], ns := 868, qualname := "Desk", hasDict := true, slotNames := [], subclasses := [], abstract := false, collection := none, hasDel := false }, #[none, none, some (.str "Desk" 1541), some (.str "Desk" 1549), some (.builtin "object.__new__"), some (.bool true)]⟩
def v1012 (P : Params) : Obj := ⟨.type "getset_descriptor", none, .fields #[.str "__dict__" 1571, .ref 869, .builtin "function.__dict__", .builtin "function.__dict__#set"], #[]⟩
def v1013 (P : Params) : Obj := ⟨.type "getset_descriptor", none, .fields #[.str "__weakref__" 1573, .ref 869, .builtin "ExceptionGroup.__weakref__", .none], #[]⟩
def v1014 (P : Params) : Obj := ⟨.type "super", none, .fields #[.ref 869, .ref 869, .ref 869], #[]⟩
def v1015 (P : Params) : Obj := ⟨.type "builtin_function_or_method", none, .fields #[.builtin "object.__init_subclass__", .ref 869], #[]⟩
def v1046 (P : Params) : Obj := tup []
def v1047 (P : Params) : Obj := ⟨.none, none, .fields #[], #[]⟩
def v1048 (P : Params) : Obj := tfO "is_same" "is_same" (top 90)
def v1049 (P : Params) : Obj := coO [.str "is_same" 1606, .str "is_same" 1607, .str "/claim/cut.py" 1608, .int 556 0, .int 2 0, .int 0 0, .int 0 0, .int 3 0, .ref 895, .bool true, .int 181 0, .ref 896, .none, .none, .none, .ref 897, .int 1609 0, .int 556 0, .str "/claim/cut.py" 1610]
def v1050 (P : Params) : Obj := fnO "is_same" "is_same" (top 90) (.str "lentgate.looker" 1578) (.ref 898)
def v1108 (P : Params) : Obj := tup []
def v1109 (P : Params) : Obj := ⟨.none, none, .fields #[], #[]⟩
def v1110 (P : Params) : Obj := tfO "_law_a_form" "_law_a_form" (top 98)
def v1111 (P : Params) : Obj := coO [.str "_law_a_form" 1669, .str "_law_a_form" 1670, .str "/claim/cut.py" 1671, .int 597 0, .int 1 0, .int 0 0, .int 0 0, .int 3 0, .ref 942, .bool true, .int 181 0, .ref 943, .none, .none, .none, .ref 944, .int 1672 0, .int 597 0, .str "/claim/cut.py" 1673]
def v1112 (P : Params) : Obj := fnO "_law_a_form" "_law_a_form" (top 98) (.str "law_lentgate_k03_forms_of_any_form" 1633) (.ref 945)
def v1142 (P : Params) : Obj := tup []
def v1143 (P : Params) : Obj := ⟨.none, none, .fields #[], #[]⟩
def v1144 (P : Params) : Obj := tfO "_law_is_right" "_law_is_right" (top 102)
def v1145 (P : Params) : Obj := coO [.str "_law_is_right" 1703, .str "_law_is_right" 1704, .str "/claim/cut.py" 1705, .int 619 0, .int 1 0, .int 0 0, .int 0 0, .int 3 0, .ref 968, .bool true, .int 181 0, .ref 969, .none, .none, .none, .ref 970, .int 1706 0, .int 619 0, .str "/claim/cut.py" 1707]
def v1146 (P : Params) : Obj := fnO "_law_is_right" "_law_is_right" (top 102) (.str "law_lentgate_k03_forms_of_any_form" 1633) (.ref 971)
def fin (P : Params) (D : Obj) : List Obj := [boot_o_0 P, boot_o_1 P, boot_o_2 P, nsO ((ns P).take 103) 103, boot_o_4 P, boot_o_5 P, boot_o_6 P, boot_o_7 P, boot_o_8 P, boot_o_9 P, boot_o_10 P, v11 P, tbO (tb.take 207), v13 P, v14 P] ++ (d15.objs ++ ([v35 P, v37 P, v39 P] ++ (d25.objs ++ (d32.objs ++ (d39.objs ++ (d46.objs ++ (d53.objs ++ (d60.objs ++ (d67.objs ++ (d74.objs ++ (d81.objs ++ (d88.objs ++ ([v132 P, v133 P, v134 P, v135 P, v136 P] ++ (d100.objs ++ (d107.objs ++ (d114.objs ++ (d121.objs ++ (d128.objs ++ (d135.objs ++ (d142.objs ++ ([v201 P] ++ (d150.objs ++ (d157.objs ++ ([v222 P, v224 P, v226 P, v231 P] ++ (d168.objs ++ ([v243 P, v244 P, v245 P, v246 P, v247 P] ++ (d180.objs ++ (d187.objs ++ (d194.objs ++ ([v278 P, v279 P, v280 P, v281 P, v282 P, v283 P, v284 P, v285 P, v286 P, v353 P, v288 P, v289 P, v290 P, v294 P, v295 P, v296 P, v297 P, v298 P, v299 P, v300 P, v301 P, v302 P, v303 P, v304 P, v305 P, v309 P, v310 P, v311 P, v312 P, v313 P, v314 P, v315 P, v316 P, v317 P, v318 P, v319 P, v320 P, v324 P, v325 P, v326 P, v327 P, v328 P, v329 P, v330 P, v331 P, v332 P, v333 P, v334 P, v335 P, v339 P, v340 P, v341 P, v342 P, v343 P, v344 P, v345 P, v346 P, v347 P, v348 P, v349 P, v350 P, v354 P, v355 P, v356 P, v357 P, v358 P, v359 P, v360 P, v361 P, v362 P, v363 P, v364 P, v365 P, D, v369 P, v370 P, v371 P, v372 P, v373 P, v374 P, v375 P, v376 P, v377 P, v378 P, v379 P, v380 P, v381 P, v382 P, v384 P] ++ (d290.objs ++ (d297.objs ++ (d304.objs ++ ([v415 P, v416 P, v417 P, v418 P, v419 P, v420 P, v421 P] ++ (d318.objs ++ (d325.objs ++ (d332.objs ++ (d339.objs ++ (d346.objs ++ ([v457 P, v458 P, v459 P, v460 P, v461 P, v462 P, v463 P, v464 P, v465 P, v466 P, v467 P, v468 P, v472 P, v473 P, v474 P, v475 P, v476 P, v477 P, v478 P] ++ (d372.objs ++ (d379.objs ++ (d386.objs ++ (d393.objs ++ (d400.objs ++ (d407.objs ++ (d414.objs ++ ([v528 P, v529 P, v530 P, v531 P, v532 P, v533 P, v534 P, v535 P, v536 P, v537 P, v538 P, v539 P, v540 P, v541 P, v542 P, v543 P, v544 P, v548 P, v549 P, v550 P, v551 P, v552 P, v553 P, v554 P] ++ (d445.objs ++ ([v562 P, v563 P, v564 P, v565 P, v566 P, v567 P, v568 P, v571 P, v572 P, v573 P, v574 P, v575 P, v576 P, v577 P] ++ (d466.objs ++ (d473.objs ++ (d480.objs ++ ([v599 P, v600 P, v601 P, v602 P, v603 P] ++ (d492.objs ++ (d499.objs ++ (d506.objs ++ (d513.objs ++ ([v632 P, v633 P, v634 P, v635 P, v636 P] ++ (d525.objs ++ (d532.objs ++ (d539.objs ++ (d546.objs ++ (d553.objs ++ (d560.objs ++ ([v679 P, v680 P, v681 P, v682 P, v683 P, v684 P, v685 P, v686 P, v687 P, v688 P, v689 P, v690 P] ++ (d579.objs ++ ([v703 P, v704 P, v705 P, v706 P, v707 P, v708 P, v709 P] ++ (d593.objs ++ (d600.objs ++ (d607.objs ++ (d614.objs ++ (d621.objs ++ (d628.objs ++ (d635.objs ++ (d642.objs ++ (d649.objs ++ (d656.objs ++ ([v780 P, v781 P, v782 P, v783 P, v784 P, v785 P, v786 P, v787 P, v788 P, v789 P] ++ (d673.objs ++ (d680.objs ++ (d687.objs ++ (d694.objs ++ (d701.objs ++ (d708.objs ++ (d715.objs ++ (d722.objs ++ (d729.objs ++ (d736.objs ++ (d743.objs ++ (d750.objs ++ (d757.objs ++ (d764.objs ++ (d771.objs ++ (d778.objs ++ ([v902 P, v903 P, v904 P, v905 P, v906 P, v907 P, v908 P, v911 P] ++ (d793.objs ++ ([v925 P, v926 P, v927 P, v928 P, v929 P, v932 P, v933 P, v934 P, v935 P, v936 P, v939 P, v940 P, v941 P, v942 P, v943 P] ++ (d815.objs ++ ([v955 P, v956 P, v957 P, v958 P, v959 P] ++ (d827.objs ++ (d834.objs ++ ([v981 P, v982 P, v983 P, v984 P, v985 P, v988 P, v989 P, v990 P, v991 P, v992 P, v993 P, v994 P] ++ (d853.objs ++ (d860.objs ++ ([v1009 P, v1010 P, v1011 P, v1012 P, v1013 P, v1014 P, v1015 P] ++ (d874.objs ++ (d881.objs ++ (d888.objs ++ ([v1046 P, v1047 P, v1048 P, v1049 P, v1050 P] ++ (d900.objs ++ (d907.objs ++ (d914.objs ++ (d921.objs ++ (d928.objs ++ (d935.objs ++ ([v1108 P, v1109 P, v1110 P, v1111 P, v1112 P] ++ (d947.objs ++ (d954.objs ++ (d961.objs ++ ([v1142 P, v1143 P, v1144 P, v1145 P, v1146 P] ++ (d973.objs ++ (d980.objs ++ (d987.objs))))))))))))))))))))))))))))))))))))))))))))))))))))))))))))))))))))))))))))))))))))))))))))))))))))))))))))))))))))))))))))
def fin0 (P : Params) : List Obj := fin P default
def S_A (P : Params) (os : OsState) : SharedT := ⟨treeOf ((((fin0 P).take 15).set 3 (boot_o_3 P)).set 12 (tbO (tb.take 0))), 15, {}, #[], {}, 187, os⟩
theorem pre_eq (w : World) (os : OsState) : topGo treeTable p w 11 ann 12 ⟨boot_heap w.params, #[], boot_drawn, boot_toks, os⟩ (topStub p) = some ((S_A w.params os).abs, ⟨denote treeTable cd, cd, q0, B⟩) := by kernel_rfl
theorem block_eq (w : World) (os : OsState) : segRun treeTable p w 11 ann 1 1 (S_A w.params os).abs (blockOf body env cd q0 B) = some (.next, (S_A w.params os).abs, cd, q0) := by kernel_rfl
def S_0 (P : Params) (os : OsState) : SharedT := ⟨treeOf ((((fin0 P).take 81).set 3 (nsO ((e1 P "__name__" 165 (.str "lentgate.ends" 194)) :: ((ns P).drop 1).take 29) 30)).set 12 (tbO (tb.take 27))), 81, {}, #[], {}, 282, os⟩
theorem run0 (w : World) (os : OsState) : segRunT treeTable p w 11 ann 1 391 (S_A w.params os) (piecesOf ((body.drop 0).take 22) env cd q0 B) = some (.next, S_0 w.params os, cd, ⟨31, 0, 32, 25⟩) := by
  rw [PySem.W.Fast.te10110043849684766642, PySem.W.Fast.te14364793385576792824]; kernel_rfl
def S_1 (P : Params) (os : OsState) : SharedT := ⟨treeOf ((((fin0 P).take 149).set 3 (nsO ((e1 P "__name__" 165 (.str "lentgate.ends" 194)) :: ((ns P).drop 1).take 39) 40)).set 12 (tbO (tb.take 57))), 149, {}, #[], {}, 378, os⟩
theorem run1 (w : World) (os : OsState) : segRunT treeTable p w 11 ann 1 315 (S_0 w.params os) (piecesOf ((body.drop 22).take 10) env cd ⟨31, 0, 32, 25⟩ B) = some (.next, S_1 w.params os, cd, ⟨70, 0, 71, 74⟩) := by
  rw [PySem.W.Fast.te10110043849684766642, PySem.W.Fast.te14364793385576792824]; kernel_rfl
def S_2 (P : Params) (os : OsState) : SharedT := ⟨treeOf ((((fin0 P).take 180).set 3 (nsO ((e1 P "__name__" 165 (.str "lentgate.forms" 407)) :: ((ns P).drop 1).take 51) 52)).set 12 (tbO (tb.take 69))), 180, {}, #[], {}, 459, os⟩
theorem run2b (w : World) (os : OsState) (b : Bool) : segRunT treeTable p (wf w b) 11 ann 1 397 (S_1 w.params os) (piecesOf ((body.drop 32).take 13) env cd ⟨70, 0, 71, 74⟩ B) = some (.next, S_2 w.params os, cd, ⟨93, 0, 97, 64⟩) := by
  rw [PySem.W.Fast.te10110043849684766642, PySem.W.Fast.te14364793385576792824]; cases b <;> kernel_rfl
theorem run2 (w : World) (os : OsState) : segRunT treeTable p w 11 ann 1 397 (S_1 w.params os) (piecesOf ((body.drop 32).take 13) env cd ⟨70, 0, 71, 74⟩ B) = some (.next, S_2 w.params os, cd, ⟨93, 0, 97, 64⟩) := by
  have h := run2b w os (w.params.followText "special-get-raises")
  unfold wf at h
  rw [World.withFollow_self] at h
  exact h
def S_3 (P : Params) (os : OsState) : SharedT := ⟨treeOf (((((fin0 P).take 214).set 3 (nsO ((e1 P "__name__" 165 (.str "lentgate.errors" 497)) :: ((ns P).drop 1).take 55) 56)).set 12 (tbO (tb.take 81))).set 210 (v287 P)), 214, {}, #[], {}, 517, os⟩
theorem run3 (w : World) (os : OsState) : segRunT treeTable p w 11 ann 1 300 (S_2 w.params os) (piecesOf ((body.drop 45).take 5) env cd ⟨93, 0, 97, 64⟩ B) = some (.next, S_3 w.params os, cd, ⟨119, 0, 120, 8⟩) := by
  rw [PySem.W.Fast.te10110043849684766642, PySem.W.Fast.te14364793385576792824]; kernel_rfl
def S_4 (P : Params) (os : OsState) : SharedT := ⟨treeOf (((((fin0 P).take 226).set 3 (nsO ((e1 P "__name__" 165 (.str "lentgate.errors" 497)) :: ((ns P).drop 1).take 56) 57)).set 12 (tbO (tb.take 84))).set 210 (v293 P)), 226, {}, #[], {}, 533, os⟩
theorem run4 (w : World) (os : OsState) : segRunT treeTable p w 11 ann 1 214 (S_3 w.params os) (piecesOf ((body.drop 50).take 1) env cd ⟨119, 0, 120, 8⟩ B) = some (.next, S_4 w.params os, cd, ⟨121, 0, 122, 8⟩) := by
  rw [PySem.W.Fast.te10110043849684766642, PySem.W.Fast.te14364793385576792824]; kernel_rfl
def S_5 (P : Params) (os : OsState) : SharedT := ⟨treeOf (((((fin0 P).take 238).set 3 (nsO ((e1 P "__name__" 165 (.str "lentgate.errors" 497)) :: ((ns P).drop 1).take 57) 58)).set 12 (tbO (tb.take 87))).set 210 (v308 P)), 238, {}, #[], {}, 549, os⟩
theorem run5 (w : World) (os : OsState) : segRunT treeTable p w 11 ann 1 214 (S_4 w.params os) (piecesOf ((body.drop 51).take 1) env cd ⟨121, 0, 122, 8⟩ B) = some (.next, S_5 w.params os, cd, ⟨123, 0, 124, 8⟩) := by
  rw [PySem.W.Fast.te10110043849684766642, PySem.W.Fast.te14364793385576792824]; kernel_rfl
def S_6 (P : Params) (os : OsState) : SharedT := ⟨treeOf (((((fin0 P).take 250).set 3 (nsO ((e1 P "__name__" 165 (.str "lentgate.errors" 497)) :: ((ns P).drop 1).take 58) 59)).set 12 (tbO (tb.take 90))).set 210 (v323 P)), 250, {}, #[], {}, 565, os⟩
theorem run6 (w : World) (os : OsState) : segRunT treeTable p w 11 ann 1 214 (S_5 w.params os) (piecesOf ((body.drop 52).take 1) env cd ⟨123, 0, 124, 8⟩ B) = some (.next, S_6 w.params os, cd, ⟨125, 0, 126, 8⟩) := by
  rw [PySem.W.Fast.te10110043849684766642, PySem.W.Fast.te14364793385576792824]; kernel_rfl
def S_7 (P : Params) (os : OsState) : SharedT := ⟨treeOf (((((fin0 P).take 262).set 3 (nsO ((e1 P "__name__" 165 (.str "lentgate.errors" 497)) :: ((ns P).drop 1).take 59) 60)).set 12 (tbO (tb.take 93))).set 210 (v338 P)), 262, {}, #[], {}, 581, os⟩
theorem run7 (w : World) (os : OsState) : segRunT treeTable p w 11 ann 1 214 (S_6 w.params os) (piecesOf ((body.drop 53).take 1) env cd ⟨125, 0, 126, 8⟩ B) = some (.next, S_7 w.params os, cd, ⟨127, 0, 128, 8⟩) := by
  rw [PySem.W.Fast.te10110043849684766642, PySem.W.Fast.te14364793385576792824]; kernel_rfl
def S_8 (P : Params) (os : OsState) : SharedT := ⟨treeOf ((((fin0 P).take 274).set 3 (nsO ((e1 P "__name__" 165 (.str "lentgate.lines" 597)) :: ((ns P).drop 1).take 60) 61)).set 12 (tbO (tb.take 96))), 274, {}, #[], {}, 599, os⟩
theorem run8 (w : World) (os : OsState) : segRunT treeTable p w 11 ann 1 223 (S_7 w.params os) (piecesOf ((body.drop 54).take 2) env cd ⟨127, 0, 128, 8⟩ B) = some (.next, S_8 w.params os, cd, ⟨131, 0, 131, 8⟩) := by
  rw [PySem.W.Fast.te10110043849684766642, PySem.W.Fast.te14364793385576792824]; kernel_rfl
def ob (P : Params) (i : Nat) : Obj := (((((fin0 P).take 274).set 3 (nsO ((e1 P "__name__" 165 (.str "lentgate.lines" 597)) :: ((ns P).drop 1).take 60) 61)).set 12 (tbO (tb.take 96))) : List Obj).getD i default
def Dd (es : Array DictEntry) (n : Nat) : Obj := ⟨.type "dict", none, .dict es n, #[]⟩
def S (o : Nat → Obj) (os : OsState) (D : Obj) (tk : Nat) : SharedT := ⟨((((((((((((((((treeOf ((List.range 274).map o)).ins 274 D).ins 275 (tup [.str "house" 599, .none, .str "open" 600])).ins 276 (tup [.str "house" 602, .str "asked" 603, .str "open" 604])).ins 277 (tup [.str "house" 606, .str "called" 607, .str "open" 608])).ins 278 (tup [.str "house" 610, .str "up" 611, .str "say" 612])).ins 279 (tup [.str "house" 614, .str "far" 615, .str "say" 616])).ins 280 (tup [.str "house" 618, .str "up" 619, .str "close" 620])).ins 281 (tup [.str "house" 622, .str "far" 623, .str "close" 624])).ins 282 (tup [.str "far" 626, .none, .str "open" 627])).ins 283 (tup [.str "far" 629, .str "called" 630, .str "open" 631])).ins 284 (tup [.str "far" 633, .str "asked" 634, .str "open" 635])).ins 285 (tup [.str "far" 637, .str "up" 638, .str "say" 639])).ins 286 (tup [.str "far" 641, .str "near" 642, .str "say" 643])).ins 287 (tup [.str "far" 645, .str "up" 646, .str "close" 647])).ins 288 (tup [.str "far" 649, .str "near" 650, .str "close" 651])), 289, {}, #[], {}, tk, os⟩
def S0 (o : Nat → Obj) (os : OsState) (tk : Nat) : SharedT := ⟨treeOf ((List.range 274).map o), 274, {}, #[], {}, tk, os⟩
def S0d (o : Nat → Obj) (os : OsState) (tk : Nat) : SharedT := ⟨(treeOf ((List.range 274).map o)).ins 274 (Dd #[] 0), 275, {}, #[], {}, tk, os⟩
theorem s0_eq (P : Params) (os : OsState) : S_8 P os = S0 (ob P) os 599 := by kernel_rfl
def hs (P : Params) (x : Str) : Int := if x.cps.isEmpty then 0 else reduceHash (P.strHash x.cps)
def hi0 (P : Params) : Int := Builtin.Tuple.tupleHashOf [hs P "house", hashW P .none, hs P "open"]
def en0 (P : Params) : DictEntry := ⟨reduceHash (hi0 P), .ref 275, .str "asked" 601⟩
def hi1 (P : Params) : Int := Builtin.Tuple.tupleHashOf [hs P "house", hs P "asked", hs P "open"]
def en1 (P : Params) : DictEntry := ⟨reduceHash (hi1 P), .ref 276, .str "asked" 605⟩
def hi2 (P : Params) : Int := Builtin.Tuple.tupleHashOf [hs P "house", hs P "called", hs P "open"]
def en2 (P : Params) : DictEntry := ⟨reduceHash (hi2 P), .ref 277, .str "up" 609⟩
def hi3 (P : Params) : Int := Builtin.Tuple.tupleHashOf [hs P "house", hs P "up", hs P "say"]
def en3 (P : Params) : DictEntry := ⟨reduceHash (hi3 P), .ref 278, .str "up" 613⟩
def hi4 (P : Params) : Int := Builtin.Tuple.tupleHashOf [hs P "house", hs P "far", hs P "say"]
def en4 (P : Params) : DictEntry := ⟨reduceHash (hi4 P), .ref 279, .str "far" 617⟩
def hi5 (P : Params) : Int := Builtin.Tuple.tupleHashOf [hs P "house", hs P "up", hs P "close"]
def en5 (P : Params) : DictEntry := ⟨reduceHash (hi5 P), .ref 280, .str "near" 621⟩
def hi6 (P : Params) : Int := Builtin.Tuple.tupleHashOf [hs P "house", hs P "far", hs P "close"]
def en6 (P : Params) : DictEntry := ⟨reduceHash (hi6 P), .ref 281, .str "shut" 625⟩
def hi7 (P : Params) : Int := Builtin.Tuple.tupleHashOf [hs P "far", hashW P .none, hs P "open"]
def en7 (P : Params) : DictEntry := ⟨reduceHash (hi7 P), .ref 282, .str "called" 628⟩
def hi8 (P : Params) : Int := Builtin.Tuple.tupleHashOf [hs P "far", hs P "called", hs P "open"]
def en8 (P : Params) : DictEntry := ⟨reduceHash (hi8 P), .ref 283, .str "called" 632⟩
def hi9 (P : Params) : Int := Builtin.Tuple.tupleHashOf [hs P "far", hs P "asked", hs P "open"]
def en9 (P : Params) : DictEntry := ⟨reduceHash (hi9 P), .ref 284, .str "up" 636⟩
def hi10 (P : Params) : Int := Builtin.Tuple.tupleHashOf [hs P "far", hs P "up", hs P "say"]
def en10 (P : Params) : DictEntry := ⟨reduceHash (hi10 P), .ref 285, .str "up" 640⟩
def hi11 (P : Params) : Int := Builtin.Tuple.tupleHashOf [hs P "far", hs P "near", hs P "say"]
def en11 (P : Params) : DictEntry := ⟨reduceHash (hi11 P), .ref 286, .str "near" 644⟩
def hi12 (P : Params) : Int := Builtin.Tuple.tupleHashOf [hs P "far", hs P "up", hs P "close"]
def en12 (P : Params) : DictEntry := ⟨reduceHash (hi12 P), .ref 287, .str "far" 648⟩
def hi13 (P : Params) : Int := Builtin.Tuple.tupleHashOf [hs P "far", hs P "near", hs P "close"]
def en13 (P : Params) : DictEntry := ⟨reduceHash (hi13 P), .ref 288, .str "shut" 652⟩
section
variable (w : World) (b : Bool) (o : Nat → Obj) (os : OsState) (D : Obj) (tk : Nat) (ps : Pos)
abbrev RR {α : Type} (w : World) (b : Bool) (o : Nat → Obj) (os : OsState) (D : Obj) (tk : Nat) (ps : Pos) (n : Nat) (x : Sem α) (a : α) : Prop := Rn p (wf w b) 11 ann cd B n x ps (S o os D tk) a ps (S o os D tk)
local macro_rules | `(tactic| walk_at "h0") => `(tactic| (refine rn_at fun K H lv => ?_; rw [PySem.W.Fast.te10295753902157049106, PySem.W.Fast.te14364793385576792824]; kernel_rfl))
theorem ru (x : String) : RR w b o os D tk ps 1 (rule x) () := by walk_at "h0"
theorem den (es : Array DictEntry) (n : Nat) : Rn p (wf w b) 11 ann cd B 1 (dictEntries 274 none) ps (S o os (Dd es n) tk) es ps (S o os (Dd es n) tk) := by walk_at "h0"
theorem dep (es : Array DictEntry) (n : Nat) : Rn p (wf w b) 11 ann cd B 1 (dictEpoch 274 none) ps (S o os (Dd es n) tk) n ps (S o os (Dd es n) tk) := by walk_at "h0"
local macro_rules | `(tactic| walk_at "h1") => `(tactic| (refine rn_at fun K H lv => ?_; rw [PySem.W.Fast.te10295753902157049106, PySem.W.Fast.te14364793385576792824, PySem.W.Fast.te13066428366354244818]; kernel_rfl))
theorem qu0 : RR w b o os D tk ps 3 (eqIsQuiet 8 (.ref 275)) true := by walk_at "h1"
local macro_rules | `(tactic| walk_at "h2") => `(tactic| (refine rn_at fun K H lv => ?_; rw [PySem.W.Fast.te10295753902157049106, PySem.W.Fast.te14364793385576792824, PySem.W.Fast.te13383273872528276517]; kernel_rfl))
theorem ro0 : RR w b o os D tk ps 1 (cRoomFor "hash" [.ref 275]) () := by walk_at "h2"
local macro_rules | `(tactic| walk_at "h3") => `(tactic| (refine rn_at fun K H lv => ?_; rw [PySem.W.Fast.te10295753902157049106, PySem.W.Fast.te14364793385576792824, PySem.W.Fast.te4214721358667687652]; kernel_rfl))
theorem sp0 : RR w b o os D tk ps 1 (specialOf (.ref 275) "__hash__") (some (.builtin "tuple.__hash__")) := by walk_at "h3"
local macro_rules | `(tactic| walk_at "h4") => `(tactic| (refine rn_at fun K H lv => ?_; rw [PySem.W.Fast.te10295753902157049106, PySem.W.Fast.te14364793385576792824, PySem.W.Fast.te16697807410369149715]; cases b <;> kernel_rfl))
theorem ca0 (E : Sem Value) : Rn p (wf w b) 11 ann cd B 27 (callSpecialIfBoundUnlessNone? (.ref 275) "__hash__" E) ps (S o os D tk) (some (.int (hi0 w.params) (tk + 3))) ps (S o os D (tk + 4)) := by walk_at "h4"
local macro_rules | `(tactic| walk_at "h5") => `(tactic| (refine rn_at fun K H lv => ?_; rw [PySem.W.Fast.te10295753902157049106, PySem.W.Fast.te14364793385576792824, PySem.W.Fast.te11826078720135083572]; kernel_rfl))
theorem up0 ( y : DictEntry) : Rn p (wf w b) 11 ann cd B 3 (updateDictKeys 274 (fun x => x.push y) none) ps (S o os (Dd #[] 0) tk) () ps (S o os (Dd #[y] 1) tk) := by walk_at "h5"
theorem qu1 : RR w b o os D tk ps 3 (eqIsQuiet 8 (.ref 276)) true := by walk_at "h1"
theorem ro1 : RR w b o os D tk ps 1 (cRoomFor "hash" [.ref 276]) () := by walk_at "h2"
theorem sp1 : RR w b o os D tk ps 1 (specialOf (.ref 276) "__hash__") (some (.builtin "tuple.__hash__")) := by walk_at "h3"
theorem ca1 (E : Sem Value) : Rn p (wf w b) 11 ann cd B 29 (callSpecialIfBoundUnlessNone? (.ref 276) "__hash__" E) ps (S o os D tk) (some (.int (hi1 w.params) (tk + 3))) ps (S o os D (tk + 4)) := by walk_at "h4"
theorem up1 (x0 y : DictEntry) : Rn p (wf w b) 11 ann cd B 3 (updateDictKeys 274 (fun x => x.push y) none) ps (S o os (Dd #[x0] 1) tk) () ps (S o os (Dd #[x0, y] 2) tk) := by walk_at "h5"
local macro_rules | `(tactic| walk_at "h6") => `(tactic| (refine rn_at fun K H lv => ?_; rw [PySem.W.Fast.te10295753902157049106, PySem.W.Fast.te14364793385576792824, PySem.W.Fast.te13926502685295537346]; cases b <;> kernel_rfl))
theorem eq0_1 : RR w b o os D tk ps 26 (eqBool (.ref 275) (.ref 276)) false := by walk_at "h6"
theorem qu2 : RR w b o os D tk ps 3 (eqIsQuiet 8 (.ref 277)) true := by walk_at "h1"
theorem ro2 : RR w b o os D tk ps 1 (cRoomFor "hash" [.ref 277]) () := by walk_at "h2"
theorem sp2 : RR w b o os D tk ps 1 (specialOf (.ref 277) "__hash__") (some (.builtin "tuple.__hash__")) := by walk_at "h3"
theorem ca2 (E : Sem Value) : Rn p (wf w b) 11 ann cd B 29 (callSpecialIfBoundUnlessNone? (.ref 277) "__hash__" E) ps (S o os D tk) (some (.int (hi2 w.params) (tk + 3))) ps (S o os D (tk + 4)) := by walk_at "h4"
theorem up2 (x0 x1 y : DictEntry) : Rn p (wf w b) 11 ann cd B 3 (updateDictKeys 274 (fun x => x.push y) none) ps (S o os (Dd #[x0, x1] 2) tk) () ps (S o os (Dd #[x0, x1, y] 3) tk) := by walk_at "h5"
theorem eq0_2 : RR w b o os D tk ps 26 (eqBool (.ref 275) (.ref 277)) false := by walk_at "h6"
theorem eq1_2 : RR w b o os D tk ps 20 (eqBool (.ref 276) (.ref 277)) false := by walk_at "h6"
theorem qu3 : RR w b o os D tk ps 3 (eqIsQuiet 8 (.ref 278)) true := by walk_at "h1"
theorem ro3 : RR w b o os D tk ps 1 (cRoomFor "hash" [.ref 278]) () := by walk_at "h2"
theorem sp3 : RR w b o os D tk ps 1 (specialOf (.ref 278) "__hash__") (some (.builtin "tuple.__hash__")) := by walk_at "h3"
theorem ca3 (E : Sem Value) : Rn p (wf w b) 11 ann cd B 29 (callSpecialIfBoundUnlessNone? (.ref 278) "__hash__" E) ps (S o os D tk) (some (.int (hi3 w.params) (tk + 3))) ps (S o os D (tk + 4)) := by walk_at "h4"
theorem up3 (x0 x1 x2 y : DictEntry) : Rn p (wf w b) 11 ann cd B 3 (updateDictKeys 274 (fun x => x.push y) none) ps (S o os (Dd #[x0, x1, x2] 3) tk) () ps (S o os (Dd #[x0, x1, x2, y] 4) tk) := by walk_at "h5"
theorem eq0_3 : RR w b o os D tk ps 26 (eqBool (.ref 275) (.ref 278)) false := by walk_at "h6"
theorem eq1_3 : RR w b o os D tk ps 20 (eqBool (.ref 276) (.ref 278)) false := by walk_at "h6"
theorem eq2_3 : RR w b o os D tk ps 20 (eqBool (.ref 277) (.ref 278)) false := by walk_at "h6"
theorem qu4 : RR w b o os D tk ps 3 (eqIsQuiet 8 (.ref 279)) true := by walk_at "h1"
theorem ro4 : RR w b o os D tk ps 1 (cRoomFor "hash" [.ref 279]) () := by walk_at "h2"
theorem sp4 : RR w b o os D tk ps 1 (specialOf (.ref 279) "__hash__") (some (.builtin "tuple.__hash__")) := by walk_at "h3"
theorem ca4 (E : Sem Value) : Rn p (wf w b) 11 ann cd B 29 (callSpecialIfBoundUnlessNone? (.ref 279) "__hash__" E) ps (S o os D tk) (some (.int (hi4 w.params) (tk + 3))) ps (S o os D (tk + 4)) := by walk_at "h4"
theorem up4 (x0 x1 x2 x3 y : DictEntry) : Rn p (wf w b) 11 ann cd B 3 (updateDictKeys 274 (fun x => x.push y) none) ps (S o os (Dd #[x0, x1, x2, x3] 4) tk) () ps (S o os (Dd #[x0, x1, x2, x3, y] 5) tk) := by walk_at "h5"
theorem eq0_4 : RR w b o os D tk ps 26 (eqBool (.ref 275) (.ref 279)) false := by walk_at "h6"
theorem eq1_4 : RR w b o os D tk ps 20 (eqBool (.ref 276) (.ref 279)) false := by walk_at "h6"
theorem eq2_4 : RR w b o os D tk ps 20 (eqBool (.ref 277) (.ref 279)) false := by walk_at "h6"
theorem eq3_4 : RR w b o os D tk ps 20 (eqBool (.ref 278) (.ref 279)) false := by walk_at "h6"
theorem qu5 : RR w b o os D tk ps 3 (eqIsQuiet 8 (.ref 280)) true := by walk_at "h1"
theorem ro5 : RR w b o os D tk ps 1 (cRoomFor "hash" [.ref 280]) () := by walk_at "h2"
theorem sp5 : RR w b o os D tk ps 1 (specialOf (.ref 280) "__hash__") (some (.builtin "tuple.__hash__")) := by walk_at "h3"
theorem ca5 (E : Sem Value) : Rn p (wf w b) 11 ann cd B 29 (callSpecialIfBoundUnlessNone? (.ref 280) "__hash__" E) ps (S o os D tk) (some (.int (hi5 w.params) (tk + 3))) ps (S o os D (tk + 4)) := by walk_at "h4"
theorem up5 (x0 x1 x2 x3 x4 y : DictEntry) : Rn p (wf w b) 11 ann cd B 3 (updateDictKeys 274 (fun x => x.push y) none) ps (S o os (Dd #[x0, x1, x2, x3, x4] 5) tk) () ps (S o os (Dd #[x0, x1, x2, x3, x4, y] 6) tk) := by walk_at "h5"
theorem eq0_5 : RR w b o os D tk ps 26 (eqBool (.ref 275) (.ref 280)) false := by walk_at "h6"
theorem eq1_5 : RR w b o os D tk ps 20 (eqBool (.ref 276) (.ref 280)) false := by walk_at "h6"
theorem eq2_5 : RR w b o os D tk ps 20 (eqBool (.ref 277) (.ref 280)) false := by walk_at "h6"
theorem eq3_5 : RR w b o os D tk ps 24 (eqBool (.ref 278) (.ref 280)) false := by walk_at "h6"
theorem eq4_5 : RR w b o os D tk ps 20 (eqBool (.ref 279) (.ref 280)) false := by walk_at "h6"
theorem qu6 : RR w b o os D tk ps 3 (eqIsQuiet 8 (.ref 281)) true := by walk_at "h1"
theorem ro6 : RR w b o os D tk ps 1 (cRoomFor "hash" [.ref 281]) () := by walk_at "h2"
theorem sp6 : RR w b o os D tk ps 1 (specialOf (.ref 281) "__hash__") (some (.builtin "tuple.__hash__")) := by walk_at "h3"
theorem ca6 (E : Sem Value) : Rn p (wf w b) 11 ann cd B 29 (callSpecialIfBoundUnlessNone? (.ref 281) "__hash__" E) ps (S o os D tk) (some (.int (hi6 w.params) (tk + 3))) ps (S o os D (tk + 4)) := by walk_at "h4"
theorem up6 (x0 x1 x2 x3 x4 x5 y : DictEntry) : Rn p (wf w b) 11 ann cd B 3 (updateDictKeys 274 (fun x => x.push y) none) ps (S o os (Dd #[x0, x1, x2, x3, x4, x5] 6) tk) () ps (S o os (Dd #[x0, x1, x2, x3, x4, x5, y] 7) tk) := by walk_at "h5"
theorem eq0_6 : RR w b o os D tk ps 26 (eqBool (.ref 275) (.ref 281)) false := by walk_at "h6"
theorem eq1_6 : RR w b o os D tk ps 20 (eqBool (.ref 276) (.ref 281)) false := by walk_at "h6"
theorem eq2_6 : RR w b o os D tk ps 20 (eqBool (.ref 277) (.ref 281)) false := by walk_at "h6"
theorem eq3_6 : RR w b o os D tk ps 20 (eqBool (.ref 278) (.ref 281)) false := by walk_at "h6"
theorem eq4_6 : RR w b o os D tk ps 24 (eqBool (.ref 279) (.ref 281)) false := by walk_at "h6"
theorem eq5_6 : RR w b o os D tk ps 20 (eqBool (.ref 280) (.ref 281)) false := by walk_at "h6"
theorem qu7 : RR w b o os D tk ps 3 (eqIsQuiet 8 (.ref 282)) true := by walk_at "h1"
theorem ro7 : RR w b o os D tk ps 1 (cRoomFor "hash" [.ref 282]) () := by walk_at "h2"
theorem sp7 : RR w b o os D tk ps 1 (specialOf (.ref 282) "__hash__") (some (.builtin "tuple.__hash__")) := by walk_at "h3"
theorem ca7 (E : Sem Value) : Rn p (wf w b) 11 ann cd B 27 (callSpecialIfBoundUnlessNone? (.ref 282) "__hash__" E) ps (S o os D tk) (some (.int (hi7 w.params) (tk + 3))) ps (S o os D (tk + 4)) := by walk_at "h4"
theorem up7 (x0 x1 x2 x3 x4 x5 x6 y : DictEntry) : Rn p (wf w b) 11 ann cd B 3 (updateDictKeys 274 (fun x => x.push y) none) ps (S o os (Dd #[x0, x1, x2, x3, x4, x5, x6] 7) tk) () ps (S o os (Dd #[x0, x1, x2, x3, x4, x5, x6, y] 8) tk) := by walk_at "h5"
theorem eq0_7 : RR w b o os D tk ps 16 (eqBool (.ref 275) (.ref 282)) false := by walk_at "h6"
theorem eq1_7 : RR w b o os D tk ps 16 (eqBool (.ref 276) (.ref 282)) false := by walk_at "h6"
theorem eq2_7 : RR w b o os D tk ps 16 (eqBool (.ref 277) (.ref 282)) false := by walk_at "h6"
theorem eq3_7 : RR w b o os D tk ps 16 (eqBool (.ref 278) (.ref 282)) false := by walk_at "h6"
theorem eq4_7 : RR w b o os D tk ps 16 (eqBool (.ref 279) (.ref 282)) false := by walk_at "h6"
theorem eq5_7 : RR w b o os D tk ps 16 (eqBool (.ref 280) (.ref 282)) false := by walk_at "h6"
theorem eq6_7 : RR w b o os D tk ps 16 (eqBool (.ref 281) (.ref 282)) false := by walk_at "h6"
theorem qu8 : RR w b o os D tk ps 3 (eqIsQuiet 8 (.ref 283)) true := by walk_at "h1"
theorem ro8 : RR w b o os D tk ps 1 (cRoomFor "hash" [.ref 283]) () := by walk_at "h2"
theorem sp8 : RR w b o os D tk ps 1 (specialOf (.ref 283) "__hash__") (some (.builtin "tuple.__hash__")) := by walk_at "h3"
theorem ca8 (E : Sem Value) : Rn p (wf w b) 11 ann cd B 29 (callSpecialIfBoundUnlessNone? (.ref 283) "__hash__" E) ps (S o os D tk) (some (.int (hi8 w.params) (tk + 3))) ps (S o os D (tk + 4)) := by walk_at "h4"
theorem up8 (x0 x1 x2 x3 x4 x5 x6 x7 y : DictEntry) : Rn p (wf w b) 11 ann cd B 3 (updateDictKeys 274 (fun x => x.push y) none) ps (S o os (Dd #[x0, x1, x2, x3, x4, x5, x6, x7] 8) tk) () ps (S o os (Dd #[x0, x1, x2, x3, x4, x5, x6, x7, y] 9) tk) := by walk_at "h5"
theorem eq0_8 : RR w b o os D tk ps 16 (eqBool (.ref 275) (.ref 283)) false := by walk_at "h6"
theorem eq1_8 : RR w b o os D tk ps 16 (eqBool (.ref 276) (.ref 283)) false := by walk_at "h6"
theorem eq2_8 : RR w b o os D tk ps 16 (eqBool (.ref 277) (.ref 283)) false := by walk_at "h6"
theorem eq3_8 : RR w b o os D tk ps 16 (eqBool (.ref 278) (.ref 283)) false := by walk_at "h6"
theorem eq4_8 : RR w b o os D tk ps 16 (eqBool (.ref 279) (.ref 283)) false := by walk_at "h6"
theorem eq5_8 : RR w b o os D tk ps 16 (eqBool (.ref 280) (.ref 283)) false := by walk_at "h6"
theorem eq6_8 : RR w b o os D tk ps 16 (eqBool (.ref 281) (.ref 283)) false := by walk_at "h6"
theorem eq7_8 : RR w b o os D tk ps 26 (eqBool (.ref 282) (.ref 283)) false := by walk_at "h6"
theorem qu9 : RR w b o os D tk ps 3 (eqIsQuiet 8 (.ref 284)) true := by walk_at "h1"
theorem ro9 : RR w b o os D tk ps 1 (cRoomFor "hash" [.ref 284]) () := by walk_at "h2"
theorem sp9 : RR w b o os D tk ps 1 (specialOf (.ref 284) "__hash__") (some (.builtin "tuple.__hash__")) := by walk_at "h3"
theorem ca9 (E : Sem Value) : Rn p (wf w b) 11 ann cd B 29 (callSpecialIfBoundUnlessNone? (.ref 284) "__hash__" E) ps (S o os D tk) (some (.int (hi9 w.params) (tk + 3))) ps (S o os D (tk + 4)) := by walk_at "h4"
theorem up9 (x0 x1 x2 x3 x4 x5 x6 x7 x8 y : DictEntry) : Rn p (wf w b) 11 ann cd B 3 (updateDictKeys 274 (fun x => x.push y) none) ps (S o os (Dd #[x0, x1, x2, x3, x4, x5, x6, x7, x8] 9) tk) () ps (S o os (Dd #[x0, x1, x2, x3, x4, x5, x6, x7, x8, y] 10) tk) := by walk_at "h5"
theorem eq0_9 : RR w b o os D tk ps 16 (eqBool (.ref 275) (.ref 284)) false := by walk_at "h6"
theorem eq1_9 : RR w b o os D tk ps 16 (eqBool (.ref 276) (.ref 284)) false := by walk_at "h6"
theorem eq2_9 : RR w b o os D tk ps 16 (eqBool (.ref 277) (.ref 284)) false := by walk_at "h6"
theorem eq3_9 : RR w b o os D tk ps 16 (eqBool (.ref 278) (.ref 284)) false := by walk_at "h6"
theorem eq4_9 : RR w b o os D tk ps 16 (eqBool (.ref 279) (.ref 284)) false := by walk_at "h6"
theorem eq5_9 : RR w b o os D tk ps 16 (eqBool (.ref 280) (.ref 284)) false := by walk_at "h6"
theorem eq6_9 : RR w b o os D tk ps 16 (eqBool (.ref 281) (.ref 284)) false := by walk_at "h6"
theorem eq7_9 : RR w b o os D tk ps 26 (eqBool (.ref 282) (.ref 284)) false := by walk_at "h6"
theorem eq8_9 : RR w b o os D tk ps 20 (eqBool (.ref 283) (.ref 284)) false := by walk_at "h6"
theorem qu10 : RR w b o os D tk ps 3 (eqIsQuiet 8 (.ref 285)) true := by walk_at "h1"
theorem ro10 : RR w b o os D tk ps 1 (cRoomFor "hash" [.ref 285]) () := by walk_at "h2"
theorem sp10 : RR w b o os D tk ps 1 (specialOf (.ref 285) "__hash__") (some (.builtin "tuple.__hash__")) := by walk_at "h3"
theorem ca10 (E : Sem Value) : Rn p (wf w b) 11 ann cd B 29 (callSpecialIfBoundUnlessNone? (.ref 285) "__hash__" E) ps (S o os D tk) (some (.int (hi10 w.params) (tk + 3))) ps (S o os D (tk + 4)) := by walk_at "h4"
theorem up10 (x0 x1 x2 x3 x4 x5 x6 x7 x8 x9 y : DictEntry) : Rn p (wf w b) 11 ann cd B 3 (updateDictKeys 274 (fun x => x.push y) none) ps (S o os (Dd #[x0, x1, x2, x3, x4, x5, x6, x7, x8, x9] 10) tk) () ps (S o os (Dd #[x0, x1, x2, x3, x4, x5, x6, x7, x8, x9, y] 11) tk) := by walk_at "h5"
theorem eq0_10 : RR w b o os D tk ps 16 (eqBool (.ref 275) (.ref 285)) false := by walk_at "h6"
theorem eq1_10 : RR w b o os D tk ps 16 (eqBool (.ref 276) (.ref 285)) false := by walk_at "h6"
theorem eq2_10 : RR w b o os D tk ps 16 (eqBool (.ref 277) (.ref 285)) false := by walk_at "h6"
theorem eq3_10 : RR w b o os D tk ps 16 (eqBool (.ref 278) (.ref 285)) false := by walk_at "h6"
theorem eq4_10 : RR w b o os D tk ps 16 (eqBool (.ref 279) (.ref 285)) false := by walk_at "h6"
theorem eq5_10 : RR w b o os D tk ps 16 (eqBool (.ref 280) (.ref 285)) false := by walk_at "h6"
theorem eq6_10 : RR w b o os D tk ps 16 (eqBool (.ref 281) (.ref 285)) false := by walk_at "h6"
theorem eq7_10 : RR w b o os D tk ps 26 (eqBool (.ref 282) (.ref 285)) false := by walk_at "h6"
theorem eq8_10 : RR w b o os D tk ps 20 (eqBool (.ref 283) (.ref 285)) false := by walk_at "h6"
theorem eq9_10 : RR w b o os D tk ps 20 (eqBool (.ref 284) (.ref 285)) false := by walk_at "h6"
theorem qu11 : RR w b o os D tk ps 3 (eqIsQuiet 8 (.ref 286)) true := by walk_at "h1"
theorem ro11 : RR w b o os D tk ps 1 (cRoomFor "hash" [.ref 286]) () := by walk_at "h2"
theorem sp11 : RR w b o os D tk ps 1 (specialOf (.ref 286) "__hash__") (some (.builtin "tuple.__hash__")) := by walk_at "h3"
theorem ca11 (E : Sem Value) : Rn p (wf w b) 11 ann cd B 29 (callSpecialIfBoundUnlessNone? (.ref 286) "__hash__" E) ps (S o os D tk) (some (.int (hi11 w.params) (tk + 3))) ps (S o os D (tk + 4)) := by walk_at "h4"
theorem up11 (x0 x1 x2 x3 x4 x5 x6 x7 x8 x9 x10 y : DictEntry) : Rn p (wf w b) 11 ann cd B 3 (updateDictKeys 274 (fun x => x.push y) none) ps (S o os (Dd #[x0, x1, x2, x3, x4, x5, x6, x7, x8, x9, x10] 11) tk) () ps (S o os (Dd #[x0, x1, x2, x3, x4, x5, x6, x7, x8, x9, x10, y] 12) tk) := by walk_at "h5"
theorem eq0_11 : RR w b o os D tk ps 16 (eqBool (.ref 275) (.ref 286)) false := by walk_at "h6"
theorem eq1_11 : RR w b o os D tk ps 16 (eqBool (.ref 276) (.ref 286)) false := by walk_at "h6"
theorem eq2_11 : RR w b o os D tk ps 16 (eqBool (.ref 277) (.ref 286)) false := by walk_at "h6"
theorem eq3_11 : RR w b o os D tk ps 16 (eqBool (.ref 278) (.ref 286)) false := by walk_at "h6"
theorem eq4_11 : RR w b o os D tk ps 16 (eqBool (.ref 279) (.ref 286)) false := by walk_at "h6"
theorem eq5_11 : RR w b o os D tk ps 16 (eqBool (.ref 280) (.ref 286)) false := by walk_at "h6"
theorem eq6_11 : RR w b o os D tk ps 16 (eqBool (.ref 281) (.ref 286)) false := by walk_at "h6"
theorem eq7_11 : RR w b o os D tk ps 26 (eqBool (.ref 282) (.ref 286)) false := by walk_at "h6"
theorem eq8_11 : RR w b o os D tk ps 20 (eqBool (.ref 283) (.ref 286)) false := by walk_at "h6"
theorem eq9_11 : RR w b o os D tk ps 20 (eqBool (.ref 284) (.ref 286)) false := by walk_at "h6"
theorem eq10_11 : RR w b o os D tk ps 20 (eqBool (.ref 285) (.ref 286)) false := by walk_at "h6"
theorem qu12 : RR w b o os D tk ps 3 (eqIsQuiet 8 (.ref 287)) true := by walk_at "h1"
theorem ro12 : RR w b o os D tk ps 1 (cRoomFor "hash" [.ref 287]) () := by walk_at "h2"
theorem sp12 : RR w b o os D tk ps 1 (specialOf (.ref 287) "__hash__") (some (.builtin "tuple.__hash__")) := by walk_at "h3"
theorem ca12 (E : Sem Value) : Rn p (wf w b) 11 ann cd B 29 (callSpecialIfBoundUnlessNone? (.ref 287) "__hash__" E) ps (S o os D tk) (some (.int (hi12 w.params) (tk + 3))) ps (S o os D (tk + 4)) := by walk_at "h4"
theorem up12 (x0 x1 x2 x3 x4 x5 x6 x7 x8 x9 x10 x11 y : DictEntry) : Rn p (wf w b) 11 ann cd B 3 (updateDictKeys 274 (fun x => x.push y) none) ps (S o os (Dd #[x0, x1, x2, x3, x4, x5, x6, x7, x8, x9, x10, x11] 12) tk) () ps (S o os (Dd #[x0, x1, x2, x3, x4, x5, x6, x7, x8, x9, x10, x11, y] 13) tk) := by walk_at "h5"
theorem eq0_12 : RR w b o os D tk ps 16 (eqBool (.ref 275) (.ref 287)) false := by walk_at "h6"
theorem eq1_12 : RR w b o os D tk ps 16 (eqBool (.ref 276) (.ref 287)) false := by walk_at "h6"
theorem eq2_12 : RR w b o os D tk ps 16 (eqBool (.ref 277) (.ref 287)) false := by walk_at "h6"
theorem eq3_12 : RR w b o os D tk ps 16 (eqBool (.ref 278) (.ref 287)) false := by walk_at "h6"
theorem eq4_12 : RR w b o os D tk ps 16 (eqBool (.ref 279) (.ref 287)) false := by walk_at "h6"
theorem eq5_12 : RR w b o os D tk ps 16 (eqBool (.ref 280) (.ref 287)) false := by walk_at "h6"
theorem eq6_12 : RR w b o os D tk ps 16 (eqBool (.ref 281) (.ref 287)) false := by walk_at "h6"
theorem eq7_12 : RR w b o os D tk ps 26 (eqBool (.ref 282) (.ref 287)) false := by walk_at "h6"
theorem eq8_12 : RR w b o os D tk ps 20 (eqBool (.ref 283) (.ref 287)) false := by walk_at "h6"
theorem eq9_12 : RR w b o os D tk ps 20 (eqBool (.ref 284) (.ref 287)) false := by walk_at "h6"
theorem eq10_12 : RR w b o os D tk ps 24 (eqBool (.ref 285) (.ref 287)) false := by walk_at "h6"
theorem eq11_12 : RR w b o os D tk ps 20 (eqBool (.ref 286) (.ref 287)) false := by walk_at "h6"
theorem qu13 : RR w b o os D tk ps 3 (eqIsQuiet 8 (.ref 288)) true := by walk_at "h1"
theorem ro13 : RR w b o os D tk ps 1 (cRoomFor "hash" [.ref 288]) () := by walk_at "h2"
theorem sp13 : RR w b o os D tk ps 1 (specialOf (.ref 288) "__hash__") (some (.builtin "tuple.__hash__")) := by walk_at "h3"
theorem ca13 (E : Sem Value) : Rn p (wf w b) 11 ann cd B 29 (callSpecialIfBoundUnlessNone? (.ref 288) "__hash__" E) ps (S o os D tk) (some (.int (hi13 w.params) (tk + 3))) ps (S o os D (tk + 4)) := by walk_at "h4"
theorem up13 (x0 x1 x2 x3 x4 x5 x6 x7 x8 x9 x10 x11 x12 y : DictEntry) : Rn p (wf w b) 11 ann cd B 3 (updateDictKeys 274 (fun x => x.push y) none) ps (S o os (Dd #[x0, x1, x2, x3, x4, x5, x6, x7, x8, x9, x10, x11, x12] 13) tk) () ps (S o os (Dd #[x0, x1, x2, x3, x4, x5, x6, x7, x8, x9, x10, x11, x12, y] 14) tk) := by walk_at "h5"
theorem eq0_13 : RR w b o os D tk ps 16 (eqBool (.ref 275) (.ref 288)) false := by walk_at "h6"
theorem eq1_13 : RR w b o os D tk ps 16 (eqBool (.ref 276) (.ref 288)) false := by walk_at "h6"
theorem eq2_13 : RR w b o os D tk ps 16 (eqBool (.ref 277) (.ref 288)) false := by walk_at "h6"
theorem eq3_13 : RR w b o os D tk ps 16 (eqBool (.ref 278) (.ref 288)) false := by walk_at "h6"
theorem eq4_13 : RR w b o os D tk ps 16 (eqBool (.ref 279) (.ref 288)) false := by walk_at "h6"
theorem eq5_13 : RR w b o os D tk ps 16 (eqBool (.ref 280) (.ref 288)) false := by walk_at "h6"
theorem eq6_13 : RR w b o os D tk ps 16 (eqBool (.ref 281) (.ref 288)) false := by walk_at "h6"
theorem eq7_13 : RR w b o os D tk ps 26 (eqBool (.ref 282) (.ref 288)) false := by walk_at "h6"
theorem eq8_13 : RR w b o os D tk ps 20 (eqBool (.ref 283) (.ref 288)) false := by walk_at "h6"
theorem eq9_13 : RR w b o os D tk ps 20 (eqBool (.ref 284) (.ref 288)) false := by walk_at "h6"
theorem eq10_13 : RR w b o os D tk ps 20 (eqBool (.ref 285) (.ref 288)) false := by walk_at "h6"
theorem eq11_13 : RR w b o os D tk ps 24 (eqBool (.ref 286) (.ref 288)) false := by walk_at "h6"
theorem eq12_13 : RR w b o os D tk ps 20 (eqBool (.ref 287) (.ref 288)) false := by walk_at "h6"
theorem fi0 (h : Int) : Rn p (wf w b) 11 ann cd B 797 (dictFind 274 (.ref 275) h) ps (S o os (Dd #[] 0) tk) none ps (S o os (Dd #[] 0) tk) := by
  refine find_none (m := 26) (L := 14) (es := #[]) (Nat.le_of_ble_eq_true rfl) (ru w b o os _ tk ps) (den w b o os tk ps _ _) (dep w b o os tk ps _ _) ((qu0 w b o os _ tk ps).more (by decide)) ?_
  exact List.forall_mem_nil _
theorem se0 : Rn p (wf w b) 11 ann cd B 832 (dictSet 274 (.ref 275) (.str "asked" 601)) ps (S o os (Dd #[] 0) tk) () ps (S o os (Dd #[en0 w.params] 1) (tk + 4)) :=
  (set_new (h := reduceHash (hi0 w.params)) (ru w b o os _ (tk + 4) ps) (hash_tup (ru w b o os _ (tk + 4) ps) (ro0 w b o os _ tk ps) (sp0 w b o os _ tk ps) (ca0 w b o os _ tk ps)) (fi0 w b o os (tk + 4) ps _) (up0 w b o os (tk + 4) ps  (en0 w.params))).more (by decide)
theorem fi1 (h : Int) : Rn p (wf w b) 11 ann cd B 797 (dictFind 274 (.ref 276) h) ps (S o os (Dd #[en0 w.params] 1) tk) none ps (S o os (Dd #[en0 w.params] 1) tk) := by
  refine find_none (m := 26) (L := 14) (es := #[en0 w.params]) (Nat.le_of_ble_eq_true rfl) (ru w b o os _ tk ps) (den w b o os tk ps _ _) (dep w b o os tk ps _ _) ((qu1 w b o os _ tk ps).more (by decide)) ?_
  refine List.forall_mem_cons.mpr ⟨⟨⟨275, rfl, by decide⟩, (qu0 w b o os _ tk ps).more (by decide), (eq0_1 w b o os _ tk ps).more (by decide)⟩, ?_⟩
  exact List.forall_mem_nil _
theorem se1 : Rn p (wf w b) 11 ann cd B 834 (dictSet 274 (.ref 276) (.str "asked" 605)) ps (S o os (Dd #[en0 w.params] 1) tk) () ps (S o os (Dd #[en0 w.params, en1 w.params] 2) (tk + 4)) :=
  (set_new (h := reduceHash (hi1 w.params)) (ru w b o os _ (tk + 4) ps) (hash_tup (ru w b o os _ (tk + 4) ps) (ro1 w b o os _ tk ps) (sp1 w b o os _ tk ps) (ca1 w b o os _ tk ps)) (fi1 w b o os (tk + 4) ps _) (up1 w b o os (tk + 4) ps (en0 w.params) (en1 w.params))).more (by decide)
theorem fi2 (h : Int) : Rn p (wf w b) 11 ann cd B 797 (dictFind 274 (.ref 277) h) ps (S o os (Dd #[en0 w.params, en1 w.params] 2) tk) none ps (S o os (Dd #[en0 w.params, en1 w.params] 2) tk) := by
  refine find_none (m := 26) (L := 14) (es := #[en0 w.params, en1 w.params]) (Nat.le_of_ble_eq_true rfl) (ru w b o os _ tk ps) (den w b o os tk ps _ _) (dep w b o os tk ps _ _) ((qu2 w b o os _ tk ps).more (by decide)) ?_
  refine List.forall_mem_cons.mpr ⟨⟨⟨275, rfl, by decide⟩, (qu0 w b o os _ tk ps).more (by decide), (eq0_2 w b o os _ tk ps).more (by decide)⟩, ?_⟩
  refine List.forall_mem_cons.mpr ⟨⟨⟨276, rfl, by decide⟩, (qu1 w b o os _ tk ps).more (by decide), (eq1_2 w b o os _ tk ps).more (by decide)⟩, ?_⟩
  exact List.forall_mem_nil _
theorem se2 : Rn p (wf w b) 11 ann cd B 834 (dictSet 274 (.ref 277) (.str "up" 609)) ps (S o os (Dd #[en0 w.params, en1 w.params] 2) tk) () ps (S o os (Dd #[en0 w.params, en1 w.params, en2 w.params] 3) (tk + 4)) :=
  (set_new (h := reduceHash (hi2 w.params)) (ru w b o os _ (tk + 4) ps) (hash_tup (ru w b o os _ (tk + 4) ps) (ro2 w b o os _ tk ps) (sp2 w b o os _ tk ps) (ca2 w b o os _ tk ps)) (fi2 w b o os (tk + 4) ps _) (up2 w b o os (tk + 4) ps (en0 w.params) (en1 w.params) (en2 w.params))).more (by decide)
theorem fi3 (h : Int) : Rn p (wf w b) 11 ann cd B 797 (dictFind 274 (.ref 278) h) ps (S o os (Dd #[en0 w.params, en1 w.params, en2 w.params] 3) tk) none ps (S o os (Dd #[en0 w.params, en1 w.params, en2 w.params] 3) tk) := by
  refine find_none (m := 26) (L := 14) (es := #[en0 w.params, en1 w.params, en2 w.params]) (Nat.le_of_ble_eq_true rfl) (ru w b o os _ tk ps) (den w b o os tk ps _ _) (dep w b o os tk ps _ _) ((qu3 w b o os _ tk ps).more (by decide)) ?_
  refine List.forall_mem_cons.mpr ⟨⟨⟨275, rfl, by decide⟩, (qu0 w b o os _ tk ps).more (by decide), (eq0_3 w b o os _ tk ps).more (by decide)⟩, ?_⟩
  refine List.forall_mem_cons.mpr ⟨⟨⟨276, rfl, by decide⟩, (qu1 w b o os _ tk ps).more (by decide), (eq1_3 w b o os _ tk ps).more (by decide)⟩, ?_⟩
  refine List.forall_mem_cons.mpr ⟨⟨⟨277, rfl, by decide⟩, (qu2 w b o os _ tk ps).more (by decide), (eq2_3 w b o os _ tk ps).more (by decide)⟩, ?_⟩
  exact List.forall_mem_nil _
theorem se3 : Rn p (wf w b) 11 ann cd B 834 (dictSet 274 (.ref 278) (.str "up" 613)) ps (S o os (Dd #[en0 w.params, en1 w.params, en2 w.params] 3) tk) () ps (S o os (Dd #[en0 w.params, en1 w.params, en2 w.params, en3 w.params] 4) (tk + 4)) :=
  (set_new (h := reduceHash (hi3 w.params)) (ru w b o os _ (tk + 4) ps) (hash_tup (ru w b o os _ (tk + 4) ps) (ro3 w b o os _ tk ps) (sp3 w b o os _ tk ps) (ca3 w b o os _ tk ps)) (fi3 w b o os (tk + 4) ps _) (up3 w b o os (tk + 4) ps (en0 w.params) (en1 w.params) (en2 w.params) (en3 w.params))).more (by decide)
theorem fi4 (h : Int) : Rn p (wf w b) 11 ann cd B 797 (dictFind 274 (.ref 279) h) ps (S o os (Dd #[en0 w.params, en1 w.params, en2 w.params, en3 w.params] 4) tk) none ps (S o os (Dd #[en0 w.params, en1 w.params, en2 w.params, en3 w.params] 4) tk) := by
  refine find_none (m := 26) (L := 14) (es := #[en0 w.params, en1 w.params, en2 w.params, en3 w.params]) (Nat.le_of_ble_eq_true rfl) (ru w b o os _ tk ps) (den w b o os tk ps _ _) (dep w b o os tk ps _ _) ((qu4 w b o os _ tk ps).more (by decide)) ?_
  refine List.forall_mem_cons.mpr ⟨⟨⟨275, rfl, by decide⟩, (qu0 w b o os _ tk ps).more (by decide), (eq0_4 w b o os _ tk ps).more (by decide)⟩, ?_⟩
  refine List.forall_mem_cons.mpr ⟨⟨⟨276, rfl, by decide⟩, (qu1 w b o os _ tk ps).more (by decide), (eq1_4 w b o os _ tk ps).more (by decide)⟩, ?_⟩
  refine List.forall_mem_cons.mpr ⟨⟨⟨277, rfl, by decide⟩, (qu2 w b o os _ tk ps).more (by decide), (eq2_4 w b o os _ tk ps).more (by decide)⟩, ?_⟩
  refine List.forall_mem_cons.mpr ⟨⟨⟨278, rfl, by decide⟩, (qu3 w b o os _ tk ps).more (by decide), (eq3_4 w b o os _ tk ps).more (by decide)⟩, ?_⟩
  exact List.forall_mem_nil _
theorem se4 : Rn p (wf w b) 11 ann cd B 834 (dictSet 274 (.ref 279) (.str "far" 617)) ps (S o os (Dd #[en0 w.params, en1 w.params, en2 w.params, en3 w.params] 4) tk) () ps (S o os (Dd #[en0 w.params, en1 w.params, en2 w.params, en3 w.params, en4 w.params] 5) (tk + 4)) :=
  (set_new (h := reduceHash (hi4 w.params)) (ru w b o os _ (tk + 4) ps) (hash_tup (ru w b o os _ (tk + 4) ps) (ro4 w b o os _ tk ps) (sp4 w b o os _ tk ps) (ca4 w b o os _ tk ps)) (fi4 w b o os (tk + 4) ps _) (up4 w b o os (tk + 4) ps (en0 w.params) (en1 w.params) (en2 w.params) (en3 w.params) (en4 w.params))).more (by decide)
theorem fi5 (h : Int) : Rn p (wf w b) 11 ann cd B 797 (dictFind 274 (.ref 280) h) ps (S o os (Dd #[en0 w.params, en1 w.params, en2 w.params, en3 w.params, en4 w.params] 5) tk) none ps (S o os (Dd #[en0 w.params, en1 w.params, en2 w.params, en3 w.params, en4 w.params] 5) tk) := by
  refine find_none (m := 26) (L := 14) (es := #[en0 w.params, en1 w.params, en2 w.params, en3 w.params, en4 w.params]) (Nat.le_of_ble_eq_true rfl) (ru w b o os _ tk ps) (den w b o os tk ps _ _) (dep w b o os tk ps _ _) ((qu5 w b o os _ tk ps).more (by decide)) ?_
  refine List.forall_mem_cons.mpr ⟨⟨⟨275, rfl, by decide⟩, (qu0 w b o os _ tk ps).more (by decide), (eq0_5 w b o os _ tk ps).more (by decide)⟩, ?_⟩
  refine List.forall_mem_cons.mpr ⟨⟨⟨276, rfl, by decide⟩, (qu1 w b o os _ tk ps).more (by decide), (eq1_5 w b o os _ tk ps).more (by decide)⟩, ?_⟩
  refine List.forall_mem_cons.mpr ⟨⟨⟨277, rfl, by decide⟩, (qu2 w b o os _ tk ps).more (by decide), (eq2_5 w b o os _ tk ps).more (by decide)⟩, ?_⟩
  refine List.forall_mem_cons.mpr ⟨⟨⟨278, rfl, by decide⟩, (qu3 w b o os _ tk ps).more (by decide), (eq3_5 w b o os _ tk ps).more (by decide)⟩, ?_⟩
  refine List.forall_mem_cons.mpr ⟨⟨⟨279, rfl, by decide⟩, (qu4 w b o os _ tk ps).more (by decide), (eq4_5 w b o os _ tk ps).more (by decide)⟩, ?_⟩
  exact List.forall_mem_nil _
theorem se5 : Rn p (wf w b) 11 ann cd B 834 (dictSet 274 (.ref 280) (.str "near" 621)) ps (S o os (Dd #[en0 w.params, en1 w.params, en2 w.params, en3 w.params, en4 w.params] 5) tk) () ps (S o os (Dd #[en0 w.params, en1 w.params, en2 w.params, en3 w.params, en4 w.params, en5 w.params] 6) (tk + 4)) :=
  (set_new (h := reduceHash (hi5 w.params)) (ru w b o os _ (tk + 4) ps) (hash_tup (ru w b o os _ (tk + 4) ps) (ro5 w b o os _ tk ps) (sp5 w b o os _ tk ps) (ca5 w b o os _ tk ps)) (fi5 w b o os (tk + 4) ps _) (up5 w b o os (tk + 4) ps (en0 w.params) (en1 w.params) (en2 w.params) (en3 w.params) (en4 w.params) (en5 w.params))).more (by decide)
theorem fi6 (h : Int) : Rn p (wf w b) 11 ann cd B 797 (dictFind 274 (.ref 281) h) ps (S o os (Dd #[en0 w.params, en1 w.params, en2 w.params, en3 w.params, en4 w.params, en5 w.params] 6) tk) none ps (S o os (Dd #[en0 w.params, en1 w.params, en2 w.params, en3 w.params, en4 w.params, en5 w.params] 6) tk) := by
  refine find_none (m := 26) (L := 14) (es := #[en0 w.params, en1 w.params, en2 w.params, en3 w.params, en4 w.params, en5 w.params]) (Nat.le_of_ble_eq_true rfl) (ru w b o os _ tk ps) (den w b o os tk ps _ _) (dep w b o os tk ps _ _) ((qu6 w b o os _ tk ps).more (by decide)) ?_
  refine List.forall_mem_cons.mpr ⟨⟨⟨275, rfl, by decide⟩, (qu0 w b o os _ tk ps).more (by decide), (eq0_6 w b o os _ tk ps).more (by decide)⟩, ?_⟩
  refine List.forall_mem_cons.mpr ⟨⟨⟨276, rfl, by decide⟩, (qu1 w b o os _ tk ps).more (by decide), (eq1_6 w b o os _ tk ps).more (by decide)⟩, ?_⟩
  refine List.forall_mem_cons.mpr ⟨⟨⟨277, rfl, by decide⟩, (qu2 w b o os _ tk ps).more (by decide), (eq2_6 w b o os _ tk ps).more (by decide)⟩, ?_⟩
  refine List.forall_mem_cons.mpr ⟨⟨⟨278, rfl, by decide⟩, (qu3 w b o os _ tk ps).more (by decide), (eq3_6 w b o os _ tk ps).more (by decide)⟩, ?_⟩
  refine List.forall_mem_cons.mpr ⟨⟨⟨279, rfl, by decide⟩, (qu4 w b o os _ tk ps).more (by decide), (eq4_6 w b o os _ tk ps).more (by decide)⟩, ?_⟩
  refine List.forall_mem_cons.mpr ⟨⟨⟨280, rfl, by decide⟩, (qu5 w b o os _ tk ps).more (by decide), (eq5_6 w b o os _ tk ps).more (by decide)⟩, ?_⟩
  exact List.forall_mem_nil _
theorem se6 : Rn p (wf w b) 11 ann cd B 834 (dictSet 274 (.ref 281) (.str "shut" 625)) ps (S o os (Dd #[en0 w.params, en1 w.params, en2 w.params, en3 w.params, en4 w.params, en5 w.params] 6) tk) () ps (S o os (Dd #[en0 w.params, en1 w.params, en2 w.params, en3 w.params, en4 w.params, en5 w.params, en6 w.params] 7) (tk + 4)) :=
  (set_new (h := reduceHash (hi6 w.params)) (ru w b o os _ (tk + 4) ps) (hash_tup (ru w b o os _ (tk + 4) ps) (ro6 w b o os _ tk ps) (sp6 w b o os _ tk ps) (ca6 w b o os _ tk ps)) (fi6 w b o os (tk + 4) ps _) (up6 w b o os (tk + 4) ps (en0 w.params) (en1 w.params) (en2 w.params) (en3 w.params) (en4 w.params) (en5 w.params) (en6 w.params))).more (by decide)
theorem fi7 (h : Int) : Rn p (wf w b) 11 ann cd B 797 (dictFind 274 (.ref 282) h) ps (S o os (Dd #[en0 w.params, en1 w.params, en2 w.params, en3 w.params, en4 w.params, en5 w.params, en6 w.params] 7) tk) none ps (S o os (Dd #[en0 w.params, en1 w.params, en2 w.params, en3 w.params, en4 w.params, en5 w.params, en6 w.params] 7) tk) := by
  refine find_none (m := 26) (L := 14) (es := #[en0 w.params, en1 w.params, en2 w.params, en3 w.params, en4 w.params, en5 w.params, en6 w.params]) (Nat.le_of_ble_eq_true rfl) (ru w b o os _ tk ps) (den w b o os tk ps _ _) (dep w b o os tk ps _ _) ((qu7 w b o os _ tk ps).more (by decide)) ?_
  refine List.forall_mem_cons.mpr ⟨⟨⟨275, rfl, by decide⟩, (qu0 w b o os _ tk ps).more (by decide), (eq0_7 w b o os _ tk ps).more (by decide)⟩, ?_⟩
  refine List.forall_mem_cons.mpr ⟨⟨⟨276, rfl, by decide⟩, (qu1 w b o os _ tk ps).more (by decide), (eq1_7 w b o os _ tk ps).more (by decide)⟩, ?_⟩
  refine List.forall_mem_cons.mpr ⟨⟨⟨277, rfl, by decide⟩, (qu2 w b o os _ tk ps).more (by decide), (eq2_7 w b o os _ tk ps).more (by decide)⟩, ?_⟩
  refine List.forall_mem_cons.mpr ⟨⟨⟨278, rfl, by decide⟩, (qu3 w b o os _ tk ps).more (by decide), (eq3_7 w b o os _ tk ps).more (by decide)⟩, ?_⟩
  refine List.forall_mem_cons.mpr ⟨⟨⟨279, rfl, by decide⟩, (qu4 w b o os _ tk ps).more (by decide), (eq4_7 w b o os _ tk ps).more (by decide)⟩, ?_⟩
  refine List.forall_mem_cons.mpr ⟨⟨⟨280, rfl, by decide⟩, (qu5 w b o os _ tk ps).more (by decide), (eq5_7 w b o os _ tk ps).more (by decide)⟩, ?_⟩
  refine List.forall_mem_cons.mpr ⟨⟨⟨281, rfl, by decide⟩, (qu6 w b o os _ tk ps).more (by decide), (eq6_7 w b o os _ tk ps).more (by decide)⟩, ?_⟩
  exact List.forall_mem_nil _
theorem se7 : Rn p (wf w b) 11 ann cd B 832 (dictSet 274 (.ref 282) (.str "called" 628)) ps (S o os (Dd #[en0 w.params, en1 w.params, en2 w.params, en3 w.params, en4 w.params, en5 w.params, en6 w.params] 7) tk) () ps (S o os (Dd #[en0 w.params, en1 w.params, en2 w.params, en3 w.params, en4 w.params, en5 w.params, en6 w.params, en7 w.params] 8) (tk + 4)) :=
  (set_new (h := reduceHash (hi7 w.params)) (ru w b o os _ (tk + 4) ps) (hash_tup (ru w b o os _ (tk + 4) ps) (ro7 w b o os _ tk ps) (sp7 w b o os _ tk ps) (ca7 w b o os _ tk ps)) (fi7 w b o os (tk + 4) ps _) (up7 w b o os (tk + 4) ps (en0 w.params) (en1 w.params) (en2 w.params) (en3 w.params) (en4 w.params) (en5 w.params) (en6 w.params) (en7 w.params))).more (by decide)
theorem fi8 (h : Int) : Rn p (wf w b) 11 ann cd B 797 (dictFind 274 (.ref 283) h) ps (S o os (Dd #[en0 w.params, en1 w.params, en2 w.params, en3 w.params, en4 w.params, en5 w.params, en6 w.params, en7 w.params] 8) tk) none ps (S o os (Dd #[en0 w.params, en1 w.params, en2 w.params, en3 w.params, en4 w.params, en5 w.params, en6 w.params, en7 w.params] 8) tk) := by
  refine find_none (m := 26) (L := 14) (es := #[en0 w.params, en1 w.params, en2 w.params, en3 w.params, en4 w.params, en5 w.params, en6 w.params, en7 w.params]) (Nat.le_of_ble_eq_true rfl) (ru w b o os _ tk ps) (den w b o os tk ps _ _) (dep w b o os tk ps _ _) ((qu8 w b o os _ tk ps).more (by decide)) ?_
  refine List.forall_mem_cons.mpr ⟨⟨⟨275, rfl, by decide⟩, (qu0 w b o os _ tk ps).more (by decide), (eq0_8 w b o os _ tk ps).more (by decide)⟩, ?_⟩
  refine List.forall_mem_cons.mpr ⟨⟨⟨276, rfl, by decide⟩, (qu1 w b o os _ tk ps).more (by decide), (eq1_8 w b o os _ tk ps).more (by decide)⟩, ?_⟩
  refine List.forall_mem_cons.mpr ⟨⟨⟨277, rfl, by decide⟩, (qu2 w b o os _ tk ps).more (by decide), (eq2_8 w b o os _ tk ps).more (by decide)⟩, ?_⟩
  refine List.forall_mem_cons.mpr ⟨⟨⟨278, rfl, by decide⟩, (qu3 w b o os _ tk ps).more (by decide), (eq3_8 w b o os _ tk ps).more (by decide)⟩, ?_⟩
  refine List.forall_mem_cons.mpr ⟨⟨⟨279, rfl, by decide⟩, (qu4 w b o os _ tk ps).more (by decide), (eq4_8 w b o os _ tk ps).more (by decide)⟩, ?_⟩
  refine List.forall_mem_cons.mpr ⟨⟨⟨280, rfl, by decide⟩, (qu5 w b o os _ tk ps).more (by decide), (eq5_8 w b o os _ tk ps).more (by decide)⟩, ?_⟩
  refine List.forall_mem_cons.mpr ⟨⟨⟨281, rfl, by decide⟩, (qu6 w b o os _ tk ps).more (by decide), (eq6_8 w b o os _ tk ps).more (by decide)⟩, ?_⟩
  refine List.forall_mem_cons.mpr ⟨⟨⟨282, rfl, by decide⟩, (qu7 w b o os _ tk ps).more (by decide), (eq7_8 w b o os _ tk ps).more (by decide)⟩, ?_⟩
  exact List.forall_mem_nil _
theorem se8 : Rn p (wf w b) 11 ann cd B 834 (dictSet 274 (.ref 283) (.str "called" 632)) ps (S o os (Dd #[en0 w.params, en1 w.params, en2 w.params, en3 w.params, en4 w.params, en5 w.params, en6 w.params, en7 w.params] 8) tk) () ps (S o os (Dd #[en0 w.params, en1 w.params, en2 w.params, en3 w.params, en4 w.params, en5 w.params, en6 w.params, en7 w.params, en8 w.params] 9) (tk + 4)) :=
  (set_new (h := reduceHash (hi8 w.params)) (ru w b o os _ (tk + 4) ps) (hash_tup (ru w b o os _ (tk + 4) ps) (ro8 w b o os _ tk ps) (sp8 w b o os _ tk ps) (ca8 w b o os _ tk ps)) (fi8 w b o os (tk + 4) ps _) (up8 w b o os (tk + 4) ps (en0 w.params) (en1 w.params) (en2 w.params) (en3 w.params) (en4 w.params) (en5 w.params) (en6 w.params) (en7 w.params) (en8 w.params))).more (by decide)
theorem fi9 (h : Int) : Rn p (wf w b) 11 ann cd B 797 (dictFind 274 (.ref 284) h) ps (S o os (Dd #[en0 w.params, en1 w.params, en2 w.params, en3 w.params, en4 w.params, en5 w.params, en6 w.params, en7 w.params, en8 w.params] 9) tk) none ps (S o os (Dd #[en0 w.params, en1 w.params, en2 w.params, en3 w.params, en4 w.params, en5 w.params, en6 w.params, en7 w.params, en8 w.params] 9) tk) := by
  refine find_none (m := 26) (L := 14) (es := #[en0 w.params, en1 w.params, en2 w.params, en3 w.params, en4 w.params, en5 w.params, en6 w.params, en7 w.params, en8 w.params]) (Nat.le_of_ble_eq_true rfl) (ru w b o os _ tk ps) (den w b o os tk ps _ _) (dep w b o os tk ps _ _) ((qu9 w b o os _ tk ps).more (by decide)) ?_
  refine List.forall_mem_cons.mpr ⟨⟨⟨275, rfl, by decide⟩, (qu0 w b o os _ tk ps).more (by decide), (eq0_9 w b o os _ tk ps).more (by decide)⟩, ?_⟩
  refine List.forall_mem_cons.mpr ⟨⟨⟨276, rfl, by decide⟩, (qu1 w b o os _ tk ps).more (by decide), (eq1_9 w b o os _ tk ps).more (by decide)⟩, ?_⟩
  refine List.forall_mem_cons.mpr ⟨⟨⟨277, rfl, by decide⟩, (qu2 w b o os _ tk ps).more (by decide), (eq2_9 w b o os _ tk ps).more (by decide)⟩, ?_⟩
  refine List.forall_mem_cons.mpr ⟨⟨⟨278, rfl, by decide⟩, (qu3 w b o os _ tk ps).more (by decide), (eq3_9 w b o os _ tk ps).more (by decide)⟩, ?_⟩
  refine List.forall_mem_cons.mpr ⟨⟨⟨279, rfl, by decide⟩, (qu4 w b o os _ tk ps).more (by decide), (eq4_9 w b o os _ tk ps).more (by decide)⟩, ?_⟩
  refine List.forall_mem_cons.mpr ⟨⟨⟨280, rfl, by decide⟩, (qu5 w b o os _ tk ps).more (by decide), (eq5_9 w b o os _ tk ps).more (by decide)⟩, ?_⟩
  refine List.forall_mem_cons.mpr ⟨⟨⟨281, rfl, by decide⟩, (qu6 w b o os _ tk ps).more (by decide), (eq6_9 w b o os _ tk ps).more (by decide)⟩, ?_⟩
  refine List.forall_mem_cons.mpr ⟨⟨⟨282, rfl, by decide⟩, (qu7 w b o os _ tk ps).more (by decide), (eq7_9 w b o os _ tk ps).more (by decide)⟩, ?_⟩
  refine List.forall_mem_cons.mpr ⟨⟨⟨283, rfl, by decide⟩, (qu8 w b o os _ tk ps).more (by decide), (eq8_9 w b o os _ tk ps).more (by decide)⟩, ?_⟩
  exact List.forall_mem_nil _
theorem se9 : Rn p (wf w b) 11 ann cd B 834 (dictSet 274 (.ref 284) (.str "up" 636)) ps (S o os (Dd #[en0 w.params, en1 w.params, en2 w.params, en3 w.params, en4 w.params, en5 w.params, en6 w.params, en7 w.params, en8 w.params] 9) tk) () ps (S o os (Dd #[en0 w.params, en1 w.params, en2 w.params, en3 w.params, en4 w.params, en5 w.params, en6 w.params, en7 w.params, en8 w.params, en9 w.params] 10) (tk + 4)) :=
  (set_new (h := reduceHash (hi9 w.params)) (ru w b o os _ (tk + 4) ps) (hash_tup (ru w b o os _ (tk + 4) ps) (ro9 w b o os _ tk ps) (sp9 w b o os _ tk ps) (ca9 w b o os _ tk ps)) (fi9 w b o os (tk + 4) ps _) (up9 w b o os (tk + 4) ps (en0 w.params) (en1 w.params) (en2 w.params) (en3 w.params) (en4 w.params) (en5 w.params) (en6 w.params) (en7 w.params) (en8 w.params) (en9 w.params))).more (by decide)
theorem fi10 (h : Int) : Rn p (wf w b) 11 ann cd B 797 (dictFind 274 (.ref 285) h) ps (S o os (Dd #[en0 w.params, en1 w.params, en2 w.params, en3 w.params, en4 w.params, en5 w.params, en6 w.params, en7 w.params, en8 w.params, en9 w.params] 10) tk) none ps (S o os (Dd #[en0 w.params, en1 w.params, en2 w.params, en3 w.params, en4 w.params, en5 w.params, en6 w.params, en7 w.params, en8 w.params, en9 w.params] 10) tk) := by
  refine find_none (m := 26) (L := 14) (es := #[en0 w.params, en1 w.params, en2 w.params, en3 w.params, en4 w.params, en5 w.params, en6 w.params, en7 w.params, en8 w.params, en9 w.params]) (Nat.le_of_ble_eq_true rfl) (ru w b o os _ tk ps) (den w b o os tk ps _ _) (dep w b o os tk ps _ _) ((qu10 w b o os _ tk ps).more (by decide)) ?_
  refine List.forall_mem_cons.mpr ⟨⟨⟨275, rfl, by decide⟩, (qu0 w b o os _ tk ps).more (by decide), (eq0_10 w b o os _ tk ps).more (by decide)⟩, ?_⟩
  refine List.forall_mem_cons.mpr ⟨⟨⟨276, rfl, by decide⟩, (qu1 w b o os _ tk ps).more (by decide), (eq1_10 w b o os _ tk ps).more (by decide)⟩, ?_⟩
  refine List.forall_mem_cons.mpr ⟨⟨⟨277, rfl, by decide⟩, (qu2 w b o os _ tk ps).more (by decide), (eq2_10 w b o os _ tk ps).more (by decide)⟩, ?_⟩
  refine List.forall_mem_cons.mpr ⟨⟨⟨278, rfl, by decide⟩, (qu3 w b o os _ tk ps).more (by decide), (eq3_10 w b o os _ tk ps).more (by decide)⟩, ?_⟩
  refine List.forall_mem_cons.mpr ⟨⟨⟨279, rfl, by decide⟩, (qu4 w b o os _ tk ps).more (by decide), (eq4_10 w b o os _ tk ps).more (by decide)⟩, ?_⟩
  refine List.forall_mem_cons.mpr ⟨⟨⟨280, rfl, by decide⟩, (qu5 w b o os _ tk ps).more (by decide), (eq5_10 w b o os _ tk ps).more (by decide)⟩, ?_⟩
  refine List.forall_mem_cons.mpr ⟨⟨⟨281, rfl, by decide⟩, (qu6 w b o os _ tk ps).more (by decide), (eq6_10 w b o os _ tk ps).more (by decide)⟩, ?_⟩
  refine List.forall_mem_cons.mpr ⟨⟨⟨282, rfl, by decide⟩, (qu7 w b o os _ tk ps).more (by decide), (eq7_10 w b o os _ tk ps).more (by decide)⟩, ?_⟩
  refine List.forall_mem_cons.mpr ⟨⟨⟨283, rfl, by decide⟩, (qu8 w b o os _ tk ps).more (by decide), (eq8_10 w b o os _ tk ps).more (by decide)⟩, ?_⟩
  refine List.forall_mem_cons.mpr ⟨⟨⟨284, rfl, by decide⟩, (qu9 w b o os _ tk ps).more (by decide), (eq9_10 w b o os _ tk ps).more (by decide)⟩, ?_⟩
  exact List.forall_mem_nil _
theorem se10 : Rn p (wf w b) 11 ann cd B 834 (dictSet 274 (.ref 285) (.str "up" 640)) ps (S o os (Dd #[en0 w.params, en1 w.params, en2 w.params, en3 w.params, en4 w.params, en5 w.params, en6 w.params, en7 w.params, en8 w.params, en9 w.params] 10) tk) () ps (S o os (Dd #[en0 w.params, en1 w.params, en2 w.params, en3 w.params, en4 w.params, en5 w.params, en6 w.params, en7 w.params, en8 w.params, en9 w.params, en10 w.params] 11) (tk + 4)) :=
  (set_new (h := reduceHash (hi10 w.params)) (ru w b o os _ (tk + 4) ps) (hash_tup (ru w b o os _ (tk + 4) ps) (ro10 w b o os _ tk ps) (sp10 w b o os _ tk ps) (ca10 w b o os _ tk ps)) (fi10 w b o os (tk + 4) ps _) (up10 w b o os (tk + 4) ps (en0 w.params) (en1 w.params) (en2 w.params) (en3 w.params) (en4 w.params) (en5 w.params) (en6 w.params) (en7 w.params) (en8 w.params) (en9 w.params) (en10 w.params))).more (by decide)
theorem fi11 (h : Int) : Rn p (wf w b) 11 ann cd B 797 (dictFind 274 (.ref 286) h) ps (S o os (Dd #[en0 w.params, en1 w.params, en2 w.params, en3 w.params, en4 w.params, en5 w.params, en6 w.params, en7 w.params, en8 w.params, en9 w.params, en10 w.params] 11) tk) none ps (S o os (Dd #[en0 w.params, en1 w.params, en2 w.params, en3 w.params, en4 w.params, en5 w.params, en6 w.params, en7 w.params, en8 w.params, en9 w.params, en10 w.params] 11) tk) := by
  refine find_none (m := 26) (L := 14) (es := #[en0 w.params, en1 w.params, en2 w.params, en3 w.params, en4 w.params, en5 w.params, en6 w.params, en7 w.params, en8 w.params, en9 w.params, en10 w.params]) (Nat.le_of_ble_eq_true rfl) (ru w b o os _ tk ps) (den w b o os tk ps _ _) (dep w b o os tk ps _ _) ((qu11 w b o os _ tk ps).more (by decide)) ?_
  refine List.forall_mem_cons.mpr ⟨⟨⟨275, rfl, by decide⟩, (qu0 w b o os _ tk ps).more (by decide), (eq0_11 w b o os _ tk ps).more (by decide)⟩, ?_⟩
  refine List.forall_mem_cons.mpr ⟨⟨⟨276, rfl, by decide⟩, (qu1 w b o os _ tk ps).more (by decide), (eq1_11 w b o os _ tk ps).more (by decide)⟩, ?_⟩
  refine List.forall_mem_cons.mpr ⟨⟨⟨277, rfl, by decide⟩, (qu2 w b o os _ tk ps).more (by decide), (eq2_11 w b o os _ tk ps).more (by decide)⟩, ?_⟩
  refine List.forall_mem_cons.mpr ⟨⟨⟨278, rfl, by decide⟩, (qu3 w b o os _ tk ps).more (by decide), (eq3_11 w b o os _ tk ps).more (by decide)⟩, ?_⟩
  refine List.forall_mem_cons.mpr ⟨⟨⟨279, rfl, by decide⟩, (qu4 w b o os _ tk ps).more (by decide), (eq4_11 w b o os _ tk ps).more (by decide)⟩, ?_⟩
  refine List.forall_mem_cons.mpr ⟨⟨⟨280, rfl, by decide⟩, (qu5 w b o os _ tk ps).more (by decide), (eq5_11 w b o os _ tk ps).more (by decide)⟩, ?_⟩
  refine List.forall_mem_cons.mpr ⟨⟨⟨281, rfl, by decide⟩, (qu6 w b o os _ tk ps).more (by decide), (eq6_11 w b o os _ tk ps).more (by decide)⟩, ?_⟩
  refine List.forall_mem_cons.mpr ⟨⟨⟨282, rfl, by decide⟩, (qu7 w b o os _ tk ps).more (by decide), (eq7_11 w b o os _ tk ps).more (by decide)⟩, ?_⟩
  refine List.forall_mem_cons.mpr ⟨⟨⟨283, rfl, by decide⟩, (qu8 w b o os _ tk ps).more (by decide), (eq8_11 w b o os _ tk ps).more (by decide)⟩, ?_⟩
  refine List.forall_mem_cons.mpr ⟨⟨⟨284, rfl, by decide⟩, (qu9 w b o os _ tk ps).more (by decide), (eq9_11 w b o os _ tk ps).more (by decide)⟩, ?_⟩
  refine List.forall_mem_cons.mpr ⟨⟨⟨285, rfl, by decide⟩, (qu10 w b o os _ tk ps).more (by decide), (eq10_11 w b o os _ tk ps).more (by decide)⟩, ?_⟩
  exact List.forall_mem_nil _
theorem se11 : Rn p (wf w b) 11 ann cd B 834 (dictSet 274 (.ref 286) (.str "near" 644)) ps (S o os (Dd #[en0 w.params, en1 w.params, en2 w.params, en3 w.params, en4 w.params, en5 w.params, en6 w.params, en7 w.params, en8 w.params, en9 w.params, en10 w.params] 11) tk) () ps (S o os (Dd #[en0 w.params, en1 w.params, en2 w.params, en3 w.params, en4 w.params, en5 w.params, en6 w.params, en7 w.params, en8 w.params, en9 w.params, en10 w.params, en11 w.params] 12) (tk + 4)) :=
  (set_new (h := reduceHash (hi11 w.params)) (ru w b o os _ (tk + 4) ps) (hash_tup (ru w b o os _ (tk + 4) ps) (ro11 w b o os _ tk ps) (sp11 w b o os _ tk ps) (ca11 w b o os _ tk ps)) (fi11 w b o os (tk + 4) ps _) (up11 w b o os (tk + 4) ps (en0 w.params) (en1 w.params) (en2 w.params) (en3 w.params) (en4 w.params) (en5 w.params) (en6 w.params) (en7 w.params) (en8 w.params) (en9 w.params) (en10 w.params) (en11 w.params))).more (by decide)
theorem fi12 (h : Int) : Rn p (wf w b) 11 ann cd B 797 (dictFind 274 (.ref 287) h) ps (S o os (Dd #[en0 w.params, en1 w.params, en2 w.params, en3 w.params, en4 w.params, en5 w.params, en6 w.params, en7 w.params, en8 w.params, en9 w.params, en10 w.params, en11 w.params] 12) tk) none ps (S o os (Dd #[en0 w.params, en1 w.params, en2 w.params, en3 w.params, en4 w.params, en5 w.params, en6 w.params, en7 w.params, en8 w.params, en9 w.params, en10 w.params, en11 w.params] 12) tk) := by
  refine find_none (m := 26) (L := 14) (es := #[en0 w.params, en1 w.params, en2 w.params, en3 w.params, en4 w.params, en5 w.params, en6 w.params, en7 w.params, en8 w.params, en9 w.params, en10 w.params, en11 w.params]) (Nat.le_of_ble_eq_true rfl) (ru w b o os _ tk ps) (den w b o os tk ps _ _) (dep w b o os tk ps _ _) ((qu12 w b o os _ tk ps).more (by decide)) ?_
  refine List.forall_mem_cons.mpr ⟨⟨⟨275, rfl, by decide⟩, (qu0 w b o os _ tk ps).more (by decide), (eq0_12 w b o os _ tk ps).more (by decide)⟩, ?_⟩
  refine List.forall_mem_cons.mpr ⟨⟨⟨276, rfl, by decide⟩, (qu1 w b o os _ tk ps).more (by decide), (eq1_12 w b o os _ tk ps).more (by decide)⟩, ?_⟩
  refine List.forall_mem_cons.mpr ⟨⟨⟨277, rfl, by decide⟩, (qu2 w b o os _ tk ps).more (by decide), (eq2_12 w b o os _ tk ps).more (by decide)⟩, ?_⟩
  refine List.forall_mem_cons.mpr ⟨⟨⟨278, rfl, by decide⟩, (qu3 w b o os _ tk ps).more (by decide), (eq3_12 w b o os _ tk ps).more (by decide)⟩, ?_⟩
  refine List.forall_mem_cons.mpr ⟨⟨⟨279, rfl, by decide⟩, (qu4 w b o os _ tk ps).more (by decide), (eq4_12 w b o os _ tk ps).more (by decide)⟩, ?_⟩
  refine List.forall_mem_cons.mpr ⟨⟨⟨280, rfl, by decide⟩, (qu5 w b o os _ tk ps).more (by decide), (eq5_12 w b o os _ tk ps).more (by decide)⟩, ?_⟩
  refine List.forall_mem_cons.mpr ⟨⟨⟨281, rfl, by decide⟩, (qu6 w b o os _ tk ps).more (by decide), (eq6_12 w b o os _ tk ps).more (by decide)⟩, ?_⟩
  refine List.forall_mem_cons.mpr ⟨⟨⟨282, rfl, by decide⟩, (qu7 w b o os _ tk ps).more (by decide), (eq7_12 w b o os _ tk ps).more (by decide)⟩, ?_⟩
  refine List.forall_mem_cons.mpr ⟨⟨⟨283, rfl, by decide⟩, (qu8 w b o os _ tk ps).more (by decide), (eq8_12 w b o os _ tk ps).more (by decide)⟩, ?_⟩
  refine List.forall_mem_cons.mpr ⟨⟨⟨284, rfl, by decide⟩, (qu9 w b o os _ tk ps).more (by decide), (eq9_12 w b o os _ tk ps).more (by decide)⟩, ?_⟩
  refine List.forall_mem_cons.mpr ⟨⟨⟨285, rfl, by decide⟩, (qu10 w b o os _ tk ps).more (by decide), (eq10_12 w b o os _ tk ps).more (by decide)⟩, ?_⟩
  refine List.forall_mem_cons.mpr ⟨⟨⟨286, rfl, by decide⟩, (qu11 w b o os _ tk ps).more (by decide), (eq11_12 w b o os _ tk ps).more (by decide)⟩, ?_⟩
  exact List.forall_mem_nil _
theorem se12 : Rn p (wf w b) 11 ann cd B 834 (dictSet 274 (.ref 287) (.str "far" 648)) ps (S o os (Dd #[en0 w.params, en1 w.params, en2 w.params, en3 w.params, en4 w.params, en5 w.params, en6 w.params, en7 w.params, en8 w.params, en9 w.params, en10 w.params, en11 w.params] 12) tk) () ps (S o os (Dd #[en0 w.params, en1 w.params, en2 w.params, en3 w.params, en4 w.params, en5 w.params, en6 w.params, en7 w.params, en8 w.params, en9 w.params, en10 w.params, en11 w.params, en12 w.params] 13) (tk + 4)) :=
  (set_new (h := reduceHash (hi12 w.params)) (ru w b o os _ (tk + 4) ps) (hash_tup (ru w b o os _ (tk + 4) ps) (ro12 w b o os _ tk ps) (sp12 w b o os _ tk ps) (ca12 w b o os _ tk ps)) (fi12 w b o os (tk + 4) ps _) (up12 w b o os (tk + 4) ps (en0 w.params) (en1 w.params) (en2 w.params) (en3 w.params) (en4 w.params) (en5 w.params) (en6 w.params) (en7 w.params) (en8 w.params) (en9 w.params) (en10 w.params) (en11 w.params) (en12 w.params))).more (by decide)
theorem fi13 (h : Int) : Rn p (wf w b) 11 ann cd B 797 (dictFind 274 (.ref 288) h) ps (S o os (Dd #[en0 w.params, en1 w.params, en2 w.params, en3 w.params, en4 w.params, en5 w.params, en6 w.params, en7 w.params, en8 w.params, en9 w.params, en10 w.params, en11 w.params, en12 w.params] 13) tk) none ps (S o os (Dd #[en0 w.params, en1 w.params, en2 w.params, en3 w.params, en4 w.params, en5 w.params, en6 w.params, en7 w.params, en8 w.params, en9 w.params, en10 w.params, en11 w.params, en12 w.params] 13) tk) := by
  refine find_none (m := 26) (L := 14) (es := #[en0 w.params, en1 w.params, en2 w.params, en3 w.params, en4 w.params, en5 w.params, en6 w.params, en7 w.params, en8 w.params, en9 w.params, en10 w.params, en11 w.params, en12 w.params]) (Nat.le_of_ble_eq_true rfl) (ru w b o os _ tk ps) (den w b o os tk ps _ _) (dep w b o os tk ps _ _) ((qu13 w b o os _ tk ps).more (by decide)) ?_
  refine List.forall_mem_cons.mpr ⟨⟨⟨275, rfl, by decide⟩, (qu0 w b o os _ tk ps).more (by decide), (eq0_13 w b o os _ tk ps).more (by decide)⟩, ?_⟩
  refine List.forall_mem_cons.mpr ⟨⟨⟨276, rfl, by decide⟩, (qu1 w b o os _ tk ps).more (by decide), (eq1_13 w b o os _ tk ps).more (by decide)⟩, ?_⟩
  refine List.forall_mem_cons.mpr ⟨⟨⟨277, rfl, by decide⟩, (qu2 w b o os _ tk ps).more (by decide), (eq2_13 w b o os _ tk ps).more (by decide)⟩, ?_⟩
  refine List.forall_mem_cons.mpr ⟨⟨⟨278, rfl, by decide⟩, (qu3 w b o os _ tk ps).more (by decide), (eq3_13 w b o os _ tk ps).more (by decide)⟩, ?_⟩
  refine List.forall_mem_cons.mpr ⟨⟨⟨279, rfl, by decide⟩, (qu4 w b o os _ tk ps).more (by decide), (eq4_13 w b o os _ tk ps).more (by decide)⟩, ?_⟩
  refine List.forall_mem_cons.mpr ⟨⟨⟨280, rfl, by decide⟩, (qu5 w b o os _ tk ps).more (by decide), (eq5_13 w b o os _ tk ps).more (by decide)⟩, ?_⟩
  refine List.forall_mem_cons.mpr ⟨⟨⟨281, rfl, by decide⟩, (qu6 w b o os _ tk ps).more (by decide), (eq6_13 w b o os _ tk ps).more (by decide)⟩, ?_⟩
  refine List.forall_mem_cons.mpr ⟨⟨⟨282, rfl, by decide⟩, (qu7 w b o os _ tk ps).more (by decide), (eq7_13 w b o os _ tk ps).more (by decide)⟩, ?_⟩
  refine List.forall_mem_cons.mpr ⟨⟨⟨283, rfl, by decide⟩, (qu8 w b o os _ tk ps).more (by decide), (eq8_13 w b o os _ tk ps).more (by decide)⟩, ?_⟩
  refine List.forall_mem_cons.mpr ⟨⟨⟨284, rfl, by decide⟩, (qu9 w b o os _ tk ps).more (by decide), (eq9_13 w b o os _ tk ps).more (by decide)⟩, ?_⟩
  refine List.forall_mem_cons.mpr ⟨⟨⟨285, rfl, by decide⟩, (qu10 w b o os _ tk ps).more (by decide), (eq10_13 w b o os _ tk ps).more (by decide)⟩, ?_⟩
  refine List.forall_mem_cons.mpr ⟨⟨⟨286, rfl, by decide⟩, (qu11 w b o os _ tk ps).more (by decide), (eq11_13 w b o os _ tk ps).more (by decide)⟩, ?_⟩
  refine List.forall_mem_cons.mpr ⟨⟨⟨287, rfl, by decide⟩, (qu12 w b o os _ tk ps).more (by decide), (eq12_13 w b o os _ tk ps).more (by decide)⟩, ?_⟩
  exact List.forall_mem_nil _
theorem se13 : Rn p (wf w b) 11 ann cd B 834 (dictSet 274 (.ref 288) (.str "shut" 652)) ps (S o os (Dd #[en0 w.params, en1 w.params, en2 w.params, en3 w.params, en4 w.params, en5 w.params, en6 w.params, en7 w.params, en8 w.params, en9 w.params, en10 w.params, en11 w.params, en12 w.params] 13) tk) () ps (S o os (Dd #[en0 w.params, en1 w.params, en2 w.params, en3 w.params, en4 w.params, en5 w.params, en6 w.params, en7 w.params, en8 w.params, en9 w.params, en10 w.params, en11 w.params, en12 w.params, en13 w.params] 14) (tk + 4)) :=
  (set_new (h := reduceHash (hi13 w.params)) (ru w b o os _ (tk + 4) ps) (hash_tup (ru w b o os _ (tk + 4) ps) (ro13 w b o os _ tk ps) (sp13 w b o os _ tk ps) (ca13 w b o os _ tk ps)) (fi13 w b o os (tk + 4) ps _) (up13 w b o os (tk + 4) ps (en0 w.params) (en1 w.params) (en2 w.params) (en3 w.params) (en4 w.params) (en5 w.params) (en6 w.params) (en7 w.params) (en8 w.params) (en9 w.params) (en10 w.params) (en11 w.params) (en12 w.params) (en13 w.params))).more (by decide)
end
def vs : List (Value × Value) := [(.ref 275, .str "asked" 601), (.ref 276, .str "asked" 605), (.ref 277, .str "up" 609), (.ref 278, .str "up" 613), (.ref 279, .str "far" 617), (.ref 280, .str "near" 621), (.ref 281, .str "shut" 625), (.ref 282, .str "called" 628), (.ref 283, .str "called" 632), (.ref 284, .str "up" 636), (.ref 285, .str "up" 640), (.ref 286, .str "near" 644), (.ref 287, .str "far" 648), (.ref 288, .str "shut" 652)]
def DD (P : Params) : Obj := Dd #[en0 P, en1 P, en2 P, en3 P, en4 P, en5 P, en6 P, en7 P, en8 P, en9 P, en10 P, en11 P, en12 P, en13 P] 14
theorem loop_all (w : World) (b : Bool) (o : Nat → Obj) (os : OsState) (tk : Nat) (ps : Pos) {f : Value × Value → Unit → Sem (ForInStep Unit)} (hf : ∀ k v, f (k, v) () = (do dictSet 274 k v; pure (.yield ()))) :
    Rn p (wf w b) 11 ann cd B 11672 (forIn vs () f) ps (S o os (Dd #[] 0) tk) () ps (S o os (DD w.params) (tk + 56)) := by
  unfold vs
  refine Rn.more (m1 := 832 + 10840) (rn_turn (rn_eq (hf _ _) ((rn_bind (m2 := 0) (se0 w b o os tk ps) rn_pure))) ?_) (by decide)
  refine Rn.more (m1 := 834 + 10006) (rn_turn (rn_eq (hf _ _) ((rn_bind (m2 := 0) (se1 w b o os (tk + 4) ps) rn_pure))) ?_) (by decide)
  refine Rn.more (m1 := 834 + 9172) (rn_turn (rn_eq (hf _ _) ((rn_bind (m2 := 0) (se2 w b o os ((tk + 4) + 4) ps) rn_pure))) ?_) (by decide)
  refine Rn.more (m1 := 834 + 8338) (rn_turn (rn_eq (hf _ _) ((rn_bind (m2 := 0) (se3 w b o os (((tk + 4) + 4) + 4) ps) rn_pure))) ?_) (by decide)
  refine Rn.more (m1 := 834 + 7504) (rn_turn (rn_eq (hf _ _) ((rn_bind (m2 := 0) (se4 w b o os ((((tk + 4) + 4) + 4) + 4) ps) rn_pure))) ?_) (by decide)
  refine Rn.more (m1 := 834 + 6670) (rn_turn (rn_eq (hf _ _) ((rn_bind (m2 := 0) (se5 w b o os (((((tk + 4) + 4) + 4) + 4) + 4) ps) rn_pure))) ?_) (by decide)
  refine Rn.more (m1 := 834 + 5836) (rn_turn (rn_eq (hf _ _) ((rn_bind (m2 := 0) (se6 w b o os ((((((tk + 4) + 4) + 4) + 4) + 4) + 4) ps) rn_pure))) ?_) (by decide)
  refine Rn.more (m1 := 832 + 5004) (rn_turn (rn_eq (hf _ _) ((rn_bind (m2 := 0) (se7 w b o os (((((((tk + 4) + 4) + 4) + 4) + 4) + 4) + 4) ps) rn_pure))) ?_) (by decide)
  refine Rn.more (m1 := 834 + 4170) (rn_turn (rn_eq (hf _ _) ((rn_bind (m2 := 0) (se8 w b o os ((((((((tk + 4) + 4) + 4) + 4) + 4) + 4) + 4) + 4) ps) rn_pure))) ?_) (by decide)
  refine Rn.more (m1 := 834 + 3336) (rn_turn (rn_eq (hf _ _) ((rn_bind (m2 := 0) (se9 w b o os (((((((((tk + 4) + 4) + 4) + 4) + 4) + 4) + 4) + 4) + 4) ps) rn_pure))) ?_) (by decide)
  refine Rn.more (m1 := 834 + 2502) (rn_turn (rn_eq (hf _ _) ((rn_bind (m2 := 0) (se10 w b o os ((((((((((tk + 4) + 4) + 4) + 4) + 4) + 4) + 4) + 4) + 4) + 4) ps) rn_pure))) ?_) (by decide)
  refine Rn.more (m1 := 834 + 1668) (rn_turn (rn_eq (hf _ _) ((rn_bind (m2 := 0) (se11 w b o os (((((((((((tk + 4) + 4) + 4) + 4) + 4) + 4) + 4) + 4) + 4) + 4) + 4) ps) rn_pure))) ?_) (by decide)
  refine Rn.more (m1 := 834 + 834) (rn_turn (rn_eq (hf _ _) ((rn_bind (m2 := 0) (se12 w b o os ((((((((((((tk + 4) + 4) + 4) + 4) + 4) + 4) + 4) + 4) + 4) + 4) + 4) + 4) ps) rn_pure))) ?_) (by decide)
  refine Rn.more (m1 := 834 + 0) (rn_turn (rn_eq (hf _ _) ((rn_bind (m2 := 0) (se13 w b o os (((((((((((((tk + 4) + 4) + 4) + 4) + 4) + 4) + 4) + 4) + 4) + 4) + 4) + 4) + 4) ps) rn_pure))) ?_) (by decide)
  exact rn_last
def st : Stmt := body[56]
def theKs : List (Option PySem.Expr) := match st with | .Assign _ (.Dict ks _ _) _ => ks | _ => []
def theVs : List PySem.Expr := match st with | .Assign _ (.Dict _ vs _) _ => vs | _ => []
def dpos : Pos := match st with | .Assign _ (.Dict _ _ q) _ => q | _ => default
def spos : Pos := match st with | .Assign _ _ q => q | _ => default
def npos : Pos := ⟨132, 0, 132, 10⟩
theorem stq0 : st = .Assign [.Name "LINE_STEPS" npos] (.Dict theKs theVs dpos) spos := by kernel_rfl
def its : List (Option (Sem Value) × Sem Value) := (evalEachOpt theKs env).zip ((evalEach theVs env).map fun v => do let x ← v; standAt dpos; pure x)
def prs : List (Sem Value × Sem Value) := its.filterMap fun x => x.1.map fun k => (k, x.2)
theorem stq : exec st env = (do
    standAt spos
    let v ← eval (.Dict theKs theVs dpos) env
    standAt npos
    bindName env "LINE_STEPS" v
    pure .next) := by rw [stq0]; exact exec_Assign_Name env "LINE_STEPS" npos (.Dict theKs theVs dpos) spos (by kernel_rfl)
theorem dq : eval (.Dict theKs theVs dpos) env = (do standAt dpos; dictDisplay its) := by kernel_rfl
theorem dd : dictDisplay its = ((subDict prs >>= fun d => pure (some d)) >>= fun o => match o with | some d => pure (.ref d) | none => newDict) := by kernel_rfl
theorem loop_w (w : World) (o : Nat → Obj) (os : OsState) (tk : Nat) (ps : Pos) {f : Value × Value → Unit → Sem (ForInStep Unit)} (hf : ∀ k v, f (k, v) () = (do dictSet 274 k v; pure (.yield ()))) :
    Rn p w 11 ann cd B 11672 (forIn vs () f) ps (S o os (Dd #[] 0) tk) () ps (S o os (DD w.params) (tk + 56)) := by
  have h := loop_all w (w.params.followText "special-get-raises") o os tk ps hf
  unfold wf at h
  rw [World.withFollow_self] at h
  exact h
theorem at_ {w : World} {s : SharedT} {ps ps' : Pos} : Rn p w 11 ann cd B 1 (standAt ps') ps s () ps' s := rn_at fun K H lv => by kernel_rfl
theorem al {w : World} {o : Nat → Obj} {os : OsState} {tk : Nat} {ps : Pos} : Rn p w 11 ann cd B 1 (alloc { cls := .type "dict", data := .dict #[] }) ps (S0 o os tk) 274 ps (S0d o os tk) := rn_at fun K H lv => by kernel_rfl
theorem ev {w : World} {o : Nat → Obj} {os : OsState} {ps : Pos} : Rn p w 11 ann cd B 96 (evalPairs prs) ps (S0d o os 599) vs dpos (S o os (Dd #[] 0) 653) := rn_at fun K H lv => by
  rw [PySem.W.Fast.te10295753902157049106, PySem.W.Fast.te14364793385576792824]; kernel_rfl
theorem sub {w : World} {o : Nat → Obj} {os : OsState} {ps : Pos} : Rn p w 11 ann cd B 11769 (subDict prs) ps (S0 o os 599) 274 dpos (S o os (DD w.params) 709) := by
  unfold subDict
  refine Rn.more (m1 := 1 + (96 + (11672 + 0) + 0)) (rn_bind al (rn_bind (a := ()) (rn_holding ?_) rn_pure)) (by decide)
  rw [if_pos (Nat.le_of_ble_eq_true (by kernel_rfl))]
  refine rn_bind ev (rn_holding ?_)
  exact rn_bind (loop_w w o os 653 dpos (fun _ _ => rfl)) rn_pure
def S_D (P : Params) (os : OsState) (D : Obj) : SharedT := ⟨treeOf ((((fin P D).take 289).set 3 (nsO ((e1 P "__name__" 165 (.str "lentgate.lines" 597)) :: ((ns P).drop 1).take 61) 62)).set 12 (tbO (tb.take 96))), 289, {}, #[], {}, 710, os⟩
theorem bn {w : World} {os : OsState} {D : Obj} {ps : Pos} : Rn p w 11 ann cd B 6 (bindName env "LINE_STEPS" (.ref 274)) ps (S (ob w.params) os D 709) () ps (S_D w.params os D) := rn_at fun K H lv => by
  rw [PySem.W.Fast.te10295753902157049106, PySem.W.Fast.te14364793385576792824]; kernel_rfl
theorem st_rn {w : World} {os : OsState} {ps : Pos} : Rn p w 11 ann cd B 11778 (execs [st] env) ps (S0 (ob w.params) os 599) .next npos (S_D w.params os (DD w.params)) := by
  rw [execs_cons, stq, dq, dd]
  refine Rn.more (m1 := (1 + ((1 + ((11769 + 0) + 0)) + (1 + (6 + 0)))) + 0) (rn_bind (a := .next) (rn_bind at_ (rn_bind (rn_bind at_ (rn_bind (rn_bind sub rn_pure) rn_pure)) (rn_bind at_ (rn_bind bn rn_pure)))) ?_) (by decide)
  exact rn_pure
theorem run9 (w : World) (os : OsState) : segRunT treeTable p w 11 ann 1 11779 (S_8 w.params os) (piecesOf [st] env cd ⟨131, 0, 131, 8⟩ B) = some (.next, S_D w.params os (DD w.params), cd, npos) := by
  rw [s0_eq]
  obtain ⟨n, hn, h⟩ := st_rn (w := w) (os := os) (ps := ⟨131, 0, 131, 8⟩) doneF deadEnd id
  have e := run_add (m := 1) (r := (.next, S_D w.params os (DD w.params), cd, npos)) h rfl
  have e2 := run_more (11778 - n) e
  rw [show n + 1 + (11778 - n) = 11779 by omega] at e2
  exact e2
def S_10 (P : Params) (os : OsState) (D : Obj) : SharedT := ⟨treeOf ((((fin P D).take 311).set 3 (nsO ((e1 P "__name__" 165 (.str "lentgate.rules" 743)) :: ((ns P).drop 1).take 65) 66)).set 12 (tbO (tb.take 105))), 311, {}, #[], {}, 745, os⟩
theorem run10 (w : World) (os : OsState) (D : Obj) : segRunT treeTable p w 11 ann 1 118 (S_D w.params os D) (piecesOf ((body.drop 57).take 5) env cd npos B) = some (.next, S_10 w.params os D, cd, ⟨146, 0, 146, 8⟩) := by
  rw [PySem.W.Fast.te10110043849684766642, PySem.W.Fast.te14364793385576792824]; kernel_rfl
def S_11 (P : Params) (os : OsState) (D : Obj) : SharedT := ⟨treeOf ((((fin P D).take 365).set 3 (nsO ((e1 P "__name__" 165 (.str "lentgate.pool" 825)) :: ((ns P).drop 1).take 66) 67)).set 12 (tbO (tb.take 108))), 365, {}, #[], {}, 827, os⟩
theorem run11 (w : World) (os : OsState) (D : Obj) : segRunT treeTable p w 11 ann 1 401 (S_10 w.params os D) (piecesOf ((body.drop 62).take 2) env cd ⟨146, 0, 146, 8⟩ B) = some (.next, S_11 w.params os D, cd, ⟨174, 0, 174, 8⟩) := by
  rw [PySem.W.Fast.te10110043849684766642, PySem.W.Fast.te14364793385576792824]; kernel_rfl
def S_12 (P : Params) (os : OsState) (D : Obj) : SharedT := ⟨treeOf ((((fin P D).take 438).set 3 (nsO ((e1 P "__name__" 165 (.str "lentgate.pool" 825)) :: ((ns P).drop 1).take 67) 68)).set 12 (tbO (tb.take 111))), 438, {}, #[], {}, 925, os⟩
theorem run12 (w : World) (os : OsState) (D : Obj) : segRunT treeTable p w 11 ann 1 480 (S_11 w.params os D) (piecesOf ((body.drop 64).take 1) env cd ⟨174, 0, 174, 8⟩ B) = some (.next, S_12 w.params os D, cd, ⟨175, 0, 217, 105⟩) := by
  rw [PySem.W.Fast.te10110043849684766642, PySem.W.Fast.te14364793385576792824]; kernel_rfl
def S_13 (P : Params) (os : OsState) (D : Obj) : SharedT := ⟨treeOf ((((fin P D).take 459).set 3 (nsO ((e1 P "__name__" 165 (.str "lentgate.talks" 925)) :: ((ns P).drop 1).take 68) 69)).set 12 (tbO (tb.take 114))), 459, {}, #[], {}, 962, os⟩
theorem run13 (w : World) (os : OsState) (D : Obj) : segRunT treeTable p w 11 ann 1 238 (S_12 w.params os D) (piecesOf ((body.drop 65).take 2) env cd ⟨175, 0, 217, 105⟩ B) = some (.next, S_13 w.params os D, cd, ⟨219, 0, 225, 24⟩) := by
  rw [PySem.W.Fast.te10110043849684766642, PySem.W.Fast.te14364793385576792824]; kernel_rfl
def S_14 (P : Params) (os : OsState) (D : Obj) : SharedT := ⟨treeOf ((((fin P D).take 579).set 3 (nsO ((e1 P "__name__" 165 (.str "lentgate.talks" 925)) :: ((ns P).drop 1).take 69) 70)).set 12 (tbO (tb.take 117))), 579, {}, #[], {}, 1132, os⟩
theorem run14 (w : World) (os : OsState) (D : Obj) : segRunT treeTable p w 11 ann 1 718 (S_13 w.params os D) (piecesOf ((body.drop 67).take 1) env cd ⟨219, 0, 225, 24⟩ B) = some (.next, S_14 w.params os D, cd, ⟨226, 0, 307, 37⟩) := by
  rw [PySem.W.Fast.te10110043849684766642, PySem.W.Fast.te14364793385576792824]; kernel_rfl
def S_15 (P : Params) (os : OsState) (D : Obj) : SharedT := ⟨treeOf ((((fin P D).take 586).set 3 (nsO ((e1 P "__name__" 165 (.str "lentgate.gate" 1132)) :: ((ns P).drop 1).take 70) 71)).set 12 (tbO (tb.take 120))), 586, {}, #[], {}, 1146, os⟩
theorem run15 (w : World) (os : OsState) (D : Obj) : segRunT treeTable p w 11 ann 1 44 (S_14 w.params os D) (piecesOf ((body.drop 68).take 2) env cd ⟨226, 0, 307, 37⟩ B) = some (.next, S_15 w.params os D, cd, ⟨309, 0, 311, 78⟩) := by
  rw [PySem.W.Fast.te10110043849684766642, PySem.W.Fast.te14364793385576792824]; kernel_rfl
def S_16 (P : Params) (os : OsState) (D : Obj) : SharedT := ⟨treeOf ((((fin P D).take 792).set 3 (nsO ((e1 P "__name__" 165 (.str "lentgate.gate" 1132)) :: ((ns P).drop 1).take 71) 72)).set 12 (tbO (tb.take 123))), 792, {}, #[], {}, 1467, os⟩
theorem run16 (w : World) (os : OsState) (D : Obj) : segRunT treeTable p w 11 ann 1 1159 (S_15 w.params os D) (piecesOf ((body.drop 70).take 1) env cd ⟨309, 0, 311, 78⟩ B) = some (.next, S_16 w.params os D, cd, ⟨312, 0, 481, 19⟩) := by
  rw [PySem.W.Fast.te10110043849684766642, PySem.W.Fast.te14364793385576792824]; kernel_rfl
def S_17 (P : Params) (os : OsState) (D : Obj) : SharedT := ⟨treeOf ((((fin P D).take 846).set 3 (nsO ((e1 P "__name__" 165 (.str "lentgate.desk" 1533)) :: ((ns P).drop 1).take 83) 84)).set 12 (tbO (tb.take 150))), 846, {}, #[], {}, 1541, os⟩
theorem run17 (w : World) (os : OsState) (D : Obj) : segRunT treeTable p w 11 ann 1 300 (S_16 w.params os D) (piecesOf ((body.drop 71).take 14) env cd ⟨312, 0, 481, 19⟩ B) = some (.next, S_17 w.params os D, cd, ⟨520, 0, 523, 53⟩) := by
  rw [PySem.W.Fast.te10110043849684766642, PySem.W.Fast.te14364793385576792824]; kernel_rfl
def S_18 (P : Params) (os : OsState) (D : Obj) : SharedT := ⟨treeOf ((((fin P D).take 900).set 3 (nsO ((e1 P "__name__" 165 (.str "lentgate.looker" 1578)) :: ((ns P).drop 1).take 88) 89)).set 12 (tbO (tb.take 165))), 900, {}, #[], {}, 1612, os⟩
theorem run18 (w : World) (os : OsState) (D : Obj) : segRunT treeTable p w 11 ann 1 382 (S_17 w.params os D) (piecesOf ((body.drop 85).take 6) env cd ⟨520, 0, 523, 53⟩ B) = some (.next, S_18 w.params os D, cd, ⟨556, 0, 561, 56⟩) := by
  rw [PySem.W.Fast.te10110043849684766642, PySem.W.Fast.te14364793385576792824]; kernel_rfl
def S_19 (P : Params) (os : OsState) (D : Obj) : SharedT := ⟨treeOf ((((fin P D).take 980).set 3 (nsO ((ns P).take 101) 101)).set 12 (tbO (tb.take 201))), 980, {}, #[], {}, 1719, os⟩
theorem run19 (w : World) (os : OsState) (D : Obj) : segRunT treeTable p w 11 ann 1 375 (S_18 w.params os D) (piecesOf ((body.drop 91).take 13) env cd ⟨556, 0, 561, 56⟩ B) = some (.next, S_19 w.params os D, cd, ⟨633, 0, 644, 68⟩) := by
  rw [PySem.W.Fast.te10110043849684766642, PySem.W.Fast.te14364793385576792824]; kernel_rfl
def S_20 (P : Params) (os : OsState) (D : Obj) : SharedT := ⟨treeOf ((fin P D).take 994), 994, {}, #[], {}, 1744, os⟩
theorem run20 (w : World) (os : OsState) (D : Obj) : segRunT treeTable p w 11 ann 1 70 (S_19 w.params os D) (piecesOf ((body.drop 104).take 2) env cd ⟨633, 0, 644, 68⟩ B) = some (.next, S_20 w.params os D, cd, ⟨660, 0, 675, 15⟩) := by
  rw [PySem.W.Fast.te10110043849684766642, PySem.W.Fast.te14364793385576792824]; kernel_rfl
def TF (P : Params) : BT := (S_20 P default (DD P)).tree
def H1 (P : Params) : Heap := absHeap (TF P) 994 {}
theorem body_eq : body = ((body.drop 0).take 22) ++ (((body.drop 22).take 10) ++ (((body.drop 32).take 13) ++ (((body.drop 45).take 5) ++ (((body.drop 50).take 1) ++ (((body.drop 51).take 1) ++ (((body.drop 52).take 1) ++ (((body.drop 53).take 1) ++ (((body.drop 54).take 2) ++ ([st] ++ (((body.drop 57).take 5) ++ (((body.drop 62).take 2) ++ (((body.drop 64).take 1) ++ (((body.drop 65).take 2) ++ (((body.drop 67).take 1) ++ (((body.drop 68).take 2) ++ (((body.drop 70).take 1) ++ (((body.drop 71).take 14) ++ (((body.drop 85).take 6) ++ (((body.drop 91).take 13) ++ (((body.drop 104).take 2) ++ [])))))))))))))))))))) := by kernel_rfl
theorem run_eq (w : World) (os : OsState) : topRun treeTable p w 11 ann (12 + (1 + (391 + (315 + (397 + (300 + (214 + (214 + (214 + (214 + (223 + (11779 + (118 + (401 + (480 + (238 + (718 + (44 + (1159 + (300 + (382 + (375 + (70 + 2))))))))))))))))))))))) ⟨boot_heap w.params, #[], boot_drawn, boot_toks, os⟩ (topStub p) = some ⟨H1 w.params, #[], {}, 1744, os⟩ := by
  refine go_top (pre_eq w os) (piece_block (block_eq w os) ?_)
  show topRun treeTable p w 11 ann _ _ (restOf body env cd q0 B) = _
  rw [body_eq]
  refine piece_app (segRun_of (run0 w os)) ?_
  refine piece_app (segRun_of (run1 w os)) ?_
  refine piece_app (segRun_of (run2 w os)) ?_
  refine piece_app (segRun_of (run3 w os)) ?_
  refine piece_app (segRun_of (run4 w os)) ?_
  refine piece_app (segRun_of (run5 w os)) ?_
  refine piece_app (segRun_of (run6 w os)) ?_
  refine piece_app (segRun_of (run7 w os)) ?_
  refine piece_app (segRun_of (run8 w os)) ?_
  refine piece_app (segRun_of (run9 w os)) ?_
  refine piece_app (segRun_of (run10 w os _)) ?_
  refine piece_app (segRun_of (run11 w os _)) ?_
  refine piece_app (segRun_of (run12 w os _)) ?_
  refine piece_app (segRun_of (run13 w os _)) ?_
  refine piece_app (segRun_of (run14 w os _)) ?_
  refine piece_app (segRun_of (run15 w os _)) ?_
  refine piece_app (segRun_of (run16 w os _)) ?_
  refine piece_app (segRun_of (run17 w os _)) ?_
  refine piece_app (segRun_of (run18 w os _)) ?_
  refine piece_app (segRun_of (run19 w os _)) ?_
  refine piece_app (segRun_of (run20 w os _)) ?_
  kernel_rfl
def q : Program := view p [0, 2, 3, 4, 5, 6, 7, 8, 9, 10, 11, 12, 13, 14, 15, 16, 17, 18, 19, 20, 21, 22, 23, 24, 25, 26, 27, 28, 29, 30, 31, 32, 33, 34, 36, 37, 38, 39, 40, 41, 42, 43, 44, 45, 46, 47, 49, 50, 51, 52, 53, 54, 56, 57, 58, 59, 60, 62, 64, 66, 67, 69, 70, 72, 73, 74, 75, 76, 77, 78, 79, 80, 81, 82, 84, 85, 87, 88, 89, 90, 91, 92, 94, 95, 96, 97, 98, 99, 100, 101, 102, 103, 104, 105]
def loose : List Str := ["DEEDS", "TIME_AT", "LINE_STEPS"]
def ks : List Addr := [nat_lit 2, nat_lit 3, nat_lit 6, nat_lit 20, nat_lit 21, nat_lit 22, nat_lit 23, nat_lit 24, nat_lit 30, nat_lit 31, nat_lit 37, nat_lit 38, nat_lit 44, nat_lit 45, nat_lit 51, nat_lit 52, nat_lit 58, nat_lit 59, nat_lit 65, nat_lit 66, nat_lit 72, nat_lit 73, nat_lit 79, nat_lit 80, nat_lit 86, nat_lit 87, nat_lit 93, nat_lit 94, nat_lit 95, nat_lit 98, nat_lit 99, nat_lit 105, nat_lit 106, nat_lit 112, nat_lit 113, nat_lit 119, nat_lit 120, nat_lit 126, nat_lit 127, nat_lit 133, nat_lit 134, nat_lit 140, nat_lit 141, nat_lit 147, nat_lit 148, nat_lit 149, nat_lit 155, nat_lit 156, nat_lit 162, nat_lit 163, nat_lit 164, nat_lit 165, nat_lit 166, nat_lit 167, nat_lit 173, nat_lit 174, nat_lit 175, nat_lit 178, nat_lit 179, nat_lit 185, nat_lit 186, nat_lit 192, nat_lit 193, nat_lit 199, nat_lit 200, nat_lit 201, nat_lit 202, nat_lit 203, nat_lit 204, nat_lit 206, nat_lit 207, nat_lit 208, nat_lit 209, nat_lit 210, nat_lit 211, nat_lit 212, nat_lit 213, nat_lit 214, nat_lit 215, nat_lit 216, nat_lit 217, nat_lit 219, nat_lit 220, nat_lit 221, nat_lit 222, nat_lit 223, nat_lit 224, nat_lit 225, nat_lit 226, nat_lit 227, nat_lit 228, nat_lit 229, nat_lit 231, nat_lit 232, nat_lit 233, nat_lit 234, nat_lit 235, nat_lit 236, nat_lit 237, nat_lit 238, nat_lit 239, nat_lit 240, nat_lit 241, nat_lit 243, nat_lit 244, nat_lit 245, nat_lit 246, nat_lit 247, nat_lit 248, nat_lit 249, nat_lit 250, nat_lit 251, nat_lit 252, nat_lit 253, nat_lit 255, nat_lit 256, nat_lit 257, nat_lit 258, nat_lit 259, nat_lit 260, nat_lit 261, nat_lit 262, nat_lit 263, nat_lit 264, nat_lit 265, nat_lit 267, nat_lit 268, nat_lit 269, nat_lit 270, nat_lit 271, nat_lit 272, nat_lit 273, nat_lit 274, nat_lit 275, nat_lit 276, nat_lit 277, nat_lit 278, nat_lit 279, nat_lit 280, nat_lit 281, nat_lit 282, nat_lit 283, nat_lit 284, nat_lit 285, nat_lit 286, nat_lit 287, nat_lit 288, nat_lit 289, nat_lit 295, nat_lit 296, nat_lit 302, nat_lit 303, nat_lit 309, nat_lit 310, nat_lit 311, nat_lit 312, nat_lit 313, nat_lit 314, nat_lit 316, nat_lit 317, nat_lit 323, nat_lit 324, nat_lit 330, nat_lit 331, nat_lit 337, nat_lit 338, nat_lit 344, nat_lit 345, nat_lit 351, nat_lit 352, nat_lit 353, nat_lit 356, nat_lit 357, nat_lit 358, nat_lit 359, nat_lit 360, nat_lit 361, nat_lit 362, nat_lit 363, nat_lit 364, nat_lit 365, nat_lit 366, nat_lit 367, nat_lit 368, nat_lit 370, nat_lit 371, nat_lit 377, nat_lit 378, nat_lit 384, nat_lit 385, nat_lit 391, nat_lit 392, nat_lit 398, nat_lit 399, nat_lit 405, nat_lit 406, nat_lit 412, nat_lit 413, nat_lit 419, nat_lit 420, nat_lit 421, nat_lit 424, nat_lit 425, nat_lit 426, nat_lit 429, nat_lit 430, nat_lit 431, nat_lit 432, nat_lit 433, nat_lit 434, nat_lit 435, nat_lit 436, nat_lit 437, nat_lit 438, nat_lit 439, nat_lit 440, nat_lit 441, nat_lit 443, nat_lit 444, nat_lit 450, nat_lit 451, nat_lit 452, nat_lit 453, nat_lit 454, nat_lit 455, nat_lit 456, nat_lit 457, nat_lit 458, nat_lit 459, nat_lit 460, nat_lit 461, nat_lit 462, nat_lit 464, nat_lit 465, nat_lit 471, nat_lit 472, nat_lit 478, nat_lit 479, nat_lit 485, nat_lit 486, nat_lit 487, nat_lit 490, nat_lit 491, nat_lit 497, nat_lit 498, nat_lit 504, nat_lit 505, nat_lit 511, nat_lit 512, nat_lit 518, nat_lit 519, nat_lit 520, nat_lit 523, nat_lit 524, nat_lit 530, nat_lit 531, nat_lit 537, nat_lit 538, nat_lit 544, nat_lit 545, nat_lit 551, nat_lit 552, nat_lit 558, nat_lit 559, nat_lit 565, nat_lit 566, nat_lit 567, nat_lit 570, nat_lit 571, nat_lit 572, nat_lit 573, nat_lit 574, nat_lit 575, nat_lit 576, nat_lit 577, nat_lit 578, nat_lit 584, nat_lit 585, nat_lit 586, nat_lit 587, nat_lit 588, nat_lit 589, nat_lit 591, nat_lit 592, nat_lit 598, nat_lit 599, nat_lit 605, nat_lit 606, nat_lit 612, nat_lit 613, nat_lit 619, nat_lit 620, nat_lit 626, nat_lit 627, nat_lit 633, nat_lit 634, nat_lit 640, nat_lit 641, nat_lit 647, nat_lit 648, nat_lit 654, nat_lit 655, nat_lit 661, nat_lit 662, nat_lit 663, nat_lit 666, nat_lit 667, nat_lit 668, nat_lit 671, nat_lit 672, nat_lit 678, nat_lit 679, nat_lit 685, nat_lit 686, nat_lit 692, nat_lit 693, nat_lit 699, nat_lit 700, nat_lit 706, nat_lit 707, nat_lit 713, nat_lit 714, nat_lit 720, nat_lit 721, nat_lit 727, nat_lit 728, nat_lit 734, nat_lit 735, nat_lit 741, nat_lit 742, nat_lit 748, nat_lit 749, nat_lit 755, nat_lit 756, nat_lit 762, nat_lit 763, nat_lit 769, nat_lit 770, nat_lit 776, nat_lit 777, nat_lit 783, nat_lit 784, nat_lit 785, nat_lit 786, nat_lit 787, nat_lit 788, nat_lit 789, nat_lit 790, nat_lit 791, nat_lit 792, nat_lit 798, nat_lit 799, nat_lit 800, nat_lit 803, nat_lit 804, nat_lit 805, nat_lit 808, nat_lit 809, nat_lit 810, nat_lit 813, nat_lit 814, nat_lit 820, nat_lit 821, nat_lit 822, nat_lit 825, nat_lit 826, nat_lit 832, nat_lit 833, nat_lit 839, nat_lit 840, nat_lit 841, nat_lit 844, nat_lit 845, nat_lit 846, nat_lit 847, nat_lit 848, nat_lit 849, nat_lit 851, nat_lit 852, nat_lit 858, nat_lit 859, nat_lit 865, nat_lit 866, nat_lit 867, nat_lit 868, nat_lit 869, nat_lit 870, nat_lit 871, nat_lit 872, nat_lit 873, nat_lit 879, nat_lit 880, nat_lit 886, nat_lit 887, nat_lit 893, nat_lit 894, nat_lit 895, nat_lit 898, nat_lit 899, nat_lit 905, nat_lit 906, nat_lit 912, nat_lit 913, nat_lit 919, nat_lit 920, nat_lit 926, nat_lit 927, nat_lit 933, nat_lit 934, nat_lit 940, nat_lit 941, nat_lit 942, nat_lit 945, nat_lit 946, nat_lit 952, nat_lit 953, nat_lit 959, nat_lit 960, nat_lit 966, nat_lit 967, nat_lit 968, nat_lit 971, nat_lit 972, nat_lit 978, nat_lit 979, nat_lit 985, nat_lit 986, nat_lit 992, nat_lit 993]
def K (P : Params) : Frag := (nat_lit 2, boot_o_2 P) :: (nat_lit 3, nsO ((ns P).take 103) 103) :: (nat_lit 6, boot_o_6 P) :: (nat_lit 20, d15.co) :: (nat_lit 21, d15.fn) :: (nat_lit 22, v35 P) :: (nat_lit 23, v37 P) :: (nat_lit 24, v39 P) :: (nat_lit 30, d25.co) :: (nat_lit 31, d25.fn) :: (nat_lit 37, d32.co) :: (nat_lit 38, d32.fn) :: (nat_lit 44, d39.co) :: (nat_lit 45, d39.fn) :: (nat_lit 51, d46.co) :: (nat_lit 52, d46.fn) :: (nat_lit 58, d53.co) :: (nat_lit 59, d53.fn) :: (nat_lit 65, d60.co) :: (nat_lit 66, d60.fn) :: (nat_lit 72, d67.co) :: (nat_lit 73, d67.fn) :: (nat_lit 79, d74.co) :: (nat_lit 80, d74.fn) :: (nat_lit 86, d81.co) :: (nat_lit 87, d81.fn) :: (nat_lit 93, d88.co) :: (nat_lit 94, d88.fn) :: (nat_lit 95, v132 P) :: (nat_lit 98, v135 P) :: (nat_lit 99, v136 P) :: (nat_lit 105, d100.co) :: (nat_lit 106, d100.fn) :: (nat_lit 112, d107.co) :: (nat_lit 113, d107.fn) :: (nat_lit 119, d114.co) :: (nat_lit 120, d114.fn) :: (nat_lit 126, d121.co) :: (nat_lit 127, d121.fn) :: (nat_lit 133, d128.co) :: (nat_lit 134, d128.fn) :: (nat_lit 140, d135.co) :: (nat_lit 141, d135.fn) :: (nat_lit 147, d142.co) :: (nat_lit 148, d142.fn) :: (nat_lit 149, v201 P) :: (nat_lit 155, d150.co) :: (nat_lit 156, d150.fn) :: (nat_lit 162, d157.co) :: (nat_lit 163, d157.fn) :: (nat_lit 164, v222 P) :: (nat_lit 165, v224 P) :: (nat_lit 166, v226 P) :: (nat_lit 167, v231 P) :: (nat_lit 173, d168.co) :: (nat_lit 174, d168.fn) :: (nat_lit 175, v243 P) :: (nat_lit 178, v246 P) :: (nat_lit 179, v247 P) :: (nat_lit 185, d180.co) :: (nat_lit 186, d180.fn) :: (nat_lit 192, d187.co) :: (nat_lit 193, d187.fn) :: (nat_lit 199, d194.co) :: (nat_lit 200, d194.fn) :: (nat_lit 201, v278 P) :: (nat_lit 202, v279 P) :: (nat_lit 203, v280 P) :: (nat_lit 204, v281 P) :: (nat_lit 206, v283 P) :: (nat_lit 207, v284 P) :: (nat_lit 208, v285 P) :: (nat_lit 209, v286 P) :: (nat_lit 210, v353 P) :: (nat_lit 211, v288 P) :: (nat_lit 212, v289 P) :: (nat_lit 213, v290 P) :: (nat_lit 214, v294 P) :: (nat_lit 215, v295 P) :: (nat_lit 216, v296 P) :: (nat_lit 217, v297 P) :: (nat_lit 219, v299 P) :: (nat_lit 220, v300 P) :: (nat_lit 221, v301 P) :: (nat_lit 222, v302 P) :: (nat_lit 223, v303 P) :: (nat_lit 224, v304 P) :: (nat_lit 225, v305 P) :: (nat_lit 226, v309 P) :: (nat_lit 227, v310 P) :: (nat_lit 228, v311 P) :: (nat_lit 229, v312 P) :: (nat_lit 231, v314 P) :: (nat_lit 232, v315 P) :: (nat_lit 233, v316 P) :: (nat_lit 234, v317 P) :: (nat_lit 235, v318 P) :: (nat_lit 236, v319 P) :: (nat_lit 237, v320 P) :: (nat_lit 238, v324 P) :: (nat_lit 239, v325 P) :: (nat_lit 240, v326 P) :: (nat_lit 241, v327 P) :: (nat_lit 243, v329 P) :: (nat_lit 244, v330 P) :: (nat_lit 245, v331 P) :: (nat_lit 246, v332 P) :: (nat_lit 247, v333 P) :: (nat_lit 248, v334 P) :: (nat_lit 249, v335 P) :: (nat_lit 250, v339 P) :: (nat_lit 251, v340 P) :: (nat_lit 252, v341 P) :: (nat_lit 253, v342 P) :: (nat_lit 255, v344 P) :: (nat_lit 256, v345 P) :: (nat_lit 257, v346 P) :: (nat_lit 258, v347 P) :: (nat_lit 259, v348 P) :: (nat_lit 260, v349 P) :: (nat_lit 261, v350 P) :: (nat_lit 262, v354 P) :: (nat_lit 263, v355 P) :: (nat_lit 264, v356 P) :: (nat_lit 265, v357 P) :: (nat_lit 267, v359 P) :: (nat_lit 268, v360 P) :: (nat_lit 269, v361 P) :: (nat_lit 270, v362 P) :: (nat_lit 271, v363 P) :: (nat_lit 272, v364 P) :: (nat_lit 273, v365 P) :: (nat_lit 274, DD P) :: (nat_lit 275, v369 P) :: (nat_lit 276, v370 P) :: (nat_lit 277, v371 P) :: (nat_lit 278, v372 P) :: (nat_lit 279, v373 P) :: (nat_lit 280, v374 P) :: (nat_lit 281, v375 P) :: (nat_lit 282, v376 P) :: (nat_lit 283, v377 P) :: (nat_lit 284, v378 P) :: (nat_lit 285, v379 P) :: (nat_lit 286, v380 P) :: (nat_lit 287, v381 P) :: (nat_lit 288, v382 P) :: (nat_lit 289, v384 P) :: (nat_lit 295, d290.co) :: (nat_lit 296, d290.fn) :: (nat_lit 302, d297.co) :: (nat_lit 303, d297.fn) :: (nat_lit 309, d304.co) :: (nat_lit 310, d304.fn) :: (nat_lit 311, v415 P) :: (nat_lit 312, v416 P) :: (nat_lit 313, v417 P) :: (nat_lit 314, v418 P) :: (nat_lit 316, v420 P) :: (nat_lit 317, v421 P) :: (nat_lit 323, d318.co) :: (nat_lit 324, d318.fn) :: (nat_lit 330, d325.co) :: (nat_lit 331, d325.fn) :: (nat_lit 337, d332.co) :: (nat_lit 338, d332.fn) :: (nat_lit 344, d339.co) :: (nat_lit 345, d339.fn) :: (nat_lit 351, d346.co) :: (nat_lit 352, d346.fn) :: (nat_lit 353, v457 P) :: (nat_lit 356, v460 P) :: (nat_lit 357, v461 P) :: (nat_lit 358, v462 P) :: (nat_lit 359, v463 P) :: (nat_lit 360, v464 P) :: (nat_lit 361, v465 P) :: (nat_lit 362, v466 P) :: (nat_lit 363, v467 P) :: (nat_lit 364, v468 P) :: (nat_lit 365, v472 P) :: (nat_lit 366, v473 P) :: (nat_lit 367, v474 P) :: (nat_lit 368, v475 P) :: (nat_lit 370, v477 P) :: (nat_lit 371, v478 P) :: (nat_lit 377, d372.co) :: (nat_lit 378, d372.fn) :: (nat_lit 384, d379.co) :: (nat_lit 385, d379.fn) :: (nat_lit 391, d386.co) :: (nat_lit 392, d386.fn) :: (nat_lit 398, d393.co) :: (nat_lit 399, d393.fn) :: (nat_lit 405, d400.co) :: (nat_lit 406, d400.fn) :: (nat_lit 412, d407.co) :: (nat_lit 413, d407.fn) :: (nat_lit 419, d414.co) :: (nat_lit 420, d414.fn) :: (nat_lit 421, v528 P) :: (nat_lit 424, v531 P) :: (nat_lit 425, v532 P) :: (nat_lit 426, v533 P) :: (nat_lit 429, v536 P) :: (nat_lit 430, v537 P) :: (nat_lit 431, v538 P) :: (nat_lit 432, v539 P) :: (nat_lit 433, v540 P) :: (nat_lit 434, v541 P) :: (nat_lit 435, v542 P) :: (nat_lit 436, v543 P) :: (nat_lit 437, v544 P) :: (nat_lit 438, v548 P) :: (nat_lit 439, v549 P) :: (nat_lit 440, v550 P) :: (nat_lit 441, v551 P) :: (nat_lit 443, v553 P) :: (nat_lit 444, v554 P) :: (nat_lit 450, d445.co) :: (nat_lit 451, d445.fn) :: (nat_lit 452, v562 P) :: (nat_lit 453, v563 P) :: (nat_lit 454, v564 P) :: (nat_lit 455, v565 P) :: (nat_lit 456, v566 P) :: (nat_lit 457, v567 P) :: (nat_lit 458, v568 P) :: (nat_lit 459, v571 P) :: (nat_lit 460, v572 P) :: (nat_lit 461, v573 P) :: (nat_lit 462, v574 P) :: (nat_lit 464, v576 P) :: (nat_lit 465, v577 P) :: (nat_lit 471, d466.co) :: (nat_lit 472, d466.fn) :: (nat_lit 478, d473.co) :: (nat_lit 479, d473.fn) :: (nat_lit 485, d480.co) :: (nat_lit 486, d480.fn) :: (nat_lit 487, v599 P) :: (nat_lit 490, v602 P) :: (nat_lit 491, v603 P) :: (nat_lit 497, d492.co) :: (nat_lit 498, d492.fn) :: (nat_lit 504, d499.co) :: (nat_lit 505, d499.fn) :: (nat_lit 511, d506.co) :: (nat_lit 512, d506.fn) :: (nat_lit 518, d513.co) :: (nat_lit 519, d513.fn) :: (nat_lit 520, v632 P) :: (nat_lit 523, v635 P) :: (nat_lit 524, v636 P) :: (nat_lit 530, d525.co) :: (nat_lit 531, d525.fn) :: (nat_lit 537, d532.co) :: (nat_lit 538, d532.fn) :: (nat_lit 544, d539.co) :: (nat_lit 545, d539.fn) :: (nat_lit 551, d546.co) :: (nat_lit 552, d546.fn) :: (nat_lit 558, d553.co) :: (nat_lit 559, d553.fn) :: (nat_lit 565, d560.co) :: (nat_lit 566, d560.fn) :: (nat_lit 567, v679 P) :: (nat_lit 570, v682 P) :: (nat_lit 571, v683 P) :: (nat_lit 572, v684 P) :: (nat_lit 573, v685 P) :: (nat_lit 574, v686 P) :: (nat_lit 575, v687 P) :: (nat_lit 576, v688 P) :: (nat_lit 577, v689 P) :: (nat_lit 578, v690 P) :: (nat_lit 584, d579.co) :: (nat_lit 585, d579.fn) :: (nat_lit 586, v703 P) :: (nat_lit 587, v704 P) :: (nat_lit 588, v705 P) :: (nat_lit 589, v706 P) :: (nat_lit 591, v708 P) :: (nat_lit 592, v709 P) :: (nat_lit 598, d593.co) :: (nat_lit 599, d593.fn) :: (nat_lit 605, d600.co) :: (nat_lit 606, d600.fn) :: (nat_lit 612, d607.co) :: (nat_lit 613, d607.fn) :: (nat_lit 619, d614.co) :: (nat_lit 620, d614.fn) :: (nat_lit 626, d621.co) :: (nat_lit 627, d621.fn) :: (nat_lit 633, d628.co) :: (nat_lit 634, d628.fn) :: (nat_lit 640, d635.co) :: (nat_lit 641, d635.fn) :: (nat_lit 647, d642.co) :: (nat_lit 648, d642.fn) :: (nat_lit 654, d649.co) :: (nat_lit 655, d649.fn) :: (nat_lit 661, d656.co) :: (nat_lit 662, d656.fn) :: (nat_lit 663, v780 P) :: (nat_lit 666, v783 P) :: (nat_lit 667, v784 P) :: (nat_lit 668, v785 P) :: (nat_lit 671, v788 P) :: (nat_lit 672, v789 P) :: (nat_lit 678, d673.co) :: (nat_lit 679, d673.fn) :: (nat_lit 685, d680.co) :: (nat_lit 686, d680.fn) :: (nat_lit 692, d687.co) :: (nat_lit 693, d687.fn) :: (nat_lit 699, d694.co) :: (nat_lit 700, d694.fn) :: (nat_lit 706, d701.co) :: (nat_lit 707, d701.fn) :: (nat_lit 713, d708.co) :: (nat_lit 714, d708.fn) :: (nat_lit 720, d715.co) :: (nat_lit 721, d715.fn) :: (nat_lit 727, d722.co) :: (nat_lit 728, d722.fn) :: (nat_lit 734, d729.co) :: (nat_lit 735, d729.fn) :: (nat_lit 741, d736.co) :: (nat_lit 742, d736.fn) :: (nat_lit 748, d743.co) :: (nat_lit 749, d743.fn) :: (nat_lit 755, d750.co) :: (nat_lit 756, d750.fn) :: (nat_lit 762, d757.co) :: (nat_lit 763, d757.fn) :: (nat_lit 769, d764.co) :: (nat_lit 770, d764.fn) :: (nat_lit 776, d771.co) :: (nat_lit 777, d771.fn) :: (nat_lit 783, d778.co) :: (nat_lit 784, d778.fn) :: (nat_lit 785, v902 P) :: (nat_lit 786, v903 P) :: (nat_lit 787, v904 P) :: (nat_lit 788, v905 P) :: (nat_lit 789, v906 P) :: (nat_lit 790, v907 P) :: (nat_lit 791, v908 P) :: (nat_lit 792, v911 P) :: (nat_lit 798, d793.co) :: (nat_lit 799, d793.fn) :: (nat_lit 800, v925 P) :: (nat_lit 803, v928 P) :: (nat_lit 804, v929 P) :: (nat_lit 805, v932 P) :: (nat_lit 808, v935 P) :: (nat_lit 809, v936 P) :: (nat_lit 810, v939 P) :: (nat_lit 813, v942 P) :: (nat_lit 814, v943 P) :: (nat_lit 820, d815.co) :: (nat_lit 821, d815.fn) :: (nat_lit 822, v955 P) :: (nat_lit 825, v958 P) :: (nat_lit 826, v959 P) :: (nat_lit 832, d827.co) :: (nat_lit 833, d827.fn) :: (nat_lit 839, d834.co) :: (nat_lit 840, d834.fn) :: (nat_lit 841, v981 P) :: (nat_lit 844, v984 P) :: (nat_lit 845, v985 P) :: (nat_lit 846, v988 P) :: (nat_lit 847, v989 P) :: (nat_lit 848, v990 P) :: (nat_lit 849, v991 P) :: (nat_lit 851, v993 P) :: (nat_lit 852, v994 P) :: (nat_lit 858, d853.co) :: (nat_lit 859, d853.fn) :: (nat_lit 865, d860.co) :: (nat_lit 866, d860.fn) :: (nat_lit 867, v1009 P) :: (nat_lit 868, v1010 P) :: (nat_lit 869, v1011 P) :: (nat_lit 870, v1012 P) :: (nat_lit 871, v1013 P) :: (nat_lit 872, v1014 P) :: (nat_lit 873, v1015 P) :: (nat_lit 879, d874.co) :: (nat_lit 880, d874.fn) :: (nat_lit 886, d881.co) :: (nat_lit 887, d881.fn) :: (nat_lit 893, d888.co) :: (nat_lit 894, d888.fn) :: (nat_lit 895, v1046 P) :: (nat_lit 898, v1049 P) :: (nat_lit 899, v1050 P) :: (nat_lit 905, d900.co) :: (nat_lit 906, d900.fn) :: (nat_lit 912, d907.co) :: (nat_lit 913, d907.fn) :: (nat_lit 919, d914.co) :: (nat_lit 920, d914.fn) :: (nat_lit 926, d921.co) :: (nat_lit 927, d921.fn) :: (nat_lit 933, d928.co) :: (nat_lit 934, d928.fn) :: (nat_lit 940, d935.co) :: (nat_lit 941, d935.fn) :: (nat_lit 942, v1108 P) :: (nat_lit 945, v1111 P) :: (nat_lit 946, v1112 P) :: (nat_lit 952, d947.co) :: (nat_lit 953, d947.fn) :: (nat_lit 959, d954.co) :: (nat_lit 960, d954.fn) :: (nat_lit 966, d961.co) :: (nat_lit 967, d961.fn) :: (nat_lit 968, v1142 P) :: (nat_lit 971, v1145 P) :: (nat_lit 972, v1146 P) :: (nat_lit 978, d973.co) :: (nat_lit 979, d973.fn) :: (nat_lit 985, d980.co) :: (nat_lit 986, d980.fn) :: (nat_lit 992, d987.co) :: (nat_lit 993, d987.fn) :: []
theorem ks_eq (P : Params) : ks = (K P).map (·.1) := by kernel_rfl
def Hk : Hook := kHook K ks ks_eq
def Xt (s : Shared) : Bool := xlAt q [] s && recOk [] s
def NN : Nat := 1000000
theorem size_eq (w : World) : ((boot_heap w.params).isNs mainGlobals && (#[] : Array GenState).size == 0, (boot_heap w.params).objs.size, (boot_heap w.params).nsMap mainGlobals "__annotations__") = (true, 11, ann) := by kernel_rfl
theorem op1 : opening p = plainProg p.main.scope.names := by kernel_rfl
theorem op2 (s : Shared) : fenceModules? p s = some s := by kernel_rfl
theorem look1 (w : World) (os : OsState) : (staticsOk (importedModules p.main.body) (boot_heap w.params) (H1 w.params) && namesBound p (H1 w.params) && gensDone ⟨H1 w.params, #[], {}, 1744, os⟩ && laidKept (boot_heap w.params) (H1 w.params)) = true := by kernel_rfl
theorem l2a (w : World) (os : OsState) : PyProof.Rows.seen (List.map (fun x => x.name) (recsOf q)) (ownsOf q) [] ⟨H1 w.params, #[], {}, 1744, os⟩ = expectedOf q := by rw [PySem.W.Fast.te5160383126252970620]; kernel_rfl
theorem l2b (w : World) (os : OsState) : (H1 w.params).bltView = bltViewBooted := by kernel_rfl
theorem l2c (w : World) (os : OsState) : (H1 w.params).keysOk (looseW q loose) (List.map (fun x => x.name) (recsOf q)) (List.map (fun x => x.fst) (litsOf q)) (List.map (fun x => x.name) (clssOf q (looseW q loose))) = true := by rw [PySem.W.Fast.te10880121769531294198]; kernel_rfl
theorem l2d (w : World) (os : OsState) : (H1 w.params).accountedOkI (importedModules p.main.body) = true := by rw [PySem.W.Fast.te14722251495701143533]; kernel_rfl
theorem l2e (w : World) (os : OsState) : ((H1 w.params).isNs mainGlobals && (H1 w.params).isNs builtinsNs) = true := by kernel_rfl
theorem l2f (w : World) (os : OsState) : tablesOk q (H1 w.params) = true := by rw [PySem.W.Fast.te10994771534591457954]; kernel_rfl
theorem l2g (w : World) (os : OsState) : Xt ⟨H1 w.params, #[], {}, 1744, os⟩ = true := by kernel_rfl
theorem l2h (w : World) (os : OsState) : tabsOk q ⟨H1 w.params, #[], {}, 1744, os⟩ = true := by rw [PySem.W.Fast.te479339242167458305]; kernel_rfl
theorem l2i (w : World) (os : OsState) : pinSeenD q (drecsOf q) ⟨H1 w.params, #[], {}, 1744, os⟩ = pinGoodD (drecsOf q) := by kernel_rfl
theorem l2j (w : World) (os : OsState) : plainSeenE q (looseW q loose) ⟨H1 w.params, #[], {}, 1744, os⟩ = plainGoodE q (looseW q loose) := by rw [PySem.W.Fast.te2386780881361962483]; kernel_rfl
theorem l2k (w : World) (os : OsState) : plainSeenD q loose ⟨H1 w.params, #[], {}, 1744, os⟩ = plainGoodD q loose := by rw [PySem.W.Fast.te11698064438423848299]; kernel_rfl
theorem l2l (w : World) (os : OsState) : wideSeen q ⟨H1 w.params, #[], {}, 1744, os⟩ = wideGood q := by rw [PySem.W.Fast.te7317090234206586261]; kernel_rfl
theorem l2m (w : World) (os : OsState) : clsSeenW q loose ⟨H1 w.params, #[], {}, 1744, os⟩ = clsGoodW q loose := by rw [PySem.W.Fast.te7369524293546568484]; kernel_rfl
theorem look2 (w : World) (os : OsState) : openSeen q loose (importedModules p.main.body) Xt true ⟨H1 w.params, #[], {}, 1744, os⟩ = openGood q loose :=
  open_of (l2a w os) (l2b w os) (l2c w os) (l2d w os) (l2e w os) (l2f w os) (l2g w os) (l2h w os) (l2i w os) (l2j w os) (l2k w os) (l2l w os) (l2m w os)
theorem look3 (w : World) (os : OsState) : Hk.obs ⟨H1 w.params, #[], {}, 1744, os⟩ = Hk.val w := by kernel_rfl
theorem left : LeftO p q loose Xt Hk.obs Hk.val NN :=
  LeftO.of_pieces (H₀ := boot_heap) (H₁ := H1) (gs₀ := #[]) (gs₁ := #[]) (d₀ := boot_drawn) (d₁ := {}) (k₀ := boot_toks) (k₁ := 1744) (m₀ := 11) (ann := ann) (M := 12 + (1 + (391 + (315 + (397 + (300 + (214 + (214 + (214 + (214 + (223 + (11779 + (118 + (401 + (480 + (238 + (718 + (44 + (1159 + (300 + (382 + (375 + (70 + 2))))))))))))))))))))))) (boot_open op1 (by decide) op2) size_eq run_eq (by decide)
    fun w => funext fun os => Prod.ext (look1 w os) (Prod.ext (look2 w os) (look3 w os))
end
end H03
section
namespace L2
open PySem PySem.Spec PyProof.Rows
abbrev Key := Sum Int Str
def keyIs : Key → Value → Bool
  | .inl k, v => Value.isInt k v
  | .inr x, v => Value.isStrOf x v
def keyH (w : World) : Key → Int
  | .inl k => hashInt k
  | .inr x => hashStr w x
theorem keyIs_shape : ∀ {k : Key} {v : Value}, keyIs k v = true → (∃ i t, k = Sum.inl i ∧ v = Value.int i t) ∨ (∃ x t, k = Sum.inr x ∧ v = Value.str x t)
  | .inl i, v, h => by
    obtain ⟨t, e⟩ := Value.isInt_shape (k := i) (v := v) h
    exact .inl ⟨i, t, rfl, e⟩
  | .inr x, v, h => by
    obtain ⟨t, e⟩ := Value.isStrOf_shape (x := x) (v := v) h
    exact .inr ⟨x, t, rfl, e⟩
theorem key_ll (a b : Int) : decide ((Sum.inl a : Key) = Sum.inl b) = (a == b) := by
  by_cases e : a = b
  · subst e; simp
  · have h : ¬ (Sum.inl a : Key) = Sum.inl b := fun q => e (Sum.inl.inj q)
    rw [decide_eq_false h]
    exact (beq_eq_false_iff_ne.mpr e).symm
theorem key_rr (a b : Str) : decide ((Sum.inr a : Key) = Sum.inr b) = decide (a = b) := by
  by_cases e : a = b
  · subst e; simp
  · have h : ¬ (Sum.inr a : Key) = Sum.inr b := fun q => e (Sum.inr.inj q)
    rw [decide_eq_false h, decide_eq_false e]
theorem key_lr (a : Int) (b : Str) : decide ((Sum.inl a : Key) = Sum.inr b) = false := decide_eq_false (fun q => nomatch q)
theorem key_rl (a : Str) (b : Int) : decide ((Sum.inr a : Key) = Sum.inl b) = false := decide_eq_false (fun q => nomatch q)
def mixKind (prog : Program) (w : World) : PySem.KeyKind prog w Key where
  is := keyIs
  hash := keyH w
  inj := fun v a b ha hb => by
    rcases keyIs_shape ha with ⟨i, t, rfl, rfl⟩ | ⟨x, t, rfl, rfl⟩
    · rcases keyIs_shape hb with ⟨j, u, rfl, e⟩ | ⟨y, u, rfl, e⟩
      · injection e with e1 _; rw [e1]
      · exact nomatch e
    · rcases keyIs_shape hb with ⟨j, u, rfl, e⟩ | ⟨y, u, rfl, e⟩
      · exact nomatch e
      · injection e with e1 _; rw [e1]
  byValue := fun k v h => by
    rcases keyIs_shape h with ⟨i, t, rfl, rfl⟩ | ⟨x, t, rfl, rfl⟩ <;> rfl
  pyHash := fun hv h => by
    rcases keyIs_shape hv with ⟨i, t, rfl, rfl⟩ | ⟨x, t, rfl, rfl⟩
    · exact wpAny_pyHash_int h
    · exact wpAny_pyHash_str h
  eqBool := fun hu hv h => by
    rcases keyIs_shape hu with ⟨i, t, rfl, rfl⟩ | ⟨x, t, rfl, rfl⟩
    · rcases keyIs_shape hv with ⟨j, u, rfl, rfl⟩ | ⟨y, u, rfl, rfl⟩
      · rw [key_ll] at h; exact wpAny_eqBool_int h
      · rw [key_lr] at h; exact SeqAt.EqAt.int_str i t y u _ _ _ _ h
    · rcases keyIs_shape hv with ⟨j, u, rfl, rfl⟩ | ⟨y, u, rfl, rfl⟩
      · rw [key_rl] at h; exact SeqAt.EqAt.str_int x t j u _ _ _ _ h
      · rw [key_rr] at h; exact wpAny_eqBool_str h
  «strs» := fun k x t v h => by
    rcases keyIs_shape h with ⟨i, u, rfl, e⟩ | ⟨y, u, rfl, e⟩
    · exact nomatch e
    · injection e with e1 _
      subst e1
      cases v <;> rfl
end L2
namespace L2
open PySem PySem.Spec PyProof.Rows
inductive V where
  | non | bl (b : Bool) | int (i : Int) | str (x : Str) | byt (b : Array UInt8) | flt (b : UInt64) | ref (a : Addr) | ty (n : String)
  deriving DecidableEq
def RelV : V → Value → Prop
  | .non, u => u = Value.none
  | .bl b, u => u = Value.bool b
  | .int i, u => ∃ t, u = Value.int i t
  | .str x, u => ∃ t, u = Value.str x t
  | .byt b, u => ∃ t, u = Value.bytes b t
  | .flt b, u => ∃ t, u = Value.float b t
  | .ref a, u => u = Value.ref a
  | .ty n, u => u = Value.type n
abbrev Vals : List V → List Value → Prop := Paired RelV
theorem Vals.length {xs : List V} {us : List Value} (r : Vals xs us) : xs.length = us.length := Paired.length r
theorem Vals.get : ∀ {xs : List V} {us : List Value} {i : Nat} {x : V}, Vals xs us → xs[i]? = some x → ∃ u, us[i]? = some u ∧ RelV x u
  | _, _, _, _, .nil, e => by simp at e
  | _, _, 0, _, .cons r _, e => by simp at e; subst e; exact ⟨_, rfl, r⟩
  | _, _, i + 1, x, .cons _ t, e => by
    obtain ⟨u, h1, h2⟩ := Vals.get (i := i) (x := x) t (by simpa using e)
    exact ⟨u, by simpa using h1, h2⟩
theorem Vals.set {x : V} {u : Value} (r : RelV x u) : ∀ {xs : List V} {us : List Value} (i : Nat), Vals xs us → Vals (xs.set i x) (us.set i u)
  | _, _, _, .nil => .nil
  | _, _, 0, .cons _ t => .cons r t
  | _, _, i + 1, .cons q t => .cons q (Vals.set r i t)
theorem Vals.append : ∀ {xs ys : List V} {us ws : List Value}, Vals xs us → Vals ys ws → Vals (xs ++ ys) (us ++ ws)
  | _, _, _, _, .nil, s => s
  | _, _, _, _, .cons r t, s => .cons r (Vals.append t s)
theorem Vals.take : ∀ {xs : List V} {us : List Value} (n : Nat), Vals xs us → Vals (xs.take n) (us.take n)
  | _, _, 0, _ => .nil
  | _, _, _ + 1, .nil => .nil
  | _, _, n + 1, .cons r t => .cons r (Vals.take n t)
theorem Vals.drop : ∀ {xs : List V} {us : List Value} (n : Nat), Vals xs us → Vals (xs.drop n) (us.drop n)
  | _, _, 0, r => r
  | _, _, _ + 1, .nil => .nil
  | _, _, n + 1, .cons _ t => Vals.drop n t
def RelO : Option V → Option Value → Prop
  | some v, some u => RelV v u
  | none, none => True
  | _, _ => False
def KV {κ : Type} : List (κ × V) → List (κ × Value) → Prop := Paired fun (p : κ × V) (q : κ × Value) => p.1 = q.1 ∧ RelV p.2 q.2
def kV : Key → V
  | .inl i => .int i
  | .inr x => .str x
inductive HO where
  /-- a list -/
  | lst (xs : List V)
  /-- a tuple (never changes) -/
  | tup (xs : List V)
  /-- a dict whose keys are ints and texts; one whose keys are tuples of ints and texts (the empty one is both) -/
  | dK (kvs : List (Key × V)) | dT (kvs : List (List Key × V))
  /-- a set of ints: its members, its size -/
  | set (S : Int → Bool) (n : Nat)
  /-- an instance of the class at C, its dict at dx, its attributes -/
  | ins (C dx : Addr) (fs : List (Str × V))
  /-- the dict of the instance at x -/
  | own (x : Addr)
  /-- the dict of an exception -/
  | xd (fs : List (Str × V))
  /-- a bound method, f of x -/
  | met (f x : Addr)
  /-- a range object lo, lo + 1, .. below hi -/
  | rng (lo hi : Int)
  /-- a thing that is known to the object (the script; a dict while a loop walks it): read, never written while it is so -/
  | frz (o : Obj) (u : HO)
  /-- a code object's table -/
  | tbl (ps : Array Value)
  /-- any other thing, by what is true of its one object (a def of one's own: SetO a S n := HO.ext fun h => ..) -/
  | ext (φ : Heap → Prop)
abbrev Hp := Addr → Option HO
def upd (H : Hp) (a : Addr) (o : HO) : Hp := fun b => if b = a then some o else H b
theorem upd_same {H : Hp} {a : Addr} {o : HO} : upd H a o a = some o := by unfold upd; rw [if_pos rfl]
theorem upd_ne {H : Hp} {a b : Addr} {o : HO} (h : b ≠ a) : upd H a o b = H b := by unfold upd; rw [if_neg h]
theorem upd_upd {H : Hp} {a : Addr} {o u : HO} : upd (upd H a o) a u = upd H a u := by
  funext b; unfold upd; split <;> rfl
theorem ne_of {H : Hp} {a b : Addr} {o u : HO} (h : H a = some o) (h' : H b = some u) (d : o ≠ u) : a ≠ b := by
  intro e; subst e; rw [h] at h'; exact d (Option.some.inj h')
theorem ne_of_none {H : Hp} {a b : Addr} {o : HO} (h : H a = some o) (h' : H b = none) : a ≠ b := by
  intro e; subst e; rw [h] at h'; cases h'
section
variable (P : Program) (w : World)
def ObjOk (H : Hp) (h : Heap) (a : Addr) : HO → Prop
  | .lst xs => xs.length ≤ sizeLine ∧ ∃ (its : List Value) (n : Nat), Vals xs its ∧ h.get? a = some { cls := .type "list", data := .seq its.toArray n }
  | .tup xs => xs.length ≤ sizeLine ∧ ∃ its : List Value, Vals xs its ∧ IsTup h a its.toArray
  | .dK kvs => kvs.length ≤ sizeLine ∧ (a == sysModules) = false ∧ ∃ vs, KV kvs vs ∧ h.DictOf (mixKind P w) a vs
  | .dT kvs => kvs.length ≤ sizeLine ∧ (a == sysModules) = false ∧ ∃ xs : List (List Key × Addr × Value),
      Paired (fun (p : List Key × V) (q : List Key × Addr × Value) => p.1 = q.1 ∧ H q.2.1 = some (.tup (p.1.map kV)) ∧ RelV p.2 q.2.2) kvs xs ∧
      ∃ o es ep, h.get? a = some o ∧ o.ExactDict ∧ o.data = .dict es ep ∧ es.toList = xs.map (entryOfKey (tupleKind (mixKind P w))) ∧ (xs.map (·.1)).Nodup
  | .set S n => h.SetOf (intKind P w) a S n
  | .ins C dx fs => H dx = some (.own a) ∧ fs.length ≤ 1000 ∧ dx ≠ a ∧ h.get? a = some (PySem.W.instObj C dx) ∧
      ∃ mA, h.Ns1 dx mA ∧ (∀ f, RelO (fs.lookup f) (mA f)) ∧ PySem.Within mA (fs.map (·.1))
  | .own _ => ∃ o, h.get? a = some o
  | .xd fs => ∃ mA, h.Ns1 a mA ∧ ∀ f, RelO (fs.lookup f) (mA f)
  | .rng lo hi => ∃ t u v, h.get? a = some { cls := .type "range", data := .fields #[.int lo t, .int hi u, .int 1 v] }
  | .frz o u => h.get? a = some o ∧ ObjOk H h a u
  | .tbl ps => h.get? a = some { cls := .none, data := .fields ps }
  | .met f x => h.get? a = some (PySem.W.methodObj (.ref f) (.ref x))
  | .ext φ => φ h ∧ (∃ o, h.get? a = some o) ∧ ∀ h1 h2 : Heap, φ h1 → (∀ o, h1.get? a = some o → h2.get? a = some o) → φ h2
def HOk (H : Hp) (h : Heap) : Prop := ∀ a o, H a = some o → ObjOk P w H h a o
end
section
variable {P : Program} {w : World} {H H' : Hp} {h h' : Heap} {a : Addr} {o : HO}
theorem ObjOk.lt (x : ObjOk P w H h a o) : a < h.objs.size := by
  cases o with
  | lst xs => obtain ⟨_, _, _, _, e⟩ := x; exact Heap.lt_size e
  | tup xs => obtain ⟨_, _, _, p⟩ := x; exact p.lt
  | dK kvs => obtain ⟨_, _, _, _, o, _, _, e, _⟩ := x; exact Heap.lt_size e
  | dT kvs => obtain ⟨_, _, _, _, o, _, _, e, _⟩ := x; exact Heap.lt_size e
  | set S n => obtain ⟨o, _, _, _, e, _⟩ := x; exact Heap.lt_size e
  | ins C dx fs => obtain ⟨_, _, _, e, _⟩ := x; exact Heap.lt_size e
  | own y => obtain ⟨_, e⟩ := x; exact Heap.lt_size e
  | xd fs => obtain ⟨_, ⟨_, _, _, e, _⟩, _⟩ := x; exact Heap.lt_size e
  | rng lo hi => obtain ⟨_, _, _, e⟩ := x; exact Heap.lt_size e
  | frz ob u => obtain ⟨e, _⟩ := x; exact Heap.lt_size e
  | tbl ps => exact Heap.lt_size (show h.get? a = some _ from x)
  | met f y => exact Heap.lt_size (show h.get? a = some _ from x)
  | ext φ => obtain ⟨_, ⟨_, e⟩, _⟩ := x; exact Heap.lt_size e
theorem Paired.mapP {α β : Type} {F G : α → β → Prop} : ∀ {l₁ : List α} {l₂ : List β}, Paired F l₁ l₂ → (∀ a b, F a b → G a b) → Paired G l₁ l₂
  | _, _, .nil, _ => .nil
  | _, _, .cons r t, f => .cons (f _ _ r) (Paired.mapP t f)
theorem ObjOk.stay (x : ObjOk P w H h a o) (k : ∀ b u, (b = a ∨ H b = some (.own a)) → h.get? b = some u → h'.get? b = some u)
    (ho : ∀ b, H b = some (.own a) → H' b = some (.own a)) (ht : ∀ b xs, H b = some (.tup xs) → H' b = some (.tup xs)) : ObjOk P w H' h' a o := by
  induction o with
  | lst xs => obtain ⟨z, its, n, r, e⟩ := x; exact ⟨z, its, n, r, k _ _ (.inl rfl) e⟩
  | tup xs => obtain ⟨z, its, r, ob, e, c⟩ := x; exact ⟨z, its, r, ob, k _ _ (.inl rfl) e, c⟩
  | dK kvs => obtain ⟨z, y, vs, r, ob, es, ep, e, c⟩ := x; exact ⟨z, y, vs, r, ob, es, ep, k _ _ (.inl rfl) e, c⟩
  | dT kvs =>
    obtain ⟨z, y, xs, r, ob, es, ep, e, c⟩ := x
    exact ⟨z, y, xs, Paired.mapP r fun p q z => ⟨z.1, ht _ _ z.2.1, z.2.2⟩, ob, es, ep, k _ _ (.inl rfl) e, c⟩
  | set S n => obtain ⟨ob, es, ep, t, e, c⟩ := x; exact ⟨ob, es, ep, t, k _ _ (.inl rfl) e, c⟩
  | ins C dx fs =>
    obtain ⟨d, z, ne, e, mA, ⟨od, es, ep, e2, c⟩, r⟩ := x
    exact ⟨ho _ d, z, ne, k _ _ (.inl rfl) e, mA, ⟨od, es, ep, k _ _ (.inr d) e2, c⟩, r⟩
  | own y => obtain ⟨ob, e⟩ := x; exact ⟨ob, k _ _ (.inl rfl) e⟩
  | xd fs => obtain ⟨mA, ⟨od, es, ep, e, c⟩, r⟩ := x; exact ⟨mA, ⟨od, es, ep, k _ _ (.inl rfl) e, c⟩, r⟩
  | rng lo hi => obtain ⟨t, u, v, e⟩ := x; exact ⟨t, u, v, k _ _ (.inl rfl) e⟩
  | frz ob u ih => obtain ⟨e, q⟩ := x; exact ⟨k _ _ (.inl rfl) e, ih q⟩
  | tbl ps =>
    have e : h.get? a = some { cls := .none, data := .fields ps } := x
    show h'.get? a = some { cls := .none, data := .fields ps }
    exact k a _ (.inl rfl) e
  | met f y =>
    have e : h.get? a = some (PySem.W.methodObj (.ref f) (.ref y)) := x
    show h'.get? a = some (PySem.W.methodObj (.ref f) (.ref y))
    exact k a _ (.inl rfl) e
  | ext φ => obtain ⟨p, ⟨o, e⟩, st⟩ := x; exact ⟨st _ _ p fun o q => k _ _ (.inl rfl) q, ⟨o, k _ _ (.inl rfl) e⟩, st⟩
theorem HOk.lt (x : HOk P w H h) (e : H a = some o) : a < h.objs.size := (x a o e).lt
theorem HOk.fresh (x : HOk P w H h) (e : h.objs.size ≤ a) : H a = none := by
  cases q : H a with
  | none => rfl
  | some u => exact absurd (Nat.lt_of_lt_of_le (x.lt q) e) (Nat.lt_irrefl _)
theorem HOk.kept (x : HOk P w H h) (k : ∀ b u, h.get? b = some u → h'.get? b = some u) : HOk P w H h' := fun a o e =>
  (x a o e).stay (fun b u _ q => k b u q) (fun _ q => q) fun _ _ q => q
theorem HOk.laid (x : HOk P w H h) (k : ∀ b u, h.get? b = some u → h'.get? b = some u) (hp : h.objs.size ≤ a) (new : ObjOk P w (upd H a o) h' a o) : HOk P w (upd H a o) h' := fun b u e => by
  have hn := x.fresh hp
  by_cases hb : b = a
  · subst hb; rw [upd_same] at e; cases e; exact new
  · rw [upd_ne hb] at e
    exact (x b u e).stay (fun c v _ q => k c v q) (fun c q => by rw [upd_ne (ne_of_none q hn)]; exact q) fun c xs q => by rw [upd_ne (ne_of_none q hn)]; exact q
end
def Rd (H : Hp) (a : Addr) (u : HO) : Prop := H a = some u ∨ ∃ o, H a = some (.frz o u)
theorem Rd.of {H : Hp} {a : Addr} {u : HO} (h : H a = some u) : Rd H a u := .inl h
theorem Rd.ok {P : Program} {w : World} {H : Hp} {h : Heap} {a : Addr} {u : HO} (r : Rd H a u) (x : HOk P w H h) : ObjOk P w H h a u := by
  rcases r with r | ⟨o, r⟩
  · exact x a u r
  · obtain ⟨_, q⟩ := x a _ r
    exact q
def Mut : Option HO → Prop
  | some (.lst _) => True
  | some (.dK _) => True
  | some (.dT _) => True
  | some (.set _ _) => True
  | some (.ins _ _ _) => True
  | some (.ext _) => True
  | _ => False
section
variable {P : Program} {w : World} {H : Hp} {h h' : Heap} {x e : Addr} {o' : HO}
theorem HOk.write (ok : HOk P w H h) (mu : Mut (H x)) (he : e = x ∨ H e = some (.own x)) (k : ∀ b u, b ≠ e → h.get? b = some u → h'.get? b = some u) (heo : ∃ u, h'.get? e = some u)
    (new : ObjOk P w (upd H x o') h' x o') : HOk P w (upd H x o') h' := fun b u q => by
  have nown : ∀ c y, H c = some (.own y) → c ≠ x := fun c y r z => by subst z; rw [r] at mu; exact mu
  have ntup : ∀ c xs, H c = some (.tup xs) → c ≠ x := fun c xs r z => by subst z; rw [r] at mu; exact mu
  by_cases hb : b = x
  · subst hb; rw [upd_same] at q; cases q; exact new
  · rw [upd_ne hb] at q
    by_cases hbe : b = e
    · have q' : H b = some (.own x) := by
        rcases he with z | z
        · exact absurd (hbe.trans z) hb
        · rw [hbe]; exact z
      rw [q] at q'; cases q'
      obtain ⟨v, hv⟩ := heo
      exact ⟨v, by rw [hbe]; exact hv⟩
    · refine (ok b u q).stay (fun c v hc r => k c v ?_ r) (fun c r => by rw [upd_ne (nown c b r)]; exact r) fun c xs r => by rw [upd_ne (ntup c xs r)]; exact r
      rcases hc with rfl | hc
      · exact hbe
      · rintro rfl
        rcases he with z | z
        · exact nown c b hc z
        · rw [hc] at z; cases z; exact hb rfl
end
structure Un (fs ex : List Addr) (H H' : Hp) (h h' : Heap) : Prop where
  keep : ∀ b o, h.get? b = some o → H b = none → b ∉ fs → b ∉ ex → h'.get? b = some o
  slot : ∀ b o, h.get? b = some o → H b = none → b ∈ fs → b ∉ ex → ∃ sl, h'.get? b = some { o with slots := sl }
  free : ∀ b o, h.get? b = some o → H b = none → b ∉ ex → H' b = none
  there : ∀ b o, h.get? b = some o → b ∉ ex → ∃ o', h'.get? b = some o'
  tups : ∀ b xs, H b = some (.tup xs) → H' b = some (.tup xs)
  frzs : ∀ b o u, H b = some (.frz o u) → H' b = some (.frz o u)
  tbls : ∀ b ps, H b = some (.tbl ps) → ∃ more, H' b = some (.tbl (ps ++ more))
section
variable {fs fs' ex ex' : List Addr} {H H1 H2 : Hp} {h h1 h2 h' : Heap} {a x e : Addr} {o : HO}
theorem Un.any (u : Un fs ex H H1 h h1) {b : Addr} {ob : Obj} (q : h.get? b = some ob) (n : H b = none) (hx : b ∉ ex) : ∃ sl, h1.get? b = some { ob with slots := sl } := by
  by_cases hb : b ∈ fs
  · exact u.slot b ob q n hb hx
  · exact ⟨ob.slots, u.keep b ob q n hb hx⟩
theorem Un.trans (a : Un fs ex H H1 h h1) (b : Un fs ex H1 H2 h1 h2) : Un fs ex H H2 h h2 where
  keep := fun c ob q n hc hx => b.keep c ob (a.keep c ob q n hc hx) (a.free c ob q n hx) hc hx
  slot := fun c ob q n hc hx => by
    obtain ⟨sl, e1⟩ := a.slot c ob q n hc hx
    obtain ⟨sl', e2⟩ := b.slot c _ e1 (a.free c ob q n hx) hc hx
    exact ⟨sl', e2⟩
  free := fun c ob q n hx => by
    obtain ⟨o', e1⟩ := a.there c ob q hx
    exact b.free c o' e1 (a.free c ob q n hx) hx
  there := fun c ob q hx => by
    obtain ⟨o', e1⟩ := a.there c ob q hx
    exact b.there c o' e1 hx
  tups := fun c xs q => b.tups c xs (a.tups c xs q)
  frzs := fun c ob xs q => b.frzs c ob xs (a.frzs c ob xs q)
  tbls := fun c ps q => by
    obtain ⟨m1, e1⟩ := a.tbls c ps q
    obtain ⟨m2, e2⟩ := b.tbls c _ e1
    exact ⟨m1 ++ m2, by rw [e2, Array.append_assoc]⟩
theorem Un.kept (k : ∀ b u, h.get? b = some u → h'.get? b = some u) : Un fs ex H H h h' :=
  ⟨fun b ob q _ _ _ => k b ob q, fun b ob q _ _ _ => ⟨ob.slots, k b ob q⟩, fun _ _ _ n _ => n, fun b ob q _ => ⟨ob, k b ob q⟩, fun _ _ q => q, fun _ _ _ q => q, fun _ ps q => ⟨#[], by rw [q]; simp⟩⟩
theorem Un.refl : Un fs ex H H h h := Un.kept fun _ _ q => q
theorem Un.laid (k : ∀ b u, h.get? b = some u → h'.get? b = some u) (hp : h.objs.size ≤ a) (hn : H a = none) : Un fs ex H (upd H a o) h h' where
  keep := fun b u q _ _ _ => k b u q
  slot := fun b u q _ _ _ => ⟨u.slots, k b u q⟩
  free := fun b u q n _ => by rw [upd_ne (Nat.ne_of_lt (Nat.lt_of_lt_of_le (Heap.lt_size q) hp))]; exact n
  there := fun b u q _ => ⟨u, k b u q⟩
  tups := fun b xs q => by rw [upd_ne (ne_of_none q hn)]; exact q
  frzs := fun b u xs q => by rw [upd_ne (ne_of_none q hn)]; exact q
  tbls := fun b ps q => ⟨#[], by rw [upd_ne (ne_of_none q hn), q]; simp⟩
theorem Un.write (mu : Mut (H x)) (he : e = x ∨ H e = some (.own x)) (k : ∀ b u, b ≠ e → h.get? b = some u → h'.get? b = some u) (heo : ∃ u, h'.get? e = some u) : Un fs ex H (upd H x o) h h' := by
  have hx : ∀ b, H b = none → b ≠ x := fun b n z => by subst z; rw [n] at mu; exact mu
  have hb : ∀ b, H b = none → b ≠ e := fun b n z => by
    subst z
    rcases he with r | r
    · exact hx b n r
    · rw [n] at r; cases r
  have hm : ∀ b u, H b = some u → ¬ Mut (some u) → b ≠ x := fun b u q nm z => by subst z; rw [q] at mu; exact nm mu
  refine ⟨fun b u q n _ _ => k b u (hb b n) q, fun b u q n _ _ => ⟨u.slots, k b u (hb b n) q⟩, fun b u q n _ => by rw [upd_ne (hx b n)]; exact n, fun b u q _ => ?_,
    fun b xs q => by rw [upd_ne (hm b _ q fun z => z)]; exact q, fun b u xs q => by rw [upd_ne (hm b _ q fun z => z)]; exact q, fun b ps q => ⟨#[], by rw [upd_ne (hm b _ q fun z => z), q]; simp⟩⟩
  by_cases hbe : b = e
  · subst hbe; exact heo
  · exact ⟨u, k b u hbe q⟩
theorem Un.mono (u : Un fs ex H H1 h h1) (hs : ∀ b ∈ fs, b ∈ fs') (hx : ∀ b ∈ ex, b ∈ ex') : Un fs' ex' H H1 h h1 :=
  ⟨fun b ob q n hb he => u.keep b ob q n (fun z => hb (hs b z)) fun z => he (hx b z), fun _ _ q n _ he => u.any q n fun z => he (hx _ z), fun b ob q n he => u.free b ob q n fun z => he (hx b z), fun b ob q he => u.there b ob q fun z => he (hx b z), u.tups, u.frzs, u.tbls⟩
end
def trk (h : Heap) (H : Hp) : List Addr := (List.range h.objs.size).filter fun a => (H a).isSome
def hidT (h : Heap) (H : Hp) : Heap := PySem.W.hideAll h (trk h H)
theorem hidT_size (h : Heap) (H : Hp) : (hidT h H).objs.size = h.objs.size := PySem.W.hideAll_size _ _
theorem hidT_get {h : Heap} {H : Hp} {b : Addr} {o : Obj} (e : h.get? b = some o) (n : H b = none) : (hidT h H).get? b = some o :=
  PySem.W.hideAll_get _ e fun hm => by
    have q : (H b).isSome = true := (List.mem_filter.mp hm).2
    rw [n] at q; simp at q
theorem of_hidT {h : Heap} {H : Hp} {b : Addr} {o : Obj} (e : (hidT h H).get? b = some o) : h.get? b = some o ∧ H b = none := by
  have e' : h.get? b = some o := PySem.W.of_hideAll (trk h H) e
  refine ⟨e', ?_⟩
  cases q : H b with
  | none => rfl
  | some x =>
    have hm : b ∈ trk h H := List.mem_filter.mpr ⟨List.mem_range.mpr (Heap.lt_size e'), by simp [q]⟩
    have z : (hidT h H).get? b = none := PySem.W.hideAll_none (trk h H) hm
    rw [z] at e; cases e
def allNews (g h : Heap) (L : Addr) : List (Addr × Obj) := (List.range h.objs.size).filterMap fun a => if a = L ∨ (g.get? a).isSome = true then none else (h.get? a).map fun o => (a, o)
def rest (g h : Heap) (L d : Addr) : List (Addr × Obj) := (allNews g h L).filter fun p => decide (p.1 ≠ d)
end L2
namespace L2
open PySem PySem.Spec PyProof.Rows
structure Mod (K : PySem.W.Frag) (mg : Str → Option Value) (base : Heap) : Prop where
  kin : K.In base
  glob : base.Ns mainGlobals mg
  blt : ∃ mb, base.Ns builtinsNs mb ∧ ∀ x : Str, x ≠ "__name__" → mb x = bootBuiltins x
  nolimit : base.NoLimit
structure Cx where
  prog : Program
  w : World
  K : PySem.W.Frag
  mg : Str → Option Value
  base : Heap
  A : Around
  N : List Str
  s₀ : Shared
  H₀ : Hp
  env : Env
  outer : List Env
  stack : List Env
  ex : List Addr
  fn : Str → Bool
  calm : Bool
  pn : List (Addr × Obj)
  xe : Value → Shared → Prop
def frs (l : List Env) : List Addr := l.filterMap (·.frame)
abbrev Cx.fs (X : Cx) : List Addr := frs X.outer
def Vis (sc : Scope) (x : Str) : Prop := sc.names.lookup x = some .local ∨ sc.names.lookup x = some .cell ∨ sc.names.lookup x = some .free
def Loc (sc : Scope) (x : Str) : Prop := sc.names.lookup x = some .local ∨ sc.names.lookup x = some .cell
def Look (env : Env) (h : Heap) (m : Str → Option Value) (x : Str) (u : Value) : Prop :=
  (env.kindOf x = some .local ∧ m x = some u) ∨ ((env.kindOf x = some .cell ∨ env.kindOf x = some .free) ∧ ∃ c, env.cells.lookup x = some c ∧ h.IsCell c (some u))
structure Cx.Ok (X : Cx) : Prop where
  mod : Mod X.K X.mg X.base
  kind : X.env.scope.kind = .function
  glob : X.env.globals = mainGlobals
  blt : X.env.builtins = builtinsNs
  above : X.s₀.heap.objs.size ≤ X.env.locals
  inj : ∀ x y c, X.env.cells.lookup x = some c → X.env.cells.lookup y = some c → x = y
  has : ∀ x, (X.env.kindOf x = some .cell ∨ X.env.kindOf x = some .free) → ∃ c, X.env.cells.lookup x = some c
  cab : ∀ x c, X.fn x = true → X.env.cells.lookup x = some c → X.s₀.heap.objs.size ≤ c
  hd : X.calm = true → X.A.handled = none
  frames : X.A.frames = some X.stack
  stk : X.stack = X.outer ∨ (X.stack = X.env :: X.outer ∧ X.env.frame = some X.env.locals)
  exf : ∀ b ∈ X.ex, b ≠ X.env.locals ∧ ∀ x c, X.env.cells.lookup x = some c → c ≠ b
  bs : ∀ b o, X.base.get? b = some o → X.s₀.heap.get? b = some o ∧ X.H₀ b = none
  bsz : X.base.objs.size ≤ X.s₀.heap.objs.size
  noex : ∀ b o, X.base.get? b = some o → b ∉ X.ex
  exfs : ∀ b ∈ X.ex, b ∉ X.fs
  funs : X.s₀.heap.FunFrames X.base X.outer
  frf : ∀ b ∈ X.fs, X.H₀ b = none
structure Inv (X : Cx) (pins : List (Addr × Obj)) (σ : List (Option V)) (H : Hp) (s : Shared) : Prop where
  ok : X.Ok
  os : s.os = X.s₀.os
  bare : AllBare s.gens
  base : Un X.fs X.ex X.H₀ H X.s₀.heap s.heap
  loc : ∃ m, s.heap.Ns X.env.locals m ∧ ∀ (i : Nat) (x : Str) (v : V), X.N[i]? = some x → σ[i]? = some (some v) → Vis X.env.scope x → ∃ u, RelV v u ∧ Look X.env s.heap m x u
  cell : ∀ x c, X.env.cells.lookup x = some c → ∃ v, s.heap.IsCell c v
  free : H X.env.locals = none
  freeC : ∀ x c, X.env.cells.lookup x = some c → H c = none
  pin : ∀ p ∈ X.pn ++ pins, s.heap.get? p.1 = some p.2 ∧ H p.1 = none ∧ p.1 ≠ X.env.locals ∧ p.1 ∉ X.fs ∧ ∀ v, p.2.data ≠ .cell v
  hok : HOk X.prog X.w H s.heap
  len : σ.length = X.N.length
section
variable {X : Cx} {pins : List (Addr × Obj)} {σ : List (Option V)} {H H' : Hp} {s : Shared} {h' : Heap}
theorem Cx.Ok.nofr (ok : X.Ok) {b : Addr} {o : Obj} (e : X.base.get? b = some o) : b ∉ X.fs := fun hb => by
  have := (ok.funs.mem hb).1
  rw [e] at this; cases this
theorem Inv.bs (I : Inv X pins σ H s) : ∀ b o, X.base.get? b = some o → s.heap.get? b = some o ∧ H b = none := fun b o e =>
  ⟨I.base.keep b o (I.ok.bs b o e).1 (I.ok.bs b o e).2 (I.ok.nofr e) (I.ok.noex b o e), I.base.free b o (I.ok.bs b o e).1 (I.ok.bs b o e).2 (I.ok.noex b o e)⟩
theorem Inv.bk (I : Inv X pins σ H s) : ∀ b o, X.base.get? b = some o → s.heap.get? b = some o := fun b o e => (I.bs b o e).1
theorem Inv.mod (I : Inv X pins σ H s) : Mod X.K X.mg X.base := I.ok.mod
theorem Inv.kIn (I : Inv X pins σ H s) : X.K.In s.heap := I.ok.mod.kin.keeps I.bk
theorem Inv.nolimit (I : Inv X pins σ H s) : s.heap.NoLimit := I.ok.mod.nolimit.keeps I.bk
theorem Inv.fr (I : Inv X pins σ H s) : ∃ m, Fr X.base X.env.locals s.heap m :=
  let ⟨m, hn, _⟩ := I.loc
  ⟨m, hn, I.bk, Nat.le_trans I.ok.bsz I.ok.above⟩
theorem Inv.lt (I : Inv X pins σ H s) : X.env.locals < s.heap.objs.size := let ⟨_, hn, _⟩ := I.loc; hn.lt
theorem Inv.sz (I : Inv X pins σ H s) : X.s₀.heap.objs.size ≤ s.heap.objs.size := Nat.le_trans I.ok.above (Nat.le_of_lt I.lt)
theorem Inv.nofs (I : Inv X pins σ H s) {a : Addr} (h : s.heap.objs.size ≤ a) : a ∉ X.fs := fun hb => by
  obtain ⟨_, o, ho, _⟩ := I.ok.funs.mem hb
  exact absurd (Nat.lt_of_lt_of_le (Heap.lt_size ho) (Nat.le_trans I.sz h)) (Nat.lt_irrefl _)
theorem Inv.cne (I : Inv X pins σ H s) : ∀ x c, X.env.cells.lookup x = some c → c ≠ X.env.locals := fun x c e z => by
  obtain ⟨v, o, ho, hd⟩ := I.cell x c e
  obtain ⟨m, ⟨o', es, ep, ho', hd', _⟩, _⟩ := I.loc
  rw [z, ho'] at ho; cases ho; rw [hd'] at hd; cases hd
theorem Inv.funs (I : Inv X pins σ H s) : s.heap.FunFrames X.base X.outer := by
  have all : ∀ (l : List Env), (∀ b ∈ frs l, b ∈ X.fs) → X.s₀.heap.FunFrames X.base l → s.heap.FunFrames X.base l := by
    intro l
    induction l with
    | nil => intro _ _; trivial
    | cons env r ih =>
      intro hs hl
      obtain ⟨hk, ⟨L, o, hf, hn, ho, hd⟩, hr⟩ := hl
      have hL : L ∈ X.fs := hs L (by unfold frs; rw [List.filterMap_cons, hf]; exact List.mem_cons_self)
      obtain ⟨sl, e⟩ := I.base.slot L o ho (I.ok.frf L hL) hL fun z => I.ok.exfs L z hL
      exact ⟨hk, ⟨L, _, hf, hn, e, hd⟩, ih (fun b hb => hs b (by unfold frs; rw [List.filterMap_cons, hf]; exact List.mem_cons_of_mem _ hb)) hr⟩
  exact all X.outer (fun _ hb => hb) I.ok.funs
theorem Inv.stack (I : Inv X pins σ H s) : s.heap.FunFrames X.base X.stack := by
  rcases I.ok.stk with e | ⟨e, hf⟩
  · rw [e]; exact I.funs
  · rw [e]
    obtain ⟨m, hn, _⟩ := I.loc
    refine .cons (by rw [I.ok.kind]; decide) hf hn ?_ I.funs
    exact Heap.get?_none_of_le (Nat.le_trans I.ok.bsz I.ok.above)
theorem Inv.stkSub (I : Inv X pins σ H s) : ∀ b ∈ frs X.stack, b ∈ X.env.locals :: X.fs := fun b hb => by
  rcases I.ok.stk with e | ⟨e, hf⟩
  · rw [e] at hb; exact List.mem_cons_of_mem _ hb
  · rw [e] at hb
    unfold frs at hb
    rw [List.filterMap_cons, hf] at hb
    exact hb
theorem Inv.stkFree (I : Inv X pins σ H s) : ∀ b ∈ frs X.stack, H b = none := fun b hb => by
  rcases List.mem_cons.mp (I.stkSub b hb) with e | hb
  · rw [e]; exact I.free
  · obtain ⟨_, o, ho, _⟩ := I.ok.funs.mem hb
    exact I.base.free b o ho (I.ok.frf b hb) fun z => I.ok.exfs b z hb
theorem Inv.step {g' : Array GenState} {t' : Nat} {d' : Drawn} {ch : List Addr} (I : Inv X pins σ H s)
    (hch : ∀ b ∈ ch, (b ∈ X.ex ∨ X.s₀.heap.objs.size ≤ b) ∧ b ≠ X.env.locals ∧ (∀ x c, X.env.cells.lookup x = some c → c ≠ b) ∧ ∀ p ∈ X.pn ++ pins, p.1 ≠ b)
    (keep : ∀ b o, b ≠ X.env.locals → b ∉ X.fs → b ∉ ch → s.heap.get? b = some o → H b = none → h'.get? b = some o)
    (slot : ∀ b o, b ≠ X.env.locals → b ∈ X.fs → b ∉ ch → s.heap.get? b = some o → H b = none → ∃ sl, h'.get? b = some { o with slots := sl }) (free : ∀ b o, b ∉ ch → s.heap.get? b = some o → H b = none → H' b = none)
    (there : ∀ b o, b ∉ ch → s.heap.get? b = some o → ∃ o', h'.get? b = some o')
    (tups : ∀ b xs, H b = some (.tup xs) → H' b = some (.tup xs)) (frzs : ∀ b o u, H b = some (.frz o u) → H' b = some (.frz o u)) (tbls : ∀ b ps, H b = some (.tbl ps) → ∃ more, H' b = some (.tbl (ps ++ more)))
    (ns : ∀ m, s.heap.Ns X.env.locals m → h'.Ns X.env.locals m) (hok : HOk X.prog X.w H' h') (hg : AllBare g') :
    Inv X pins σ H' { s with heap := h', gens := g', drawn := d', toks := t' } := by
  have neL : ∀ b o, X.s₀.heap.get? b = some o → b ≠ X.env.locals := fun b o e => Nat.ne_of_lt (Nat.lt_of_lt_of_le (Heap.lt_size e) I.ok.above)
  have neC : ∀ b o, X.s₀.heap.get? b = some o → b ∉ X.ex → b ∉ ch := fun b o e hx hb => by
    rcases (hch b hb).1 with z | z
    · exact hx z
    · exact absurd (Nat.lt_of_lt_of_le (Heap.lt_size e) z) (Nat.lt_irrefl _)
  have cellK : ∀ x c, X.env.cells.lookup x = some c → ∀ v, s.heap.IsCell c v → h'.IsCell c v := fun x c e v ⟨o, ho, hd⟩ => by
    have nch : c ∉ ch := fun z => (hch c z).2.2.1 x c e rfl
    by_cases hc : c ∈ X.fs
    · obtain ⟨sl, q⟩ := slot c o (I.cne x c e) hc nch ho (I.freeC x c e)
      exact ⟨_, q, hd⟩
    · exact ⟨o, keep c o (I.cne x c e) hc nch ho (I.freeC x c e), hd⟩
  refine ⟨I.ok, I.os, hg, ⟨fun b o e n hb hx => ?_, fun b o e n hb hx => ?_, fun b o e n hx => ?_, fun b o e hx => ?_, fun b xs e => tups b xs (I.base.tups b xs e), fun b o xs e => frzs b o xs (I.base.frzs b o xs e), fun b ps e => ?_⟩, ?_, fun x c e => ?_, ?_, fun x c e => ?_, fun p hp => ?_, hok, I.len⟩
  · exact keep b o (neL b o e) hb (neC b o e hx) (I.base.keep b o e n hb hx) (I.base.free b o e n hx)
  · obtain ⟨sl, e1⟩ := I.base.slot b o e n hb hx
    obtain ⟨sl', e2⟩ := slot b _ (neL b o e) hb (neC b o e hx) e1 (I.base.free b o e n hx)
    exact ⟨sl', e2⟩
  · obtain ⟨o', e1⟩ := I.base.there b o e hx
    exact free b o' (neC b o e hx) e1 (I.base.free b o e n hx)
  · obtain ⟨o', e1⟩ := I.base.there b o e hx
    exact there b o' (neC b o e hx) e1
  · obtain ⟨m1, e1⟩ := I.base.tbls b ps e
    obtain ⟨m2, e2⟩ := tbls b _ e1
    exact ⟨m1 ++ m2, by rw [e2, Array.append_assoc]⟩
  · obtain ⟨m, hn, hl⟩ := I.loc
    refine ⟨m, ns m hn, fun i x v e1 e2 e3 => ?_⟩
    obtain ⟨u, r, l⟩ := hl i x v e1 e2 e3
    refine ⟨u, r, ?_⟩
    rcases l with l | ⟨k, c, e, z⟩
    · exact .inl l
    · exact .inr ⟨k, c, e, cellK x c e _ z⟩
  · obtain ⟨v, z⟩ := I.cell x c e
    exact ⟨v, cellK x c e v z⟩
  · obtain ⟨m, ⟨o, _, _, ho, _⟩, _⟩ := I.loc
    exact free _ o (fun z => (hch _ z).2.1 rfl) ho I.free
  · obtain ⟨v, o, ho, hd⟩ := I.cell x c e
    exact free c o (fun z => (hch c z).2.2.1 x c e rfl) ho (I.freeC x c e)
  · obtain ⟨e, n, ne, nf, d⟩ := I.pin p hp
    have nch : p.1 ∉ ch := fun z => (hch p.1 z).2.2.2 p hp rfl
    exact ⟨keep p.1 p.2 ne nf nch e n, free p.1 p.2 nch e n, ne, nf, d⟩
theorem Inv.un {t' : Nat} (I : Inv X pins σ H s) (u : Un X.fs [] H H' s.heap h') (hok : HOk X.prog X.w H' h') : Inv X pins σ H' { s with heap := h', toks := t' } := by
  obtain ⟨m, ⟨o, es, ep, ho, r⟩, _⟩ := id I.loc
  obtain ⟨sl, hL⟩ := u.any ho I.free (by simp)
  exact I.step (g' := s.gens) (d' := s.drawn) (ch := []) (fun _ z => nomatch z) (fun b o _ hb _ e n => u.keep b o e n hb (by simp)) (fun b o _ hb _ e n => u.slot b o e n hb (by simp)) (fun b o _ e n => u.free b o e n (by simp)) (fun b o _ e => u.there b o e (by simp)) u.tups u.frzs u.tbls (fun m' hm => by
    obtain ⟨o', es', ep', ho', r'⟩ := hm
    rw [ho] at ho'; cases ho'
    exact ⟨_, es', ep', hL, r'⟩) hok I.bare
theorem Inv.call {g' : Array GenState} {t' : Nat} {d' : Drawn} {ch : List Addr} (I : Inv X pins σ H s) (u : Un (frs X.stack) ch H H' s.heap h') (hok : HOk X.prog X.w H' h') (hg : AllBare g')
    (hch : ∀ b ∈ ch, (b ∈ X.ex ∨ X.s₀.heap.objs.size ≤ b) ∧ b ≠ X.env.locals ∧ (∀ x c, X.env.cells.lookup x = some c → c ≠ b) ∧ ∀ p ∈ X.pn ++ pins, p.1 ≠ b) :
    Inv X pins σ H' { s with heap := h', gens := g', drawn := d', toks := t' } := by
  obtain ⟨m, ⟨o, es, ep, ho, r⟩, _⟩ := id I.loc
  obtain ⟨sl, hL⟩ := u.any ho I.free fun z => (hch _ z).2.1 rfl
  exact I.step (ch := ch) hch (fun b o hL hb hc e n => u.keep b o e n (fun z => (List.mem_cons.mp (I.stkSub b z)).elim hL hb) hc) (fun b o _ _ hc e n => u.any e n hc) (fun b o hc e n => u.free b o e n hc) (fun b o hc e => u.there b o e hc) u.tups u.frzs u.tbls (fun m' hm => by
    obtain ⟨o', es', ep', ho', r'⟩ := hm
    rw [ho] at ho'; cases ho'
    exact ⟨_, es', ep', hL, r'⟩) hok hg
theorem Inv.turned {t' : Nat} {it : Addr} (I : Inv X pins σ H s) (k : ∀ b o, b ≠ it → s.heap.get? b = some o → h'.get? b = some o) (hn : H it = none) (hL : it ≠ X.env.locals)
    (h1 : it ∈ X.ex ∨ X.s₀.heap.objs.size ≤ it) (h2 : ∀ x c, X.env.cells.lookup x = some c → c ≠ it) (h3 : ∀ p ∈ X.pn ++ pins, p.1 ≠ it) : Inv X pins σ H { s with heap := h', toks := t' } := by
  have nit : ∀ b u, H b = some u → b ≠ it := fun b u e z => by rw [z, hn] at e; cases e
  refine I.step (g' := s.gens) (d' := s.drawn) (ch := [it]) (fun b hb => ?_) (fun b o _ _ hc e _ => k b o (fun z => hc (by simp [z])) e) (fun b o _ _ hc e _ => ⟨o.slots, k b o (fun z => hc (by simp [z])) e⟩) (fun _ _ _ _ n => n)
    (fun b o hc e => ⟨o, k b o (fun z => hc (by simp [z])) e⟩) (fun _ _ e => e) (fun _ _ _ e => e) (fun b ps e => ⟨#[], by rw [e]; simp⟩) (fun m hm => ?_) (fun b u e => ?_) I.bare
  · have e : b = it := by simpa using hb
    subst e
    exact ⟨h1, hL, h2, h3⟩
  · obtain ⟨o, es, ep, ho, r⟩ := hm
    exact ⟨o, es, ep, k _ o (Ne.symm hL) ho, r⟩
  · refine (I.hok b u e).stay (fun c v hc q => k c v ?_ q) (fun _ q => q) fun _ _ q => q
    rcases hc with z | z
    · rw [z]; exact nit b u e
    · exact nit c _ z
theorem Inv.tok (I : Inv X pins σ H s) (t : Nat) : Inv X pins σ H { s with toks := t } := I.un (h' := s.heap) (t' := t) Un.refl I.hok
theorem Inv.kept {t' : Nat} (I : Inv X pins σ H s) (k : ∀ b u, s.heap.get? b = some u → h'.get? b = some u) : Inv X pins σ H { s with heap := h', toks := t' } := I.un (Un.kept k) (I.hok.kept k)
theorem Inv.laid {a : Addr} {o : HO} {t' : Nat} (I : Inv X pins σ H s) (k : ∀ b u, s.heap.get? b = some u → h'.get? b = some u) (hp : s.heap.objs.size ≤ a) (new : ObjOk X.prog X.w (upd H a o) h' a o) :
    Inv X pins σ (upd H a o) { s with heap := h', toks := t' } := I.un (Un.laid k hp (I.hok.fresh hp)) (I.hok.laid k hp new)
theorem Inv.write {x e : Addr} {o : HO} {t' : Nat} (I : Inv X pins σ H s) (mu : Mut (H x)) (he : e = x ∨ H e = some (.own x)) (k : ∀ b u, b ≠ e → s.heap.get? b = some u → h'.get? b = some u) (heo : ∃ u, h'.get? e = some u)
    (new : ObjOk X.prog X.w (upd H x o) h' x o) : Inv X pins σ (upd H x o) { s with heap := h', toks := t' } := I.un (Un.write mu he k heo) (I.hok.write mu he k heo new)
theorem Inv.weak {σ' : List (Option V)} (I : Inv X pins σ H s) (hl : σ'.length = σ.length) (w : ∀ (i : Nat) v, σ'[i]? = some (some v) → σ[i]? = some (some v)) : Inv X pins σ' H s :=
  ⟨I.ok, I.os, I.bare, I.base, let ⟨m, hn, hl'⟩ := I.loc; ⟨m, hn, fun i x v e1 e2 e3 => hl' i x v e1 (w i v e2) e3⟩, I.cell, I.free, I.freeC, I.pin, I.hok, hl.trans I.len⟩
theorem Inv.pins_of {pins' : List (Addr × Obj)} (I : Inv X pins σ H s) (h : ∀ p ∈ pins', s.heap.get? p.1 = some p.2 ∧ H p.1 = none ∧ p.1 ≠ X.env.locals ∧ p.1 ∉ X.fs ∧ ∀ v, p.2.data ≠ .cell v) : Inv X pins' σ H s :=
  ⟨I.ok, I.os, I.bare, I.base, I.loc, I.cell, I.free, I.freeC, fun p hp => (List.mem_append.mp hp).elim (fun z => I.pin p (List.mem_append_left _ z)) (h p), I.hok, I.len⟩
theorem nodup_ix {N : List Str} (hN : N.Nodup) {i j : Nat} {x : Str} (a : N[i]? = some x) (b : N[j]? = some x) : i = j := by
  obtain ⟨h1, e1⟩ := List.getElem?_eq_some_iff.mp a
  obtain ⟨h2, e2⟩ := List.getElem?_eq_some_iff.mp b
  exact (List.getElem_inj hN).mp (e1.trans e2.symm)
theorem store_ok2 {M : Model} {A : Around} {E : Value → Shared → Prop} {i : Nat} {x : Str} {v : V} {u : Value} {Q : Unit → Shared → Prop} (I : Inv X pins σ H s) (hN : X.N.Nodup) (hi : X.N[i]? = some x) (hx : Loc X.env.scope x) (r : RelV v u)
    (h : ∀ s', Inv X pins (σ.set i (some v)) H s' → (∃ a, Heap.SameBut a s.heap s'.heap ∧ (a = X.env.locals ∨ X.env.cells.lookup x = some a)) → Q () s') (hf : X.fn x = true ∨ X.env.scope.names.lookup x = some .local := by first | exact .inl rfl | exact .inr rfl | assumption) : wpAny M A (storeName X.env x u) Q E s := by
  obtain ⟨m, hn, hl⟩ := id I.loc
  have hcls : (X.env.scope.kind == .class || (X.env.scope.kind == .module && X.env.locals != X.env.globals)) = false := by rw [I.ok.kind]; rfl
  have hiσ : i < σ.length := by rw [I.len]; exact (List.getElem?_eq_some_iff.mp hi).1
  have cne := I.cne
  have tracked : ∀ {a : Addr} {h' : Heap}, (∃ o, s.heap.get? a = some o ∧ H a = none) → Heap.SameBut a s.heap h' → HOk X.prog X.w H h' := fun {a h'} ha hs b ob e => by
    obtain ⟨_, _, hfree⟩ := ha
    refine (I.hok b ob e).stay (fun c w' hc q => (hs.2 c ?_).trans q) (fun _ q => q) fun _ _ q => q
    rintro rfl
    rcases hc with rfl | hc
    · rw [hfree] at e; cases e
    · rw [hfree] at hc; cases hc
  rcases hx with hk | hk
  · refine wpAny_storeName_local hk hn (fun h' hn' hs => ?_) hcls
    obtain ⟨oL, _, _, hoL, _⟩ := id hn
    refine h _ ⟨I.ok, I.os, I.bare, ⟨fun b o e n hb hx => ?_, fun b o e n hb hx => ?_, I.base.free, fun b o e hx => ?_, I.base.tups, I.base.frzs, I.base.tbls⟩, ⟨_, hn', fun j y v' e1 e2 e3 => ?_⟩, fun y c e => ?_, I.free, I.freeC, fun p hp => ?_, tracked ⟨oL, hoL, I.free⟩ hs, by simpa using I.len⟩ ⟨_, hs, .inl rfl⟩
    · exact (hs.2 b (Nat.ne_of_lt (Nat.lt_of_lt_of_le (Heap.lt_size e) I.ok.above))).trans (I.base.keep b o e n hb hx)
    · obtain ⟨sl, e1⟩ := I.base.slot b o e n hb hx
      exact ⟨sl, (hs.2 b (Nat.ne_of_lt (Nat.lt_of_lt_of_le (Heap.lt_size e) I.ok.above))).trans e1⟩
    · obtain ⟨o', e1⟩ := I.base.there b o e hx
      exact ⟨o', (hs.2 b (Nat.ne_of_lt (Nat.lt_of_lt_of_le (Heap.lt_size e) I.ok.above))).trans e1⟩
    · by_cases hj : j = i
      · subst hj
        rw [hi] at e1; cases e1
        rw [List.getElem?_set_self hiσ] at e2
        cases e2
        exact ⟨u, r, .inl ⟨hk, by simp⟩⟩
      · rw [List.getElem?_set_ne (Ne.symm hj)] at e2
        obtain ⟨u', r', q⟩ := hl j y v' e1 e2 e3
        refine ⟨u', r', ?_⟩
        rcases q with ⟨k, e⟩ | ⟨k, c, e, z⟩
        · refine .inl ⟨k, ?_⟩
          have : y ≠ x := fun e => hj (nodup_ix hN e1 (e ▸ hi))
          simp [this, e]
        · exact .inr ⟨k, c, e, z.sameBut hs (cne y c e)⟩
    · obtain ⟨w', z⟩ := I.cell y c e
      exact ⟨w', z.sameBut hs (cne y c e)⟩
    · obtain ⟨e, n, ne, nf, d⟩ := I.pin p hp
      exact ⟨(hs.2 p.1 ne).trans e, n, ne, nf, d⟩
  · have hfn : X.fn x = true := by
      rcases hf with z | z
      · exact z
      · rw [z] at hk; cases hk
    obtain ⟨c, hc⟩ := I.ok.has x (.inl hk)
    obtain ⟨w', z⟩ := I.cell x c hc
    refine wpAny_storeName_cell I.ok.kind hk hc z (fun h' hc' hs => ?_)
    obtain ⟨oc, hoc, hocd⟩ := id z
    refine h { s with heap := h' } ⟨I.ok, I.os, I.bare, ⟨fun b o e n hb hx => ?_, fun b o e n hb hx => ?_, I.base.free, fun b o e hx => ?_, I.base.tups, I.base.frzs, I.base.tbls⟩, ⟨m, hn.sameBut hs (Ne.symm (cne x c hc)), fun j y v' e1 e2 e3 => ?_⟩, fun y c' e => ?_, I.free, I.freeC, fun p hp => ?_, tracked ⟨oc, hoc, I.freeC x c hc⟩ hs, by simpa using I.len⟩ ⟨c, hs, .inr hc⟩
    · exact (hs.2 b (Nat.ne_of_lt (Nat.lt_of_lt_of_le (Heap.lt_size e) (I.ok.cab x c hfn hc)))).trans (I.base.keep b o e n hb hx)
    · obtain ⟨sl, e1⟩ := I.base.slot b o e n hb hx
      exact ⟨sl, (hs.2 b (Nat.ne_of_lt (Nat.lt_of_lt_of_le (Heap.lt_size e) (I.ok.cab x c hfn hc)))).trans e1⟩
    · obtain ⟨o', e1⟩ := I.base.there b o e hx
      exact ⟨o', (hs.2 b (Nat.ne_of_lt (Nat.lt_of_lt_of_le (Heap.lt_size e) (I.ok.cab x c hfn hc)))).trans e1⟩
    · by_cases hj : j = i
      · subst hj
        rw [hi] at e1; cases e1
        rw [List.getElem?_set_self hiσ] at e2
        cases e2
        exact ⟨u, r, .inr ⟨.inl hk, c, hc, hc'⟩⟩
      · rw [List.getElem?_set_ne (Ne.symm hj)] at e2
        obtain ⟨u', r', q⟩ := hl j y v' e1 e2 e3
        refine ⟨u', r', ?_⟩
        rcases q with q | ⟨k, c', e, z'⟩
        · exact .inl q
        · refine .inr ⟨k, c', e, z'.sameBut hs ?_⟩
          rintro rfl
          exact hj (nodup_ix hN e1 (I.ok.inj _ _ _ e hc ▸ hi))
    · by_cases hcc : c' = c
      · subst hcc; exact ⟨_, hc'⟩
      · obtain ⟨w2, z2⟩ := I.cell y c' e
        exact ⟨w2, z2.sameBut hs hcc⟩
    · obtain ⟨e, n, ne, nf, d⟩ := I.pin p hp
      refine ⟨(hs.2 p.1 ?_).trans e, n, ne, nf, d⟩
      intro q
      rw [q, hoc] at e
      have q' : oc = p.2 := Option.some.inj e
      exact d w' (by rw [← q']; exact hocd)
theorem store_ok {M : Model} {A : Around} {E : Value → Shared → Prop} {i : Nat} {x : Str} {v : V} {u : Value} {Q : Unit → Shared → Prop} (I : Inv X pins σ H s) (hN : X.N.Nodup) (hi : X.N[i]? = some x) (hx : Loc X.env.scope x) (r : RelV v u)
    (h : ∀ s', Inv X pins (σ.set i (some v)) H s' → Q () s') (hf : X.fn x = true ∨ X.env.scope.names.lookup x = some .local := by first | exact .inl rfl | exact .inr rfl | assumption) : wpAny M A (storeName X.env x u) Q E s :=
  store_ok2 I hN hi hx r (fun s' I' _ => h s' I') hf
theorem Inv.call' {s' : Shared} {ch : List Addr} (I : Inv X pins σ H s) (ho : s'.os = s.os) (u : Un (frs X.stack) ch H H' s.heap s'.heap) (hok : HOk X.prog X.w H' s'.heap) (hg : AllBare s'.gens)
    (hch : ∀ b ∈ ch, (b ∈ X.ex ∨ X.s₀.heap.objs.size ≤ b) ∧ b ≠ X.env.locals ∧ (∀ x c, X.env.cells.lookup x = some c → c ≠ b) ∧ ∀ p ∈ X.pn ++ pins, p.1 ≠ b) : Inv X pins σ H' s' := by
  obtain ⟨h', g', d', t', o'⟩ := s'
  have e : o' = s.os := ho
  subst e
  exact I.call (g' := g') (t' := t') (d' := d') u hok hg hch
end
abbrev XK := Value → Option Addr → Hp → Prop
abbrev St := List (Option V)
abbrev VK := V → Hp → Prop
abbrev TE := St → Hp → VK → Prop
abbrev TT := St → Hp → (Bool → Hp → Prop) → Prop
abbrev TA := St → Hp → (List V → Hp → Prop) → Prop
structure Ends where
  nx : St → Hp → Prop
  rt : VK
  bk : St → Hp → Prop := fun _ _ => False
  ct : St → Hp → Prop := fun _ _ => False
abbrev TS := Ends → St → Hp → Prop
def EP (X : Cx) (pins : List (Addr × Obj)) (σ : St) (Q : VK) (u : Value) (s' : Shared) : Prop := ∃ v H', Inv X pins σ H' s' ∧ RelV v u ∧ Q v H'
def TP (X : Cx) (pins : List (Addr × Obj)) (σ : St) (Q : Bool → Hp → Prop) (b : Bool) (s' : Shared) : Prop := ∃ H', Inv X pins σ H' s' ∧ Q b H'
def AP (X : Cx) (pins : List (Addr × Obj)) (σ : St) (Q : List V → Hp → Prop) (us : List Value) (s' : Shared) : Prop := ∃ vs H', Inv X pins σ H' s' ∧ Vals vs us ∧ Q vs H'
def SP (X : Cx) (pins : List (Addr × Obj)) (D : Ends) (f : Flow) (s' : Shared) : Prop :=
  match f with
  | .next => ∃ σ' H', Inv X pins σ' H' s' ∧ D.nx σ' H'
  | .brk => ∃ σ' H', Inv X pins σ' H' s' ∧ D.bk σ' H'
  | .cont => ∃ σ' H', Inv X pins σ' H' s' ∧ D.ct σ' H'
  | .ret u => ∃ v σ' H', Inv X pins σ' H' s' ∧ RelV v u ∧ D.rt v H'
def PE (X : Cx) (e : Expr) (t : TE) : Prop :=
  ∀ (pins : List (Addr × Obj)) (s : Shared) (σ : St) (H : Hp) (Q : VK), Inv X pins σ H s → t σ H Q → wpAny (model X.prog X.w) X.A (eval e X.env) (EP X pins σ Q) X.xe s
def PT (X : Cx) (e : Expr) (t : TT) : Prop :=
  ∀ (pins : List (Addr × Obj)) (s : Shared) (σ : St) (H : Hp) (Q : Bool → Hp → Prop), Inv X pins σ H s → t σ H Q → wpAny (model X.prog X.w) X.A (isTrue e X.env (eval e X.env)) (TP X pins σ Q) X.xe s
def PW (X : Cx) (e : Expr) (t : TT) : Prop :=
  ∀ (whole : Sem Value) (pins : List (Addr × Obj)) (s : Shared) (σ : St) (H : Hp) (Q : Bool → Hp → Prop), Inv X pins σ H s → t σ H Q → wpAny (model X.prog X.w) X.A (isTrue e X.env whole) (TP X pins σ Q) X.xe s
theorem PW.pt {X : Cx} {e : Expr} {t : TT} (h : PW X e t) : PT X e t := h _
def PA (X : Cx) (es : List Expr) (t : TA) : Prop :=
  ∀ (pos : Pos) (pins : List (Addr × Obj)) (s : Shared) (σ : St) (H : Hp) (Q : List V → Hp → Prop), Inv X pins σ H s → t σ H Q → wpAny (model X.prog X.w) X.A (spliced (backTo pos (starEach es X.env))) (AP X pins σ Q) X.xe s
def PS (X : Cx) (st : Stmt) (t : TS) : Prop :=
  ∀ (pins : List (Addr × Obj)) (s : Shared) (σ : St) (H : Hp) (D : Ends), Inv X pins σ H s → t D σ H → wpAny (model X.prog X.w) X.A (exec st X.env) (SP X pins D) X.xe s
def PSs (X : Cx) (st : List Stmt) (t : TS) : Prop :=
  ∀ (pins : List (Addr × Obj)) (s : Shared) (σ : St) (H : Hp) (D : Ends), Inv X pins σ H s → t D σ H → wpAny (model X.prog X.w) X.A (execs st X.env) (SP X pins D) X.xe s
theorem thn {α : Type} {t : Sem α} {Q Q' : α → Shared → Prop} {M : Model} {A : Around} {E : Value → Shared → Prop} {s : Shared} (h : wpAny M A t Q E s) (hQ : ∀ a s, Q a s → Q' a s) : wpAny M A t Q' E s := wpAny_mono h hQ fun _ _ x => x
end L2
namespace L2
open PySem PySem.Spec PyProof.Rows
section
variable {X : Cx}
def tVar (i : Nat) : TE := fun σ H Q => ∃ v, σ[i]? = some (some v) ∧ Q v H
def tC (v : V) : TE := fun _ H Q => Q v H
theorem pe_var {i : Nat} {x : Str} {pos : Pos} (hN : X.N[i]? = some x) (hv : Vis X.env.scope x) (hd : (x == ("__debug__" : Str)) = false := by decide) (hcd : (x == ("__classdict__" : Str)) = false := by decide) : PE X (.Name x pos) (tVar i) := by
  intro pins s σ H Q I h
  obtain ⟨v, e, h⟩ := h
  obtain ⟨m, hn, hl⟩ := I.loc
  obtain ⟨u, r, l⟩ := hl i x v hN e hv
  have fin : EP X pins σ Q u s := ⟨v, H, I, r, h⟩
  rcases l with ⟨hk, hm⟩ | ⟨hk, c, hc, hcell⟩
  · exact wpAny_Name (wpAny_loadName_local I.ok.kind hk hn hm fin) hd
  · rcases hk with hk | hk
    · exact wpAny_Name (wpAny_loadName_cell I.ok.kind hk hc hcell fin) hd
    · exact wpAny_Name (wpAny_loadName_free I.ok.kind hk hc hcell fin hcd) hd
theorem pe_int {i j pos} : PE X (.Constant (.int i) j pos) (tC (.int i)) := fun _ _ _ H _ I h => wpAny_Constant_int ⟨.int i, H, I.tok _, ⟨_, rfl⟩, h⟩
theorem pe_bl {b j pos} : PE X (.Constant (.bool b) j pos) (tC (.bl b)) := fun _ _ _ H _ I h => Constant_bool ⟨.bl b, H, I, rfl, h⟩
theorem pe_non {j pos} : PE X (.Constant .none j pos) (tC .non) := fun _ _ _ H _ I h => Constant_none ⟨.non, H, I, rfl, h⟩
theorem pe_str {x j pos} : PE X (.Constant (.str x) j pos) (tC (.str x)) := fun _ _ _ H _ I h => Calls.Constant_str ⟨.str x, H, I.tok _, ⟨_, rfl⟩, h⟩
def Gl (X : Cx) (x : Str) : Prop := X.env.kindOf x = some .globalImplicit
theorem ld_glob {E : Value → Shared → Prop} {pins : List (Addr × Obj)} {s : Shared} {σ : St} {H : Hp} {x : Str} {u : Value} {pos : Pos} {Q : Value → Shared → Prop} (I : Inv X pins σ H s) (hg : Gl X x) (hm : X.mg x = some u) (h : Q u s)
    (hd : (x == ("__debug__" : Str)) = false := by decide) : wpAny (model X.prog X.w) X.A (eval (.Name x pos) X.env) Q E s :=
  Calls.Name_function_global I.ok.kind hg (Calls.loadGlobal_global (by rw [I.ok.glob]; exact I.mod.glob.keeps I.bk) hm h) hd
theorem ld_blt {E : Value → Shared → Prop} {pins : List (Addr × Obj)} {s : Shared} {σ : St} {H : Hp} {x : Str} {u : Value} {pos : Pos} {Q : Value → Shared → Prop} (I : Inv X pins σ H s) (hg : Gl X x) (hm : X.mg x = none) (hv : bootBuiltins x = some u) (h : Q u s)
    (hn : x ≠ "__name__" := by decide) (hd : (x == ("__debug__" : Str)) = false := by decide) : wpAny (model X.prog X.w) X.A (eval (.Name x pos) X.env) Q E s := by
  obtain ⟨mb, h1, h2⟩ := I.mod.blt
  exact Calls.Name_function_global I.ok.kind hg (Calls.loadGlobal_builtin (by rw [I.ok.glob]; exact I.mod.glob.keeps I.bk) hm (by rw [I.ok.blt]; exact h1.keeps I.bk) ((h2 x hn).trans hv) h) hd
theorem pe_glob {x : Str} {v : V} {u : Value} {pos : Pos} (hg : Gl X x) (hm : X.mg x = some u) (r : RelV v u) (hd : (x == ("__debug__" : Str)) = false := by decide) : PE X (.Name x pos) (tC v) :=
  fun _ _ _ H _ I h => ld_glob I hg hm ⟨v, H, I, r, h⟩ hd
theorem pe_bltn {x : Str} {v : V} {u : Value} {pos : Pos} (hg : Gl X x) (hm : X.mg x = none) (hv : bootBuiltins x = some u) (r : RelV v u) (hn : x ≠ "__name__" := by decide) (hd : (x == ("__debug__" : Str)) = false := by decide) : PE X (.Name x pos) (tC v) :=
  fun _ _ _ H _ I h => ld_blt I hg hm hv ⟨v, H, I, r, h⟩ hn hd
variable {a b : Expr} {ta tb : TE} {pos : Pos}
def tB (t : TE) : TT := fun σ H Q => t σ H fun x H1 => ∃ c, x = .bl c ∧ Q c H1
theorem pt_val {e : Expr} {t : TE} (h : PE X e t) (he : ∀ whole, isTrue e X.env whole = (do let v ← whole; standAt e.pos; holding [v] (truthy v)) := by intro _; rfl) : PT X e (tB t) := by
  intro pins s σ H Q I hw
  refine isTrue_plain (thn (h pins s σ H _ I hw) fun v s1 ⟨x, H1, I1, r1, q1⟩ => ?_) (he _)
  obtain ⟨d, rfl, q⟩ := q1
  cases r1
  exact wpAny_truthy_bool ⟨H1, I1, q⟩
variable {tA tB' : TT} {rest : List Expr}
def tAnd (t u : TT) : TT := fun σ H Q => t σ H fun c H1 => if c = true then u σ H1 Q else Q false H1
def tOr (t u : TT) : TT := fun σ H Q => t σ H fun c H1 => if c = true then Q true H1 else u σ H1 Q
def tNot (t : TT) : TT := fun σ H Q => t σ H fun c H1 => Q (!c) H1
theorem pw_and1 (ha : PT X a tA) : PW X (.BoolOp .And [a] pos) tA := by
  intro wh pins s σ H Q I h
  refine isTrue_and (thn (ha pins s σ H Q I h) fun c s1 e => ?_)
  cases c with
  | true => exact isTrue_and_nil e
  | false => exact e
theorem pw_or1 (ha : PT X a tA) : PW X (.BoolOp .Or [a] pos) tA := by
  intro wh pins s σ H Q I h
  refine isTrue_or (thn (ha pins s σ H Q I h) fun c s1 e => ?_)
  cases c with
  | false => exact isTrue_or_nil e
  | true => exact e
theorem pw_and (ha : PT X a tA) (hb : PW X (.BoolOp .And (b :: rest) pos) tB') : PW X (.BoolOp .And (a :: b :: rest) pos) (tAnd tA tB') := by
  intro wh pins s σ H Q I h
  refine isTrue_and (thn (ha pins s σ H _ I h) fun c s1 ⟨H1, I1, q1⟩ => ?_)
  cases c with
  | true => exact hb wh pins s1 σ H1 Q I1 q1
  | false => exact ⟨H1, I1, q1⟩
theorem pw_or (ha : PT X a tA) (hb : PW X (.BoolOp .Or (b :: rest) pos) tB') : PW X (.BoolOp .Or (a :: b :: rest) pos) (tOr tA tB') := by
  intro wh pins s σ H Q I h
  refine isTrue_or (thn (ha pins s σ H _ I h) fun c s1 ⟨H1, I1, q1⟩ => ?_)
  cases c with
  | true => exact ⟨H1, I1, q1⟩
  | false => exact hb wh pins s1 σ H1 Q I1 q1
theorem pt_not (ha : PT X a tA) : PT X (.UnaryOp .Not a pos) (tNot tA) := by
  intro pins s σ H Q I h
  exact isTrue_not (ha pins s σ H (fun c H1 => Q (!c) H1) I h)
def tAndV (ta tb : TE) : TE := fun σ H Q => ta σ H fun x H1 => ∃ c, x = .bl c ∧ if c = true then tb σ H1 Q else Q (.bl false) H1
def tNotV (ta : TE) : TE := fun σ H Q => ta σ H fun x H1 => ∃ c, x = .bl c ∧ Q (.bl (!c)) H1
theorem pe_one {op} {t : TE} (h : PE X a t) : PE X (.BoolOp op [a] pos) t := fun pins s σ H Q I hw => BoolOp_one (h pins s σ H Q I hw)
theorem pe_and (ha : PE X a ta) (hb : PE X (.BoolOp .And (b :: rest) pos) tb) : PE X (.BoolOp .And (a :: b :: rest) pos) (tAndV ta tb) := by
  intro pins s σ H Q I h
  refine BoolOp_and (thn (ha pins s σ H _ I h) fun v s1 ⟨x, H1, I1, r1, q1⟩ => ?_)
  obtain ⟨c, rfl, q1⟩ := q1
  cases r1
  refine wpAny_truthy_bool ?_
  cases c with
  | true => exact hb pins s1 σ H1 Q I1 q1
  | false => exact ⟨.bl false, H1, I1, rfl, q1⟩
theorem pe_not (ha : PE X a ta) : PE X (.UnaryOp .Not a pos) (tNotV ta) := by
  intro pins s σ H Q I h
  refine UnaryOp_ (thn (ha pins s σ H _ I h) fun v s1 ⟨x, H1, I1, r1, q1⟩ => ?_)
  obtain ⟨c, rfl, q1⟩ := q1
  cases r1
  exact not_of (wpAny_truthy_bool ⟨.bl (!c), H1, I1, rfl, q1⟩)
def tIf (t : TT) (ta tb : TE) : TE := fun σ H Q => t σ H fun c H1 => if c = true then ta σ H1 Q else tb σ H1 Q
theorem pe_ifExp {c : Expr} (hc : PT X c tA) (ha : PE X a ta) (hb : PE X b tb) : PE X (.IfExp c a b pos) (tIf tA ta tb) := by
  intro pins s σ H Q I h
  refine wpAny_IfExp (thn (hc pins s σ H _ I h) fun d s1 ⟨H1, I1, q1⟩ => ?_)
  cases d with
  | true => exact ha pins s1 σ H1 Q I1 q1
  | false => exact hb pins s1 σ H1 Q I1 q1
end
end L2
namespace L2
open PySem PySem.Spec PyProof.Rows
def SqL (K : PySem.W.Frag) (H : Hp) (a : Addr) (xs : List V) : Prop :=
  Rd H a (.lst xs) ∨
    ∃ (o : Obj) (its : Array Value) (n : Nat), K.lookup a = some o ∧ o.cls = .type "list" ∧ o.dict = none ∧ o.data = .seq its n ∧ its.size ≤ sizeLine ∧ Vals xs its.toList
def SqT (K : PySem.W.Frag) (H : Hp) (a : Addr) (xs : List V) : Prop :=
  Rd H a (.tup xs) ∨
    ∃ (o : Obj) (its : Array Value) (n : Nat), K.lookup a = some o ∧ o.cls = .type "tuple" ∧ o.data = .seq its n ∧ its.size ≤ sizeLine ∧ Vals xs its.toList
def absV : Value → Option V
  | .none => some .non
  | .bool b => some (.bl b)
  | .int i _ => some (.int i)
  | .str x _ => some (.str x)
  | .bytes b _ => some (.byt b)
  | .float b _ => some (.flt b)
  | .ref a => some (.ref a)
  | .type n => some (.ty n)
  | _ => none
theorem RelV.abs {x : V} {u : Value} (r : RelV x u) : absV u = some x := by
  cases x with
  | non => cases r; rfl
  | bl _ => cases r; rfl
  | int _ => obtain ⟨t, rfl⟩ := r; rfl
  | str _ => obtain ⟨t, rfl⟩ := r; rfl
  | byt _ => obtain ⟨t, rfl⟩ := r; rfl
  | flt _ => obtain ⟨t, rfl⟩ := r; rfl
  | ref _ => cases r; rfl
  | ty _ => cases r; rfl
theorem RelV.inj {x y : V} {u : Value} (r : RelV x u) (q : RelV y u) : x = y := Option.some.inj (r.abs.symm.trans q.abs)
theorem Vals.inj : ∀ {xs ys : List V} {us : List Value}, Vals xs us → Vals ys us → xs = ys
  | _, _, _, .nil, .nil => rfl
  | _, _, _, .cons r t, .cons r' t' => by rw [r.inj r', Vals.inj t t']
section
variable {X : Cx} {pins : List (Addr × Obj)} {σ : St} {H : Hp} {s : Shared} {a : Addr} {xs ys : List V}
theorem SqL.of {K : PySem.W.Frag} (h : H a = some (.lst xs)) : SqL K H a xs := .inl (.inl h)
theorem SqT.of {K : PySem.W.Frag} (h : H a = some (.tup xs)) : SqT K H a xs := .inl (.inl h)
theorem Inv.list (I : Inv X pins σ H s) (h : SqL X.K H a xs) : ∃ its : List Value, Vals xs its ∧ PlainL s.heap a its.toArray ∧ xs.length ≤ sizeLine := by
  rcases h with h | ⟨o, its, n, hk, hc, hd, hs, hz, r⟩
  · obtain ⟨z, its, n, r, e⟩ := h.ok I.hok
    exact ⟨its, r, ⟨_, n, e, rfl, rfl, rfl⟩, z⟩
  · refine ⟨its.toList, r, ⟨o, n, I.kIn a o hk, hc, hd, by simpa using hs⟩, ?_⟩
    have e := r.length
    simp only [Array.length_toList] at e
    omega
theorem Inv.tuple (I : Inv X pins σ H s) (h : SqT X.K H a xs) : ∃ its : List Value, Vals xs its ∧ IsTup s.heap a its.toArray ∧ xs.length ≤ sizeLine := by
  rcases h with h | ⟨o, its, n, hk, hc, hs, hz, r⟩
  · obtain ⟨z, its, r, p⟩ := h.ok I.hok
    exact ⟨its, r, p, z⟩
  · refine ⟨its.toList, r, ⟨o, I.kIn a o hk, hc, n, by simpa using hs⟩, ?_⟩
    have e := r.length
    simp only [Array.length_toList] at e
    omega
theorem Inv.list_inj (I : Inv X pins σ H s) (h : SqL X.K H a xs) (h' : SqL X.K H a ys) : xs = ys := by
  obtain ⟨its, r, ⟨o, n, e, _, _, d⟩, _⟩ := I.list h
  obtain ⟨its', r', ⟨o', n', e', _, _, d'⟩, _⟩ := I.list h'
  rw [e] at e'; cases e'
  rw [d] at d'
  injection d' with d1 _
  have : its = its' := by simpa using congrArg Array.toList d1
  subst this
  exact r.inj r'
theorem Inv.tuple_inj (I : Inv X pins σ H s) (h : SqT X.K H a xs) (h' : SqT X.K H a ys) : xs = ys := by
  obtain ⟨its, r, ⟨o, e, _, n, d⟩, _⟩ := I.tuple h
  obtain ⟨its', r', ⟨o', e', _, n', d'⟩, _⟩ := I.tuple h'
  rw [e] at e'; cases e'
  rw [d] at d'
  injection d' with d1 _
  have : its = its' := by simpa using congrArg Array.toList d1
  subst this
  exact r.inj r'
end
abbrev Cx.wish (X : Cx) (E : Value → Shared → Prop) : Cx := { X with xe := E }
abbrev Cx.nox (X : Cx) : Cx := X.wish fun _ _ => False
theorem Cx.Ok.wish {X : Cx} (ok : X.Ok) (E : Value → Shared → Prop) : (X.wish E).Ok :=
  ⟨ok.mod, ok.kind, ok.glob, ok.blt, ok.above, ok.inj, ok.has, ok.cab, ok.hd, ok.frames, ok.stk, ok.exf, ok.bs, ok.bsz, ok.noex, ok.exfs, ok.funs, ok.frf⟩
theorem Cx.Ok.unwish {X : Cx} {E : Value → Shared → Prop} (ok : (X.wish E).Ok) : X.Ok :=
  ⟨ok.mod, ok.kind, ok.glob, ok.blt, ok.above, ok.inj, ok.has, ok.cab, ok.hd, ok.frames, ok.stk, ok.exf, ok.bs, ok.bsz, ok.noex, ok.exfs, ok.funs, ok.frf⟩
section
variable {X : Cx} {pins : List (Addr × Obj)} {σ : St} {H : Hp} {s : Shared} {E : Value → Shared → Prop}
theorem Inv.wish (I : Inv X pins σ H s) (E : Value → Shared → Prop) : Inv (X.wish E) pins σ H s := ⟨I.ok.wish E, I.os, I.bare, I.base, I.loc, I.cell, I.free, I.freeC, I.pin, I.hok, I.len⟩
theorem Inv.unwish (I : Inv (X.wish E) pins σ H s) : Inv X pins σ H s := ⟨I.ok.unwish, I.os, I.bare, I.base, I.loc, I.cell, I.free, I.freeC, I.pin, I.hok, I.len⟩
theorem SP.unwish {D : Ends} {f : Flow} {s' : Shared} (h : SP (X.wish E) pins D f s') : SP X pins D f s' := by
  cases f with
  | next => obtain ⟨σ', H', I, q⟩ := h; exact ⟨σ', H', I.unwish, q⟩
  | brk => obtain ⟨σ', H', I, q⟩ := h; exact ⟨σ', H', I.unwish, q⟩
  | cont => obtain ⟨σ', H', I, q⟩ := h; exact ⟨σ', H', I.unwish, q⟩
  | ret u => obtain ⟨v, σ', H', I, r, q⟩ := h; exact ⟨v, σ', H', I.unwish, r, q⟩
theorem PE.nox {e : Expr} {t : TE} (h : PE X.nox e t) : PE X e t := fun pins s σ H Q I hw =>
  wpAny_mono (h pins s σ H Q (I.wish _) hw) (fun _ _ ⟨v, H', I', r, q⟩ => ⟨v, H', I'.unwish, r, q⟩) fun _ _ z => False.elim z
theorem PT.nox {e : Expr} {t : TT} (h : PT X.nox e t) : PT X e t := fun pins s σ H Q I hw =>
  wpAny_mono (h pins s σ H Q (I.wish _) hw) (fun _ _ ⟨H', I', q⟩ => ⟨H', I'.unwish, q⟩) fun _ _ z => False.elim z
theorem PSs.nox {st : List Stmt} {t : TS} (h : PSs X.nox st t) : PSs X st t := fun pins s σ H D I hw =>
  wpAny_mono (h pins s σ H D (I.wish _) hw) (fun _ _ q => q.unwish) fun _ _ z => False.elim z
end
section
variable {X : Cx} {st : Stmt} {rest : List Stmt} {t u : TS} {e : Expr} {te : TE} {pos : Pos}
def tNext : TS := fun D σ H => D.nx σ H
def tSeq (t u : TS) : TS := fun D σ H => t { D with nx := u D } σ H
theorem pss_nil : PSs X [] tNext := fun _ _ σ H _ I h => wpAny_execs_nil ⟨σ, H, I, h⟩
theorem pss_cons (h1 : PS X st t) (h2 : PSs X rest u) : PSs X (st :: rest) (tSeq t u) := by
  intro pins s σ H D I h
  refine wpAny_execs_cons (thn (h1 pins s σ H { D with nx := u D } I h) fun f s1 q => ?_)
  cases f with
  | next =>
    obtain ⟨σ', H', I', q⟩ := q
    exact h2 pins s1 σ' H' D I' q
  | ret v => exact q
  | brk => exact q
  | cont => exact q
theorem pss_one (h1 : PS X st t) : PSs X [st] t := by
  intro pins s σ H D I h
  refine wpAny_execs_cons (thn (h1 pins s σ H D I h) fun f s1 q => ?_)
  cases f with
  | next => exact wpAny_execs_nil q
  | ret v => exact q
  | brk => exact q
  | cont => exact q
theorem Inv.quiet {pins : List (Addr × Obj)} {σ : St} {H : Hp} {s : Shared} (I : Inv X pins σ H s) : interactive X.env = false := by simp [interactive, I.ok.kind]
def tDrop (te : TE) : TS := fun D σ H => te σ H fun _ H1 => D.nx σ H1
theorem ps_expr (he : PE X e te) (hs : swapsWith e none pos.line X.env = pure false := by rfl) : PS X (.Expr e pos) (tDrop te) := by
  intro pins s σ H D I h
  exact wpAny_Expr_any (thn (he pins s σ H _ I h) fun v s1 ⟨x, H1, I1, r1, q1⟩ => ⟨σ, H1, I1, q1⟩) I.quiet hs
def tRet (te : TE) : TS := fun D σ H => te σ H D.rt
theorem ps_ret (he : PE X e te) : PS X (.Return (some e) pos) (tRet te) := by
  intro pins s σ H D I h
  exact wpAny_Return_some (thn (he pins s σ H _ I h) fun v s1 ⟨x, H1, I1, r1, q1⟩ => ⟨x, σ, H1, I1, r1, q1⟩)
def tIfS (c : TT) (t u : TS) : TS := fun D σ H => c σ H fun b H1 => if b = true then t D σ H1 else u D σ H1
theorem ps_if {c : Expr} {a b : List Stmt} {tc : TT} (hc : PT X c tc) (ha : PSs X a t) (hb : PSs X b u) : PS X (.If c a b pos) (tIfS tc t u) := by
  intro pins s σ H D I h
  refine wpAny_If (thn (hc pins s σ H _ I h) fun d s1 ⟨H1, I1, q1⟩ => ?_)
  cases d with
  | true => exact ha pins s1 σ H1 D I1 q1
  | false => exact hb pins s1 σ H1 D I1 q1
end
abbrev TG := V → St → Hp → (St → Hp → Prop) → Prop
abbrev TGs := List V → St → Hp → (St → Hp → Prop) → Prop
def PG (X : Cx) (target : Expr) (t : TG) : Prop :=
  ∀ (pins : List (Addr × Obj)) (s : Shared) (σ : St) (H : Hp) (v : V) (u : Value) (Q : St → Hp → Prop), Inv X pins σ H s → RelV v u → t v σ H Q →
    wpAny (model X.prog X.w) X.A (assign target X.env u) (fun _ s' => ∃ σ' H', Inv X pins σ' H' s' ∧ Q σ' H') X.xe s
def PGs (X : Cx) (ts : List Expr) (t : TGs) : Prop :=
  ∀ (pins : List (Addr × Obj)) (s : Shared) (σ : St) (H : Hp) (vs : List V) (us : List Value) (Q : St → Hp → Prop), Inv X pins σ H s → Vals vs us → t vs σ H Q →
    wpAny (model X.prog X.w) X.A (assignInOrder ((assignEach ts X.env).map (·.2)) us) (fun _ s' => ∃ σ' H', Inv X pins σ' H' s' ∧ Q σ' H') X.xe s
abbrev TSet := V → V → V → Hp → (Hp → Prop) → Prop
def PSet (X : Cx) (t : TSet) : Prop :=
  ∀ (pins : List (Addr × Obj)) (s : Shared) (σ : St) (H : Hp) (o i v : V) (ov iv u : Value) (Q : Hp → Prop), Inv X pins σ H s → RelV o ov → RelV i iv → RelV v u → t o i v H Q →
    wpAny (model X.prog X.w) X.A (setItem ov iv u) (fun _ s' => ∃ H', Inv X pins σ H' s' ∧ Q H') X.xe s
section
variable {X : Cx} {pos : Pos}
def gName (i : Nat) : TG := fun v σ H Q => Q (σ.set i (some v)) H
theorem pg_name {i : Nat} {x : Str} (hN : X.N.Nodup) (hi : X.N[i]? = some x) (hx : Loc X.env.scope x) (hf : X.fn x = true ∨ X.env.scope.names.lookup x = some .local := by first | exact .inl rfl | exact .inr rfl | assumption) : PG X (.Name x pos) (gName i) := by
  intro pins s σ H v u Q I r h
  exact wpAny_assign_Name (store_ok I hN hi hx r (fun s' I' => ⟨_, H, I', h⟩) hf)
def gNil : TGs := fun vs σ H Q => vs = [] ∧ Q σ H
def gCons (t : TG) (u : TGs) : TGs := fun vs σ H Q => ∃ v r, vs = v :: r ∧ t v σ H fun σ' H' => u r σ' H' Q
theorem pgs_nil : PGs X [] gNil := by
  intro pins s σ H vs us Q I r h
  obtain ⟨e, h⟩ := h
  subst e
  cases r
  exact assignInOrder_nil ⟨σ, H, I, h⟩
theorem pgs_cons {e : Expr} {es : List Expr} {t : TG} {u : TGs} (h1 : PG X e t) (h2 : PGs X es u)
    (hs : (assignEach (e :: es) X.env).map (·.2) = assign e X.env :: (assignEach es X.env).map (·.2) := by rfl) : PGs X (e :: es) (gCons t u) := by
  intro pins s σ H vs us Q I r h
  obtain ⟨v, vr, e1, h⟩ := h
  subst e1
  cases r with
  | cons r rr =>
    rw [hs]
    refine assignInOrder_cons (thn (h1 pins s σ H _ _ _ I r h) fun _ s1 ⟨σ1, H1, I1, q1⟩ => ?_)
    exact h2 pins s1 σ1 H1 _ _ Q I1 rr q1
def gTup (K : PySem.W.Frag) (n : Nat) (t : TGs) : TG := fun v σ H Q => ∃ a xs, v = .ref a ∧ SqT K H a xs ∧ xs.length = n ∧ t xs σ H Q
theorem pg_tup {es : List Expr} {k : Nat} {t : TGs} {n : Nat} (hc : X.calm = true) (h : PGs X es t)
    (hn : (assignEach es X.env).length = n := by rfl) (hst : (assignEach es X.env).findIdx? (·.1) = none := by rfl) : PG X (.Tuple es k pos) (gTup X.K n t) := by
  intro pins s σ H v u Q I r hw
  obtain ⟨a, xs, e1, hq, hl, hw⟩ := hw
  subst e1
  cases r
  obtain ⟨its, rv, ht, hz⟩ := I.tuple hq
  refine assign_Tuple_tuple (I.ok.hd hc) ht (by simp [hn, ← hl, rv.length]) hst fun h' hx => ?_
  have I1 : Inv X pins σ H { s with heap := h' } := I.kept (t' := s.toks) fun b o e => hx b o (Nat.ne_of_lt (Heap.lt_size e)) e
  exact h pins _ σ H xs _ Q I1 (by simpa using rv) hw
def gSub (to ti : TE) (t : TSet) : TG := fun v σ H Q => to σ H fun o H1 => ti σ H1 fun i H2 => t o i v H2 fun H3 => Q σ H3
theorem pg_sub {o i : Expr} {to ti : TE} {t : TSet} (ho : PE X o to) (hi : PE X i ti) (hs : PSet X t)
    (ha : ∀ v, assign (.Subscript o i pos) X.env v = (do
      let ov ← holding [v] (eval o X.env)
      let iv ← holding [v, ov] (eval i X.env)
      standAt pos
      holding [v, ov, iv] (setItem ov iv v)
      release [v, ov, iv] []) := by intro _; rfl) : PG X (.Subscript o i pos) (gSub to ti t) := by
  intro pins s σ H v u Q I r h
  rw [ha]
  refine wpAny_bind (wpAny_holding (thn (ho pins s σ H _ I h) fun ov s1 ⟨x, H1, I1, r1, q1⟩ => ?_))
  refine wpAny_bind (wpAny_holding (thn (hi pins s1 σ H1 _ I1 q1) fun iv s2 ⟨y, H2, I2, r2, q2⟩ => ?_))
  refine wpAny_bind (wpAny_standAt (wpAny_bind (wpAny_holding (thn (hs pins s2 σ H2 x y v ov iv u _ I2 r1 r2 r q2) fun _ s3 ⟨H3, I3, q3⟩ => ?_))))
  exact wpAny_release ⟨σ, H3, I3, q3⟩
def tAsg (te : TE) (g : TG) : TS := fun D σ H => te σ H fun x H1 => g x σ H1 D.nx
theorem ps_asg {tg e : Expr} {te : TE} {g : TG} (he : PE X e te) (hg : PG X tg g) (hs : swapsWithSole [tg] e pos.line X.env = pure false := by rfl) (hw : swappedStores [tg] e X.env = pure none := by rfl)
    (h1 : (assignEach [tg] X.env).map (·.2) = [assign tg X.env] := by rfl) : PS X (.Assign [tg] e pos) (tAsg te g) := by
  intro pins s σ H D I h
  refine wpAny_Assign_stores (thn (he pins s σ H _ I h) fun v s1 ⟨x, H1, I1, r1, q1⟩ => ?_) hs hw
  rw [h1]
  exact thn (hg pins s1 σ H1 x v _ I1 r1 q1) fun _ s2 q => q
theorem ps_set {i : Nat} {x : Str} {e : Expr} {te : TE} {pos' : Pos} (hN : X.N.Nodup) (hi : X.N[i]? = some x) (hx : Loc X.env.scope x) (he : PE X e te) (hs : swapsWith e (some (.Name x pos')) pos.line X.env = pure false := by rfl) (hf : X.fn x = true ∨ X.env.scope.names.lookup x = some .local := by first | exact .inl rfl | exact .inr rfl | assumption) :
    PS X (.Assign [.Name x pos'] e pos) (tAsg te (gName i)) := by
  intro pins s σ H D I h
  refine wpAny_Assign_Name (thn (he pins s σ H _ I h) fun v s1 ⟨y, H1, I1, r1, q1⟩ => ?_) hs
  exact store_ok I1 hN hi hx r1 (fun s2 I2 => ⟨_, H1, I2, q1⟩) hf
end
section
variable {X : Cx} {pos : Pos}
end
structure It where
  go : Nat → Hp → Prop
  yld : Nat → Hp → V → Hp → Prop
  stop : Nat → Hp → Prop
def FpOk (X : Cx) (pins : List (Addr × Obj)) (H : Hp) (b : Addr) : Prop :=
  H b = none ∧ b ≠ X.env.locals ∧ b ∉ X.fs ∧ (b ∈ X.ex ∨ X.s₀.heap.objs.size ≤ b) ∧ (∀ x c, X.env.cells.lookup x = some c → c ≠ b) ∧ ∀ p ∈ X.pn ++ pins, p.1 ≠ b
theorem Inv.fpOk {X : Cx} {pins : List (Addr × Obj)} {σ : St} {H H' : Hp} {s : Shared} {b : Addr} (I : Inv X pins σ H s) (hb : s.heap.objs.size ≤ b) (hn : H' b = none) : FpOk X pins H' b := by
  refine ⟨hn, Nat.ne_of_gt (Nat.lt_of_lt_of_le I.lt hb), I.nofs hb, .inr (Nat.le_trans I.sz hb), fun x c e z => ?_, fun p hp z => ?_⟩
  · obtain ⟨v, q⟩ := I.cell x c e
    exact absurd (Nat.lt_of_lt_of_le q.lt (by rw [z]; exact hb)) (Nat.lt_irrefl _)
  · exact absurd (Nat.lt_of_lt_of_le (Heap.lt_size (I.pin p hp).1) (by rw [z]; exact hb)) (Nat.lt_irrefl _)
structure Turn (P : Program) (w : World) (K : PySem.W.Frag) (tg : Expr) (J : It) (fp : List Addr) (it : Addr) (tn : Nat → Heap → Prop) : Prop where
  mem : it ∈ fp
  obj : ∀ i h, tn i h → ∀ b ∈ fp, ∃ o, h.get? b = some o ∧ ∀ v, o.data ≠ .cell v
  keep : ∀ i h h', tn i h → (∀ b ∈ fp, ∀ o, h.get? b = some o → h'.get? b = some o) → tn i h'
  item : ∀ (X : Cx), X.prog = P → X.w = w → X.K = K → X.calm = true → ∀ (i : Nat) (pins : List (Addr × Obj)) (s : Shared) (σ : St) (H : Hp) (E : Value → Shared → Prop), Inv X pins σ H s → (∀ b ∈ fp, FpOk X pins H b) → tn i s.heap → J.go i H →
    wpAny (model P w) X.A (pyNext (.ref it)) (fun r s1 => ∃ u, r = some u ∧
      wpAny (model P w) X.A (letOwnedTupleGo tg (.ref it) u) (fun _ s2 => ∃ x H', Inv X pins σ H' s2 ∧ RelV x u ∧ J.yld i H x H' ∧ tn (i + 1) s2.heap ∧ ∀ b ∈ fp, H' b = none) E s1) E s
  done : ∀ (X : Cx), X.prog = P → X.w = w → X.K = K → X.calm = true → ∀ (i : Nat) (pins : List (Addr × Obj)) (s : Shared) (σ : St) (H : Hp) (E : Value → Shared → Prop), Inv X pins σ H s → (∀ b ∈ fp, FpOk X pins H b) → tn i s.heap → J.stop i H →
    wpAny (model P w) X.A (pyNext (.ref it)) (fun r s1 => r = none ∧ Inv X pins σ H s1) E s
  self : ∀ (A : Around) (i : Nat) (s : Shared) (Q : Value → Shared → Prop) (E : Value → Shared → Prop), tn i s.heap → Q (.ref it) s → wpAny (model P w) A (pyIter (.ref it)) Q E s
abbrev TI := St → Hp → (It → Hp → Prop) → Prop
def PIE (X : Cx) (pins : List (Addr × Obj)) (σ : St) (tg : Expr) (R : It → Hp → Prop) (itv : Value) (s2 : Shared) : Prop :=
  ∃ (it : Addr) (fp : List Addr) (tn : Nat → Heap → Prop) (J : It) (H' : Hp), itv = .ref it ∧ Inv X pins σ H' s2 ∧ Turn X.prog X.w X.K tg J fp it tn ∧ tn 0 s2.heap ∧ (∀ b ∈ fp, FpOk X pins H' b) ∧ R J H'
def PI (X : Cx) (tg iter : Expr) (wi : TI) : Prop :=
  ∀ (pins : List (Addr × Obj)) (s : Shared) (σ : St) (H : Hp) (R : It → Hp → Prop), Inv X pins σ H s → wi σ H R →
    wpAny (model X.prog X.w) X.A (eval iter X.env) (fun v s1 => wpAny (model X.prog X.w) X.A (pyIter v) (PIE X pins σ tg R) X.xe s1) X.xe s
theorem go_of {M : Model} {A : Around} {E : Value → Shared → Prop} {s : Shared} {tg : Expr} {it : Addr} {u : Value} {o : Obj} {n : String} {vs : Array Value} {Q : Unit → Shared → Prop} (ho : s.heap.get? it = some o) (hc : o.cls = .type n) (hd : o.data = .fields vs)
    (hn : ["enumerate", "zip", "dict_itemiterator", "dict_reverseitemiterator", "odict_iterator", "itertools.zip_longest", "itertools.pairwise"].contains n = false) (hQ : Q () s) : wpAny M A (letOwnedTupleGo tg (.ref it) u) Q E s := by
  unfold letOwnedTupleGo
  cases tg <;> first
    | exact wpAny_pure hQ
    | (cases u <;> first
        | exact wpAny_pure hQ
        | (refine wpAny_bind (wpAny_load ho ?_)
           rw [hc, hd]
           show wpAny M A (if (["enumerate", "zip", "dict_itemiterator", "dict_reverseitemiterator", "odict_iterator", "itertools.zip_longest", "itertools.pairwise"].contains n && vs[0]? == some (rawInt _)) = true then _ else _) Q E s
           rw [if_neg (by intro h; rw [hn, Bool.false_and] at h; cases h)]
           exact wpAny_pure hQ))
def Itl (K : PySem.W.Frag) (a : Addr) : It :=
  ⟨fun i H => ∃ xs x, SqL K H a xs ∧ xs[i]? = some x, fun i H x H' => H' = H ∧ ∀ xs, SqL K H a xs → xs[i]? = some x, fun i H => ∃ xs, SqL K H a xs ∧ xs.length ≤ i⟩
def Itt (K : PySem.W.Frag) (a : Addr) : It :=
  ⟨fun i H => ∃ xs x, SqT K H a xs ∧ xs[i]? = some x, fun i H x H' => H' = H ∧ ∀ xs, SqT K H a xs → xs[i]? = some x, fun i H => ∃ xs, SqT K H a xs ∧ xs.length ≤ i⟩
def Itr (lo : Int) (n : Nat) : It := ⟨fun i _ => i < n, fun i H x H' => H' = H ∧ x = .int (lo + i), fun i _ => n ≤ i⟩
theorem turn_list {P : Program} {w : World} {K : PySem.W.Frag} {tg : Expr} (a it : Addr) : Turn P w K tg (Itl K a) [it] it (fun i h => h.IsListIter it a i) where
  mem := by simp
  obj := fun i h st b hb => by
    have e : b = it := by simpa using hb
    subst e
    obtain ⟨o, e, c, d⟩ := st
    exact ⟨o, e, fun v z => by rw [d] at z; cases z⟩
  keep := fun i h h' st k => st.at fun o e => k it (by simp) o e
  item := by
    intro X hP hw hK hc i pins s σ H E I hf st hg
    subst hP hw hK
    obtain ⟨xs, x, hq, hx⟩ := hg
    obtain ⟨its, rv, p, hz⟩ := I.list hq
    obtain ⟨u, hu, ru⟩ := rv.get hx
    obtain ⟨f0, f1, f2, f3, f4, f5⟩ := hf it (by simp)
    refine wpAny_pyNext_list_item st p.isList (x := u) (by simpa using hu) fun h' st' sb => ?_
    have I1 : Inv X pins σ H { s with heap := h' } := I.turned (t' := s.toks) (fun b o hb e => (sb.2 b hb).trans e) f0 f1 f3 f4 f5
    obtain ⟨o, e, c, d⟩ := id st'
    exact ⟨u, rfl, go_of (s := { s with heap := h' }) e c d (by decide) ⟨x, H, I1, ru, ⟨rfl, fun ys hy => by rw [I.list_inj hy hq]; exact hx⟩, st', fun b hb => (hf b hb).1⟩⟩
  done := by
    intro X hP hw hK hc i pins s σ H E I hf st hg
    subst hP hw hK
    obtain ⟨xs, hq, hx⟩ := hg
    obtain ⟨its, rv, p, hz⟩ := I.list hq
    obtain ⟨f0, f1, f2, f3, f4, f5⟩ := hf it (by simp)
    have hl := rv.length
    exact wpAny_pyNext_list_end (I.ok.hd hc) st p.isList (by simp; omega) fun h' eb => ⟨rfl, I.turned (t' := s.toks) (fun b o hb e => eb b o hb e) f0 f1 f3 f4 f5⟩
  self := fun _ _ _ _ _ st h => wpAny_pyIter_listiter st h
theorem turn_tuple {P : Program} {w : World} {K : PySem.W.Frag} {tg : Expr} (a it : Addr) : Turn P w K tg (Itt K a) [it] it (fun i h => h.IsTupleIter it a i) where
  mem := by simp
  obj := fun i h st b hb => by
    have e : b = it := by simpa using hb
    subst e
    obtain ⟨o, e, c, d⟩ := st
    exact ⟨o, e, fun v z => by rw [d] at z; cases z⟩
  keep := fun i h h' st k => st.at fun o e => k it (by simp) o e
  item := by
    intro X hP hw hK hc i pins s σ H E I hf st hg
    subst hP hw hK
    obtain ⟨xs, x, hq, hx⟩ := hg
    obtain ⟨its, rv, p, hz⟩ := I.tuple hq
    obtain ⟨u, hu, ru⟩ := rv.get hx
    obtain ⟨f0, f1, f2, f3, f4, f5⟩ := hf it (by simp)
    refine wpAny_pyNext_tuple_item st (show s.heap.IsTuple a its.toArray from p) (x := u) (by simpa using hu) fun h' st' sb => ?_
    have I1 : Inv X pins σ H { s with heap := h' } := I.turned (t' := s.toks) (fun b o hb e => (sb.2 b hb).trans e) f0 f1 f3 f4 f5
    obtain ⟨o, e, c, d⟩ := id st'
    exact ⟨u, rfl, go_of (s := { s with heap := h' }) e c d (by decide) ⟨x, H, I1, ru, ⟨rfl, fun ys hy => by rw [I.tuple_inj hy hq]; exact hx⟩, st', fun b hb => (hf b hb).1⟩⟩
  done := by
    intro X hP hw hK hc i pins s σ H E I hf st hg
    subst hP hw hK
    obtain ⟨xs, hq, hx⟩ := hg
    obtain ⟨its, rv, p, hz⟩ := I.tuple hq
    obtain ⟨f0, f1, f2, f3, f4, f5⟩ := hf it (by simp)
    have hl := rv.length
    exact wpAny_pyNext_tuple_end (I.ok.hd hc) st (show s.heap.IsTuple a its.toArray from p) (by simp; omega) fun h' eb => ⟨rfl, I.turned (t' := s.toks) (fun b o hb e => eb b o hb e) f0 f1 f3 f4 f5⟩
  self := fun _ _ _ _ _ st h => wpAny_pyIter_tupleiter st h
theorem turn_range {P : Program} {w : World} {K : PySem.W.Frag} {tg : Expr} (it : Addr) (lo : Int) (n : Nat) : Turn P w K tg (Itr lo n) [it] it (fun i h => IsRangeIter h it (lo + (i : Nat) * 1) ((n : Int) - (i : Nat)) 1) where
  mem := by simp
  obj := fun i h st b hb => by
    have e : b = it := by simpa using hb
    subst e
    exact ⟨_, st, fun v z => by
      have z' : Data.fields _ = Data.cell v := z
      cases z'⟩
  keep := fun i h h' st k => k it (by simp) _ st
  item := by
    intro X hP hw hK hc i pins s σ H E I hf st hg
    subst hP hw hK
    obtain ⟨f0, f1, f2, f3, f4, f5⟩ := hf it (by simp)
    have W := Walks.range (prog := X.prog) (w := X.w) (I.ok.hd hc) it lo 1 n
    refine W.item i s _ _ hg st fun v h' tk hv st' kk => ?_
    obtain ⟨t, rfl⟩ := hv
    have I1 : Inv X pins σ H { s with heap := h', toks := tk } := I.turned (fun b o hb e => kk b o (by simpa using hb) e) f0 f1 f3 f4 f5
    refine ⟨_, rfl, go_of (s := { s with heap := h', toks := tk }) (n := "range_iterator") st' rfl rfl (by decide) ⟨.int (lo + i), H, I1, ⟨t, ?_⟩, ⟨rfl, rfl⟩, st', fun b hb => (hf b hb).1⟩⟩
    rw [Int.mul_one]
  done := by
    intro X hP hw hK hc i pins s σ H E I hf st hg
    subst hP hw hK
    obtain ⟨f0, f1, f2, f3, f4, f5⟩ := hf it (by simp)
    exact wpAny_pyNext_range_end (I.ok.hd hc) st (by have : n ≤ i := hg; omega) fun h' eb => ⟨rfl, I.turned (t' := s.toks) (fun b o hb e => eb b o hb e) f0 f1 f3 f4 f5⟩
  self := fun _ _ _ _ _ st h => wpAny_pyIter_rangeiter st h
end L2
namespace L2
open PySem PySem.Spec PyProof.Rows
section
variable {X : Cx} {tg : Expr}
theorem range_it {pins : List (Addr × Obj)} {σ : St} {H : Hp} {s : Shared} {R : It → Hp → Prop} {E : Value → Shared → Prop} {lo hi : Int} {t u v : Tok} {tk : Nat} (I : Inv X pins σ H s) (h1 : -(2 ^ 62) ≤ lo) (h2 : lo < 2 ^ 62) (h3 : -(2 ^ 62) ≤ hi) (h4 : hi < 2 ^ 62)
    (q : R (Itr lo (hi - lo).toNat) H) : wpAny (model X.prog X.w) X.A (pyIter (.ref s.heap.objs.size)) (PIE X pins σ tg R) E { s with heap := s.heap.push { cls := .type "range", data := .fields #[.int lo t, .int hi u, .int 1 v] }, toks := tk } := by
  refine wpAny_pyIter_range (IsRange.new ..) (small_one h1 h2 h3 h4) ?_
  have I1 : Inv X pins σ H { s with heap := s.heap.push { cls := .type "range", data := .fields #[.int lo t, .int hi u, .int 1 v] }, toks := tk } := I.kept fun b o e => Heap.get?_push_of_some _ e
  refine ⟨(s.heap.push { cls := .type "range", data := .fields #[.int lo t, .int hi u, .int 1 v] }).objs.size, [(s.heap.push { cls := .type "range", data := .fields #[.int lo t, .int hi u, .int 1 v] }).objs.size], _, _, H, rfl,
    I1.kept (t' := tk) fun b o e => Heap.get?_push_of_some _ e, turn_range _ lo (hi - lo).toNat, ?_, fun b hb => ?_, q⟩
  · have e1 : lo + ((0 : Nat) : Int) * 1 = lo := by simp
    have e2 : (((hi - lo).toNat : Nat) : Int) - ((0 : Nat) : Int) = Builtin.Range.rangeSize lo hi 1 := by rw [rangeSize_one]; split <;> omega
    show IsRangeIter _ _ (lo + ((0 : Nat) : Int) * 1) ((((hi - lo).toNat : Nat) : Int) - ((0 : Nat) : Int)) 1
    rw [e1, e2]
    exact Heap.get?_push_size _ rfl
  · have e : b = (s.heap.push { cls := .type "range", data := .fields #[.int lo t, .int hi u, .int 1 v] }).objs.size := by simpa using hb
    subst e
    exact I1.fpOk (Nat.le_refl _) (I1.hok.fresh (Nat.le_refl _))
def iRng1 (ta : TA) : TI := fun σ H R => ta σ H fun vs H1 => ∃ j : Int, vs = [.int j] ∧ -(2 ^ 62) ≤ j ∧ j < 2 ^ 62 ∧ R (Itr 0 j.toNat) H1
theorem pi_range1 {a : Expr} {ta : TA} {p pos : Pos} (hg : Gl X "range") (hm : X.mg "range" = none) (ha : PA X [a] ta) (hs : starEach [a] X.env = [(false, eval a X.env)] := by rfl) : PI X tg (.Call (.Name "range" p) [a] [] pos) (iRng1 ta) := by
  intro pins s σ H R I h
  refine Call_ (ld_blt I hg hm boot_range (PyProof.Rows.callWith_type1 (thn (ha pos pins s σ H _ I h) fun us s1 ⟨vs, H1, I1, r1, q1⟩ => ?_) hs rfl))
  obtain ⟨j, e, q1, q2, q⟩ := q1
  subst e
  cases r1 with
  | cons r rr =>
    cases rr
    obtain ⟨t, rfl⟩ := r
    exact call_range_1 (range_it I1 (by omega) (by omega) q1 q2 (by simpa using q))
def tFor (wi : TI) (g : TG) (tb : TS) : TS := fun D σ H => wi σ H fun J H1 => ∃ W : Nat → Nat → St → Hp → Prop, (∃ m, W 0 m σ H1) ∧ ∀ i m σ H, W i m σ H →
  (J.stop i H ∧ D.nx σ H) ∨ (J.go i H ∧ ∃ N : St → Hp → Prop, (∀ σ' H', N σ' H' → ∃ m', m' < m ∧ W (i + 1) m' σ' H') ∧ ∀ x H', J.yld i H x H' → g x σ H' fun σ2 H2 => tb { D with nx := N, ct := N, bk := D.nx } σ2 H2)
def pinsAt (fp : List Addr) (h : Heap) : List (Addr × Obj) := fp.filterMap fun b => (h.get? b).map fun o => (b, o)
theorem mem_pinsAt {fp : List Addr} {h : Heap} {b : Addr} {o : Obj} (hb : b ∈ fp) (e : h.get? b = some o) : (b, o) ∈ pinsAt fp h := List.mem_filterMap.mpr ⟨b, hb, by rw [e]; rfl⟩
theorem of_pinsAt {fp : List Addr} {h : Heap} {p : Addr × Obj} (hp : p ∈ pinsAt fp h) : p.1 ∈ fp ∧ h.get? p.1 = some p.2 := by
  obtain ⟨b, hb, e⟩ := List.mem_filterMap.mp hp
  cases q : h.get? b with
  | none => rw [q] at e; cases e
  | some o =>
    rw [q] at e
    have e' : (b, o) = p := Option.some.inj e
    subst e'
    exact ⟨hb, q⟩
theorem Inv.pinned {pins : List (Addr × Obj)} {σ : St} {H : Hp} {s : Shared} {fp : List Addr} (I : Inv X pins σ H s) (hf : ∀ b ∈ fp, FpOk X pins H b) (ho : ∀ b ∈ fp, ∃ o, s.heap.get? b = some o ∧ ∀ v, o.data ≠ .cell v) : Inv X (pins ++ pinsAt fp s.heap) σ H s :=
  I.pins_of fun p hp => (List.mem_append.mp hp).elim (fun z => I.pin p (List.mem_append_right _ z)) fun z => by
    obtain ⟨hb, e⟩ := of_pinsAt z
    obtain ⟨f0, f1, f2, _⟩ := hf p.1 hb
    obtain ⟨o, e', d⟩ := ho p.1 hb
    rw [e] at e'; cases e'
    exact ⟨e, f0, f1, f2, d⟩
theorem Inv.unpinned {pins pl : List (Addr × Obj)} {σ : St} {H : Hp} {s : Shared} (I : Inv X (pins ++ pl) σ H s) : Inv X pins σ H s := I.pins_of fun p hp => I.pin p (List.mem_append_right _ (List.mem_append_left _ hp))
theorem ps_for {iter : Expr} {body : List Stmt} {wi : TI} {g : TG} {tb : TS} {pos : Pos} (hp : PassesOwn (model X.prog X.w) X.A X.env X.xe) (hc : X.calm = true) (hi : PI X tg iter wi) (hg : PG X tg g) (hb : PSs X body tb)
    (hs : ∀ x, foldedSetIterable iter X.env x = pure x := by intro _; rfl) : PS X (.For tg iter body [] pos) (tFor wi g tb) := by
  intro pins s σ H D I h
  refine wpAny_For (thn (hi pins s σ H _ I h) fun v s1 h1 => thn h1 fun itv s2 h2 => ?_) hs
  obtain ⟨it, fp, tn, J, H2, e, I2, T, st2, f2, W, ⟨m0, w0⟩, turn⟩ := h2
  subst e
  have stat : ∀ {H' : Hp}, (∀ b ∈ fp, H' b = none) → ∀ b ∈ fp, FpOk X pins H' b := fun hn b hb => ⟨hn b hb, (f2 b hb).2⟩
  refine codeAny_forLoop_any (fun n s' => ∃ i σ' H', Inv X pins σ' H' s' ∧ tn i s'.heap ∧ (∀ b ∈ fp, H' b = none) ∧ W i n σ' H') ?_ m0 ⟨0, σ, H2, I2, st2, fun b hb => (f2 b hb).1, w0⟩
  rintro n s3 ⟨i, σ3, H3, I3, st3, fr3, w3⟩
  rcases turn i n σ3 H3 w3 with ⟨stop, qn⟩ | ⟨go, N, hN, step⟩
  · refine wpAny_passesOwn hp (thn (T.done X rfl rfl rfl hc i pins s3 σ3 H3 X.xe I3 (stat fr3) st3 stop) fun r s4 ⟨hr, I4⟩ => ?_)
    subst hr
    exact wpAny_execs_nil ⟨σ3, H3, I4, qn⟩
  · refine wpAny_passesOwn hp (thn (T.item X rfl rfl rfl hc i pins s3 σ3 H3 X.xe I3 (stat fr3) st3 go) fun r s4 ⟨u, hr, h4⟩ => ?_)
    subst hr
    refine wpAny_passesOwn hp (thn h4 fun _ s5 ⟨x, H5, I5, r5, y5, st5, fr5⟩ => ?_)
    have I5' := I5.pinned (stat fr5) (T.obj _ _ st5)
    refine wpAny_passesOwn hp (thn (hg _ s5 σ3 H5 x u _ I5' r5 (step x H5 y5)) fun _ s6 ⟨σ6, H6, I6, q6⟩ => ?_)
    refine wpAny_passesOwn hp (thn (hb _ s6 σ6 H6 _ I6 q6) fun f s7 q7 => ?_)
    have again : ∀ {σ7 : St} {H7 : Hp}, Inv X (pins ++ pinsAt fp s5.heap) σ7 H7 s7 → N σ7 H7 → ∃ m, m < n ∧ ∃ i σ' H', Inv X pins σ' H' s7 ∧ tn i s7.heap ∧ (∀ b ∈ fp, H' b = none) ∧ W i m σ' H' := fun {σ7 H7} I7 n7 => by
      obtain ⟨m', hm, w7⟩ := hN σ7 H7 n7
      refine ⟨m', hm, i + 1, σ7, H7, I7.unpinned, T.keep _ _ _ st5 fun b hb o e => (I7.pin (b, o) (List.mem_append_right _ (List.mem_append_right _ (mem_pinsAt hb e)))).1, fun b hb => ?_, w7⟩
      obtain ⟨o, e, d⟩ := T.obj _ _ st5 b hb
      exact (I7.pin (b, o) (List.mem_append_right _ (List.mem_append_right _ (mem_pinsAt hb e)))).2.1
    cases f with
    | next => obtain ⟨σ7, H7, I7, n7⟩ := q7; exact again I7 n7
    | cont => obtain ⟨σ7, H7, I7, n7⟩ := q7; exact again I7 n7
    | brk => obtain ⟨σ7, H7, I7, q7⟩ := q7; exact ⟨σ7, H7, I7.unpinned, q7⟩
    | ret v => obtain ⟨x7, σ7, H7, I7, r7, q7⟩ := q7; exact ⟨x7, σ7, H7, I7.unpinned, r7, q7⟩
end
end L2
namespace L2
open PySem PySem.Spec PyProof.Rows
abbrev R2 := V → V → Hp → VK → Prop
def OpR (X : Cx) (f : Value → Value → Sem Value) (r : R2) : Prop :=
  ∀ (pins : List (Addr × Obj)) (s : Shared) (σ : St) (H : Hp) (x y : V) (v u : Value) (Q : VK), Inv X pins σ H s → RelV x v → RelV y u → r x y H Q →
    wpAny (model X.prog X.w) X.A (f v u) (EP X pins σ Q) X.xe s
def UnR (X : Cx) (f : Value → Sem Value) (r : V → Hp → VK → Prop) : Prop :=
  ∀ (pins : List (Addr × Obj)) (s : Shared) (σ : St) (H : Hp) (x : V) (v : Value) (Q : VK), Inv X pins σ H s → RelV x v → r x H Q →
    wpAny (model X.prog X.w) X.A (f v) (EP X pins σ Q) X.xe s
def CallR (X : Cx) (f : Value) (r : List V → Hp → VK → Prop) : Prop :=
  ∀ (pins : List (Addr × Obj)) (s : Shared) (σ : St) (H : Hp) (xs : List V) (us : List Value) (Q : VK), Inv X pins σ H s → Vals xs us → r xs H Q →
    wpAny (model X.prog X.w) X.A (call f us) (EP X pins σ Q) X.xe s
def tOp (r : R2) (ta tb : TE) : TE := fun σ H Q => ta σ H fun x H1 => tb σ H1 fun y H2 => r x y H2 Q
def tUn (r : V → Hp → VK → Prop) (ta : TE) : TE := fun σ H Q => ta σ H fun x H1 => r x H1 Q
def rI (C : Int → Int → Prop) (g : Int → Int → V) : R2 := fun x y H Q => ∃ i j, x = .int i ∧ y = .int j ∧ C i j ∧ Q (g i j) H
def rI0 (g : Int → Int → V) : R2 := fun x y H Q => ∃ i j, x = .int i ∧ y = .int j ∧ Q (g i j) H
def rU (g : Int → V) : V → Hp → VK → Prop := fun x H Q => ∃ i, x = .int i ∧ Q (g i) H
section
variable {X : Cx} {a b c : Expr} {ta tb tc : TE} {pos : Pos}
theorem binT (ha : PE X a ta) (hb : PE X b tb) {pins : List (Addr × Obj)} {s : Shared} {σ : St} {H : Hp} {R : V → V → Hp → Prop} (I : Inv X pins σ H s)
    (h : ta σ H fun x H1 => tb σ H1 fun y H2 => R x y H2) {Q : Value → Shared → Prop} {f : Value → Value → Sem Value}
    (hf : ∀ v u s2 x y H2, Inv X pins σ H2 s2 → RelV x v → RelV y u → R x y H2 → wpAny (model X.prog X.w) X.A (f v u) Q X.xe s2) :
    wpAny (model X.prog X.w) X.A (eval a X.env) (fun v s₁ => wpAny (model X.prog X.w) X.A (eval b X.env) (fun u s₂ => wpAny (model X.prog X.w) X.A (f v u) Q X.xe s₂) X.xe s₁) X.xe s := by
  refine thn (ha pins s σ H _ I h) fun v s1 ⟨x, H1, I1, r1, q1⟩ => ?_
  refine thn (hb pins s1 σ H1 _ I1 q1) fun u s2 ⟨y, H2, I2, r2, q2⟩ => ?_
  exact hf v u s2 x y H2 I2 r1 r2 q2
theorem pe_op {op : Operator} {r : R2} (ho : OpR X (binaryOp op) r) (ha : PE X a ta) (hb : PE X b tb) : PE X (.BinOp a op b pos) (tOp r ta tb) := by
  intro pins s σ H Q I h
  exact wpAny_BinOp (binT ha hb I h fun v u s2 x y H2 I2 rx ry q => ho pins s2 σ H2 x y v u Q I2 rx ry q)
theorem pe_un {op : UnaryOp} {r : V → Hp → VK → Prop} (ho : UnR X (unaryOp op) r) (ha : PE X a ta) : PE X (.UnaryOp op a pos) (tUn r ta) := by
  intro pins s σ H Q I h
  exact UnaryOp_ (thn (ha pins s σ H _ I h) fun v s1 ⟨x, H1, I1, r1, q1⟩ => ho pins s1 σ H1 x v Q I1 r1 q1)
theorem opI {f : Value → Value → Sem Value} {C : Int → Int → Prop} {g : Int → Int → Int}
    (rule : ∀ (i j : Int) (t u : Tok) (s : Shared) (Q : Value → Shared → Prop) (E : Value → Shared → Prop), C i j → Q (.int (g i j) s.toks) { s with toks := s.toks + 1 } → wpAny (model X.prog X.w) X.A (f (.int i t) (.int j u)) Q E s) :
    OpR X f (rI C fun i j => .int (g i j)) := by
  intro pins s σ H x y v u Q I rx ry h
  obtain ⟨i, j, rfl, rfl, hc, q⟩ := h
  obtain ⟨t, rfl⟩ := rx
  obtain ⟨t', rfl⟩ := ry
  exact rule i j t t' s _ _ hc ⟨.int (g i j), H, I.tok _, ⟨_, rfl⟩, q⟩
theorem opI0 {f : Value → Value → Sem Value} {g : Int → Int → Int}
    (rule : ∀ (i j : Int) (t u : Tok) (s : Shared) (Q : Value → Shared → Prop) (E : Value → Shared → Prop), Q (.int (g i j) s.toks) { s with toks := s.toks + 1 } → wpAny (model X.prog X.w) X.A (f (.int i t) (.int j u)) Q E s) :
    OpR X f (rI0 fun i j => .int (g i j)) := by
  intro pins s σ H x y v u Q I rx ry h
  obtain ⟨i, j, rfl, rfl, q⟩ := h
  obtain ⟨t, rfl⟩ := rx
  obtain ⟨t', rfl⟩ := ry
  exact rule i j t t' s _ _ ⟨.int (g i j), H, I.tok _, ⟨_, rfl⟩, q⟩
theorem opB0 {f : Value → Value → Sem Value} {g : Int → Int → Bool}
    (rule : ∀ (i j : Int) (t u : Tok) (s : Shared) (Q : Value → Shared → Prop) (E : Value → Shared → Prop), Q (.bool (g i j)) s → wpAny (model X.prog X.w) X.A (f (.int i t) (.int j u)) Q E s) :
    OpR X f (rI0 fun i j => .bl (g i j)) := by
  intro pins s σ H x y v u Q I rx ry h
  obtain ⟨i, j, rfl, rfl, q⟩ := h
  obtain ⟨t, rfl⟩ := rx
  obtain ⟨t', rfl⟩ := ry
  exact rule i j t t' s _ _ ⟨.bl (g i j), H, I, rfl, q⟩
def CDiv (i j : Int) : Prop := 0 < j ∧ j < 1073741824
def CPow (i j : Int) : Prop := 0 ≤ j ∧ j ≤ 1000000 ∧ i.natAbs < 2 ^ 64
def CMul (i j : Int) : Prop := (-(2 ^ 64) < i ∧ i < 2 ^ 64) ∨ (-(2 ^ 64) < j ∧ j < 2 ^ 64)
theorem CMul.ok {i j : Int} (h : CMul i j) : IntMulOk i j := by
  rcases h with ⟨h1, h2⟩ | ⟨h1, h2⟩
  · exact .of_left (intBits_le_64 h1 h2)
  · exact .of_right (intBits_le_64 h1 h2)
theorem op_add : OpR X (binaryOp .Add) (rI0 fun i j => .int (i + j)) := opI0 fun _ _ _ _ _ _ _ q => add_int q
theorem op_sub : OpR X (binaryOp .Sub) (rI0 fun i j => .int (i - j)) := opI0 fun _ _ _ _ _ _ _ q => sub_int q
theorem op_mul : OpR X (binaryOp .Mult) (rI CMul fun i j => .int (i * j)) := opI fun _ _ _ _ _ _ _ hc q => mul_int q hc.ok
theorem op_fdiv : OpR X (binaryOp .FloorDiv) (rI CDiv fun i j => .int (i / j)) := opI fun i j _ _ _ _ _ hc q => by
  have h1 : (0 : Int) < j := hc.1
  have h2 : j < 1073741824 := hc.2
  exact floordiv_int (by omega) (by rw [Int.fdiv_eq_ediv_of_nonneg i (by omega)]; exact q) (.inl (PyProof.noPylong_small (by omega)))
theorem op_mod : OpR X (binaryOp .Mod) (rI (fun _ j => 0 < j) fun i j => .int (i % j)) := opI fun i j _ _ _ _ _ hc q => by
  have h1 : (0 : Int) < j := hc
  exact mod_int' (by omega) (by rw [Int.fmod_eq_emod_of_nonneg i (by omega)]; exact q)
theorem op_pow : OpR X (binaryOp .Pow) (rI CPow fun i j => .int (i ^ j.toNat)) := opI fun _ _ _ _ _ _ _ hc q => pow_int_small hc.1 hc.2.1 hc.2.2 q
theorem unI {f : Value → Sem Value} {g : Int → Int}
    (rule : ∀ (i : Int) (t : Tok) (s : Shared) (Q : Value → Shared → Prop) (E : Value → Shared → Prop), Q (.int (g i) s.toks) { s with toks := s.toks + 1 } → wpAny (model X.prog X.w) X.A (f (.int i t)) Q E s) :
    UnR X f (rU fun i => .int (g i)) := by
  intro pins s σ H x v Q I rx h
  obtain ⟨i, rfl, q⟩ := h
  obtain ⟨t, rfl⟩ := rx
  exact rule i t s _ _ ⟨.int (g i), H, I.tok _, ⟨_, rfl⟩, q⟩
theorem un_neg : UnR X (unaryOp .USub) (rU fun i => .int (-i)) := unI fun _ _ _ _ _ q => neg_int q
end
section
variable {X : Cx} {a b c : Expr} {ta tb tc : TE} {pos : Pos}
theorem op_lt : OpR X (compareOp .Lt) (rI0 fun i j => .bl (decide (i < j))) := opB0 fun _ _ _ _ _ _ _ q => lt_int q
theorem op_le : OpR X (compareOp .LtE) (rI0 fun i j => .bl (decide (i ≤ j))) := opB0 fun _ _ _ _ _ _ _ q => le_int q
theorem op_gt : OpR X (compareOp .Gt) (rI0 fun i j => .bl (decide (j < i))) := opB0 fun _ _ _ _ _ _ _ q => gt_int q
theorem op_ge : OpR X (compareOp .GtE) (rI0 fun i j => .bl (decide (j ≤ i))) := opB0 fun _ _ _ _ _ _ _ q => ge_int q
theorem nomark (b : Expr) {op : CmpOp} (h : op ≠ .In := by decide) (h2 : op ≠ .NotIn := by decide) : behindInMarks op b = false := by
  have e1 : (op == CmpOp.In) = false := by cases op <;> first | rfl | exact absurd rfl h
  have e2 : (op == CmpOp.NotIn) = false := by cases op <;> first | rfl | exact absurd rfl h2
  cases b <;> simp [behindInMarks, e1, e2]
theorem pe_cmpR {op : CmpOp} {r : R2} (ho : OpR X (compareOp op) r) (ha : PE X a ta) (hb : PE X b tb) (hm : behindInMarks op b = false) : PE X (.Compare a [op] [b] pos) (tOp r ta tb) := by
  intro pins s σ H Q I h
  exact wpAny_Compare1 (binT ha hb I h fun v u s2 x y H2 I2 rx ry q => ho pins s2 σ H2 x y v u Q I2 rx ry q) hm
def tTest (t : TE) : TT := fun σ H Q => t σ H fun x H' => ∃ k, x = .bl k ∧ Q k H'
theorem pt_cmpR {op : CmpOp} {r : R2} (ho : OpR X (compareOp op) r) (ha : PE X a ta) (hb : PE X b tb) (hm : behindInMarks op b = false) : PT X (.Compare a [op] [b] pos) (tTest (tOp r ta tb)) := by
  intro pins s σ H Q I h
  refine wpAny_isTrue_Compare1 (thn (ha pins s σ H _ I h) fun v s1 ⟨x, H1, I1, r1, q1⟩ => thn (hb pins s1 σ H1 _ I1 q1) fun u s2 ⟨y, H2, I2, r2, q2⟩ =>
    thn (ho pins s2 σ H2 x y v u _ I2 r1 r2 q2) fun c s3 ⟨z, H3, I3, r3, k, e, q3⟩ => ?_) hm
  subst e
  cases r3
  exact wpAny_truthy_bool ⟨H3, I3, q3⟩
def tChain (r r' : R2) (ta tb tc : TE) : TE := fun σ H Q => ta σ H fun x H1 => tb σ H1 fun y H2 => r x y H2 fun z H3 => ∃ k, z = .bl k ∧
  (if k = true then tc σ H3 fun w' H4 => r' y w' H4 Q else Q (.bl false) H3)
theorem pe_chain {op op' : CmpOp} {r r' : R2} (ho : OpR X (compareOp op) r) (ho' : OpR X (compareOp op') r') (ha : PE X a ta) (hb : PE X b tb) (hc : PE X c tc)
    (hm : lastMarks [op, op'] [b, c] = false := by with_unfolding_all rfl) : PE X (.Compare a [op, op'] [b, c] pos) (tChain r r' ta tb tc) := by
  intro pins s σ H Q I h
  refine Compare_chain (thn (ha pins s σ H _ I h) fun v s1 ⟨x, H1, I1, r1, q1⟩ => chain_link (thn (hb pins s1 σ H1 _ I1 q1) fun u s2 ⟨y, H2, I2, r2, q2⟩ =>
    thn (ho pins s2 σ H2 x y v u _ I2 r1 r2 q2) fun d s3 ⟨z, H3, I3, r3, k, e, q3⟩ => ?_)) hm
  subst e
  cases r3
  refine wpAny_truthy_bool ?_
  cases k with
  | false => exact ite_ff ⟨.bl false, H3, I3, rfl, q3⟩
  | true => exact ite_tt (chain_last (thn (hc pins s3 σ H3 _ I3 q3) fun w' s4 ⟨z', H4, I4, r4, q4⟩ => ho' pins s4 σ H4 y z' u w' Q I4 r2 r4 q4))
theorem line63 : (sizeLine : Nat) < 2 ^ 63 := by rw [sizeLine_eq]; decide
theorem op_add_str : OpR X (binaryOp .Add) (fun x y H Q => ∃ i j, x = .str i ∧ y = .str j ∧ i.length + j.length ≤ sizeLine ∧ Q (.str (i ++ j)) H) := by
  intro pins s σ H x y v u Q I rx ry h
  obtain ⟨i, j, rfl, rfl, hz, q⟩ := h
  obtain ⟨t, rfl⟩ := rx
  obtain ⟨t', rfl⟩ := ry
  exact add_str (fun t' tk => ⟨.str (i ++ j), H, I.tok _, ⟨_, rfl⟩, q⟩) hz
theorem vals1 {x : V} {us : List Value} (r : Vals [x] us) : ∃ u, us = [u] ∧ RelV x u := by
  cases r with
  | cons r1 r2 => cases r2; exact ⟨_, rfl, r1⟩
theorem vals2 {x y : V} {us : List Value} (r : Vals [x, y] us) : ∃ u w', us = [u, w'] ∧ RelV x u ∧ RelV y w' := by
  cases r with
  | cons r1 r2 =>
    cases r2 with
    | cons r3 r4 => cases r4; exact ⟨_, _, rfl, r1, r3⟩
theorem call_min2 (hc : X.calm = true) : CallR X (.builtin "min") (fun xs H Q => ∃ i j, xs = [.int i, .int j] ∧ Q (.int (if j < i then j else i)) H) := by
  intro pins s σ H xs us Q I r h
  obtain ⟨i, j, rfl, q⟩ := h
  obtain ⟨u, w', rfl, ⟨t, rfl⟩, ⟨t', rfl⟩⟩ := vals2 r
  refine min_two_ints (I.ok.hd hc) fun h' tk k => ⟨_, H, I.kept k, ?_, q⟩
  by_cases hj : j < i
  · rw [if_pos hj, if_pos hj]; exact ⟨_, rfl⟩
  · rw [if_neg hj, if_neg hj]; exact ⟨_, rfl⟩
end
end L2
namespace L2
open PySem PySem.Spec PyProof.Rows
structure ObjM (h : Heap) (x dx C : Addr) (mA : Str → Option Value) : Prop where
  obj : h.get? x = some (PySem.W.instObj C dx)
  ns : h.Ns1 dx mA
  ne : dx ≠ x
theorem lookIn_ns {h : Heap} {dx : Addr} {mA : Str → Option Value} (n : h.Ns1 dx mA) : ∃ od, h.get? dx = some od ∧ ∀ name, PySem.W.lookIn name od = some (mA name) := by
  obtain ⟨o, es, ep, ho, hd, hk, _, hm⟩ := n
  refine ⟨o, ho, fun name => ?_⟩
  have e := hm name
  unfold nsFind findBy at e
  rw [← Array.find?_toList] at e
  unfold PySem.W.lookIn
  rw [hd]
  dsimp only
  split
  · rename_i y q
    rw [q] at e
    exact congrArg some e
  · rename_i q
    rw [q] at e
    have a : es.toList.any (·.refKey) = false := by
      rw [List.any_eq_false]
      intro y hy
      obtain ⟨z, t, hkey⟩ := hk y (Array.mem_toList_iff.mp hy)
      simp [DictEntry.refKey, hkey]
    have a' : ¬ es.toList.any (·.refKey) = true := by rw [a]; exact Bool.false_ne_true
    rw [if_neg a']
    exact congrArg some e
theorem ObjM.look {h : Heap} {x dx C : Addr} {mA : Str → Option Value} (I : ObjM h x dx C mA) : ∃ od, PySem.W.InstAt h x (PySem.W.instObj C dx) C (some od) ∧ ∀ name, PySem.W.lookIn name od = some (mA name) :=
  let ⟨od, ho, hl⟩ := lookIn_ns I.ns
  ⟨od, ⟨I.obj, rfl, rfl, ho⟩, hl⟩
section
variable {prog : Program} {w : World} {A : Around} {E : Value → Shared → Prop} {s : Shared} {K : PySem.W.Frag} {x dx C f : Addr} {mA : Str → Option Value} {name : Str} {v : Value}
theorem set_map {ns : List Str} {Q : Unit → Shared → Prop} (X : K.In s.heap) (I : ObjM s.heap x dx C mA)
    (hs : PySem.W.findIn K (.ref C) "__setattr__" = some (some (.builtin "object.__setattr__"))) (hp : PySem.W.plainOver K C = true) (ht : PySem.W.takerIn K C name = some none) (hh : PySem.W.hasDictIn K C = true)
    (hw : PySem.Within mA ns) (hsz : ns.length ≤ sizeLine)
    (h : ∀ h', ObjM h' x dx C (fun y => if y = name then some v else mA y) → Heap.SameBut dx s.heap h' → Q () { s with heap := h', toks := s.toks + 2 }) :
    wpAny (model prog w) A (setAttr (.ref x) name v) Q E s := by
  obtain ⟨od, J, hl⟩ := I.look
  refine PySem.W.set_plain X J hs (PySem.W.osa_open (s := { s with toks := s.toks + 1 }) (r := none) X J hp ht fun b => ?_)
  obtain ⟨cd, hc, hd'⟩ := PySem.W.any_some hh
  have hx : s.heap.get? x = some ⟨.ref C, some dx, .plain, #[]⟩ := I.obj
  refine wpAny_bind (wpAny_pure (wpAny_bind (wpAny_bind (wpAny_loadPart hx (wpAny_bind (PySem.W.Looks.here (s := { s with toks := s.toks + 1 }) (PySem.W.looks_clsIn X hc) ?_))))))
  rw [hd']
  refine wpAny_pure (a := some dx) (wpAny_bind (wpAny_pure (wpAny_bind ?_)))
  refine wpAny_nsSet1 (s := { s with toks := s.toks + 1 }) I.ns fun h' hn2 hs2 => ?_
  obtain ⟨oD, esD, epD, hoD, hdD, hcD⟩ := hn2.count (PySem.Within.cons name v hw)
  refine wpAny_bind (wpAny_lookBehind hoD (by rw [hdD]; exact pastItsLine_dict (Nat.le_trans hcD (by rw [List.length_cons]; omega))) ?_)
  exact wpAny_pure (h _ ⟨(hs2.2 _ (Ne.symm I.ne)).trans I.obj, hn2, I.ne⟩ hs2)
theorem make_map {R : Result → Shared → Prop} {vs : List Value} {kw : List (Str × Value)} (X : K.In s.heap) (hm : PySem.W.makesIn K C = true)
    (hi : PySem.W.findIn K (.ref C) "__init__" = some (some (.ref f))) (hf : PySem.W.typeIn K (.ref f) = some (.type "function"))
    (h : codeAny (model prog w) (A.under (.builtin "type.__call__" ⟨.ref C :: vs, kw⟩)) (.call (.ref f) ⟨.ref (s.heap.objs.size + 1) :: vs, kw⟩) (PySem.W.InitBack (s.heap.objs.size + 1) R)
      { s with heap := (s.heap.push PySem.W.emptyDict).push (PySem.W.instObj C s.heap.objs.size) }) :
    codeAny (model prog w) A (.call (.ref C) ⟨vs, kw⟩) R s := by
  obtain ⟨hh, g, d, t, os⟩ := s
  exact PySem.W.make_core (PySem.W.makes_of X hm) (PySem.W.looks_findIn X hi) (fun self => PySem.W.bind_fn X self hf) (.inl rfl) h
end
def putF (f : Str) (v : V) : List (Str × V) → List (Str × V)
  | [] => [(f, v)]
  | (g, x) :: r => if g = f then (g, v) :: r else (g, x) :: putF f v r
theorem lookup_putF (f g : Str) (v : V) : ∀ fs : List (Str × V), (putF f v fs).lookup g = if g = f then some v else fs.lookup g
  | [] => by
    show List.lookup g [(f, v)] = _
    by_cases h : g = f
    · have hb : (g == f) = true := beq_iff_eq.mpr h
      simp only [List.lookup, hb, if_pos h]
    · have hb : (g == f) = false := beq_eq_false_iff_ne.mpr h
      simp only [List.lookup, hb, if_neg h]
  | (k, x) :: r => by
    have ih := lookup_putF f g v r
    rw [show putF f v ((k, x) :: r) = (if k = f then (k, v) :: r else (k, x) :: putF f v r) from rfl]
    by_cases hk : k = f
    · rw [if_pos hk]
      by_cases h : g = k
      · have hb : (g == k) = true := beq_iff_eq.mpr h
        simp only [List.lookup, hb, if_pos (h.trans hk)]
      · have hb : (g == k) = false := beq_eq_false_iff_ne.mpr h
        simp only [List.lookup, hb, if_neg (fun e : g = f => h (e.trans hk.symm))]
    · rw [if_neg hk]
      by_cases h : g = k
      · have hb : (g == k) = true := beq_iff_eq.mpr h
        simp only [List.lookup, hb, if_neg (fun e : g = f => hk (h.symm.trans e))]
      · have hb : (g == k) = false := beq_eq_false_iff_ne.mpr h
        simp only [List.lookup, hb]
        exact ih
theorem keys_putF (f : Str) (v : V) : ∀ fs : List (Str × V), f ∈ (putF f v fs).map (·.1) ∧ ∀ g, g ∈ fs.map (·.1) → g ∈ (putF f v fs).map (·.1)
  | [] => ⟨by simp [putF], fun g h => by simp at h⟩
  | (k, x) :: r => by
    obtain ⟨i1, i2⟩ := keys_putF f v r
    rw [show putF f v ((k, x) :: r) = (if k = f then (k, v) :: r else (k, x) :: putF f v r) from rfl]
    by_cases hk : k = f
    · rw [if_pos hk]
      subst hk
      exact ⟨by simp, fun g h => by simpa using h⟩
    · rw [if_neg hk]
      refine ⟨?_, fun g h => ?_⟩
      · rw [List.map_cons]
        exact List.mem_cons_of_mem _ i1
      · rw [List.map_cons] at h ⊢
        rcases List.mem_cons.mp h with e | e
        · exact List.mem_cons.mpr (.inl e)
        · exact List.mem_cons_of_mem _ (i2 g e)
theorem length_putF (f : Str) (v : V) : ∀ fs : List (Str × V), (putF f v fs).length ≤ fs.length + 1
  | [] => by simp [putF]
  | (k, x) :: r => by
    have ih := length_putF f v r
    rw [show putF f v ((k, x) :: r) = (if k = f then (k, v) :: r else (k, x) :: putF f v r) from rfl]
    by_cases hk : k = f
    · rw [if_pos hk, List.length_cons, List.length_cons]; omega
    · rw [if_neg hk, List.length_cons, List.length_cons]; omega
section
variable {P : Program} {w : World} {H H' : Hp} {h h' : Heap} {a C dx : Addr} {fs fs' : List (Str × V)}
theorem ins_get (hok : HOk P w H h) (e : H a = some (.ins C dx fs)) : ∃ mA, ObjM h a dx C mA ∧ (∀ f, RelO (fs.lookup f) (mA f)) ∧ PySem.Within mA (fs.map (·.1)) ∧ fs.length ≤ 1000 ∧ H dx = some (.own a) := by
  obtain ⟨d, z, ne, ob, mA, n, r, q⟩ := (show ObjOk P w H h a (.ins C dx fs) from hok a _ e)
  exact ⟨mA, ⟨ob, n, ne⟩, r, q, z, d⟩
end
structure Cls (K : PySem.W.Frag) (C : Addr) : Prop where
  pg : PySem.W.plainGet K C Str.empty = true
  hd : PySem.W.hasDictIn K C = true
  po : PySem.W.plainOver K C = true
  sa : PySem.W.findIn K (.ref C) "__setattr__" = some (some (.builtin "object.__setattr__"))
theorem Cls.get {K : PySem.W.Frag} {C : Addr} (c : Cls K C) (f : Str) : PySem.W.plainGet K C f = true := c.pg
def NoAttr (K : PySem.W.Frag) (C : Addr) (f : Str) : Prop := PySem.W.findIn K (.ref C) f = some none
theorem NoAttr.taker {K : PySem.W.Frag} {C : Addr} {f : Str} (n : NoAttr K C f) : PySem.W.takerIn K C f = some none := by
  unfold PySem.W.takerIn
  rw [show PySem.W.findIn K (.ref C) f = some none from n]
  rfl
structure Con (K : PySem.W.Frag) (C : Addr) (f : Str) (v : V) (u : Value) : Prop where
  at_ : PySem.W.findIn K (.ref C) f = some (some u)
  rel : RelV v u
  get : PySem.W.specialIn K u "__get__" = some none
  cp : PySem.W.copiedNames.contains f = false
structure Meth (K : PySem.W.Frag) (C : Addr) (m : Str) (f : Addr) : Prop where
  at_ : PySem.W.findIn K (.ref C) m = some (some (.ref f))
  fn : PySem.W.isFn K (.ref f) = true
  kp : PySem.W.keepIn K (.ref f) = true
section
variable {X : Cx} {pins : List (Addr × Obj)} {σ : St} {H : Hp} {s : Shared} {a C dx : Addr} {fs : List (Str × V)} {f : Str} {v : V} {A : Around} {E : Value → Shared → Prop}
theorem setattr_ok {y : V} {u : Value} {Q : Unit → Shared → Prop} (I : Inv X pins σ H s) (e : H a = some (.ins C dx fs)) (c : Cls X.K C) (n : NoAttr X.K C f) (hl : fs.length < 1000) (ry : RelV y u)
    (h : ∀ s', Inv X pins σ (upd H a (.ins C dx (putF f y fs))) s' → Q () s') : wpAny (model X.prog X.w) A (setAttr (.ref a) f u) Q E s := by
  obtain ⟨mA, O, r, wi, _, ho⟩ := ins_get I.hok e
  have hz : (fs.map (·.1)).length ≤ sizeLine := by rw [List.length_map, sizeLine_eq]; omega
  refine set_map I.kIn O c.sa c.po n.taker c.hd wi hz fun h' O' sb => h _ ?_
  have hd : ∃ o, h'.get? dx = some o := let ⟨o, _, _, e', _⟩ := O'.ns; ⟨o, e'⟩
  refine I.write (x := a) (e := dx) (by rw [e]; exact True.intro) (.inr ho) (fun b q hb z => (sb.2 b hb).trans z) hd ?_
  refine ⟨by rw [upd_ne O.ne]; exact ho, ?_, O.ne, O'.obj, _, O'.ns, fun g => ?_, fun g hg => ?_⟩
  · have := length_putF f y fs; omega
  · show RelO ((putF f y fs).lookup g) (if g = f then some u else mA g)
    rw [lookup_putF]
    by_cases q : g = f
    · rw [if_pos q, if_pos q]; exact ry
    · rw [if_neg q, if_neg q]; exact r g
  · by_cases q : g = f
    · rw [q]; exact (keys_putF f y fs).1
    · refine (keys_putF f y fs).2 g (wi g fun z => hg ?_)
      show (if g = f then some u else mA g) = none
      rw [if_neg q]; exact z
theorem Inv.made (I : Inv X pins σ H s) : Inv X pins σ (upd (upd H s.heap.objs.size (.own (s.heap.objs.size + 1))) (s.heap.objs.size + 1) (.ins C s.heap.objs.size []))
    { s with heap := (s.heap.push PySem.W.emptyDict).push (PySem.W.instObj C s.heap.objs.size) } := by
  have e1 : (s.heap.push PySem.W.emptyDict).get? s.heap.objs.size = some PySem.W.emptyDict := Heap.get?_push_size s.heap rfl
  have e2 : ((s.heap.push PySem.W.emptyDict).push (PySem.W.instObj C s.heap.objs.size)).get? (s.heap.objs.size + 1) = some (PySem.W.instObj C s.heap.objs.size) := by
    have := Heap.get?_push_size (s.heap.push PySem.W.emptyDict) (o := PySem.W.instObj C s.heap.objs.size) rfl
    rwa [Heap.size_push] at this
  have e3 : (s.heap.push PySem.W.emptyDict).Ns s.heap.objs.size (fun _ => none) := ⟨PySem.W.emptyDict, #[], _, e1, rfl, (fun e he => absurd he (by simp)), fun _ => rfl⟩
  have I1 := I.laid (a := s.heap.objs.size) (o := .own (s.heap.objs.size + 1)) (h' := s.heap.push PySem.W.emptyDict) (t' := s.toks) (fun b u q => Heap.get?_push_of_some _ q) (Nat.le_refl _) ⟨_, e1⟩
  refine I1.laid (a := s.heap.objs.size + 1) (o := .ins C s.heap.objs.size []) (t' := s.toks) (fun b u q => Heap.get?_push_of_some _ q) (Nat.le_of_eq (Heap.size_push _ _)) ?_
  have ne : s.heap.objs.size ≠ s.heap.objs.size + 1 := Nat.ne_of_lt (Nat.lt_succ_self _)
  refine ⟨by rw [upd_ne ne, upd_same], Nat.zero_le _, ne, e2, fun _ => none, (Heap.Ns1.of_empty e3).at fun o q => Heap.get?_push_of_some _ q, fun _ => True.intro, fun y hy => absurd rfl hy⟩
end
def sFld (K : PySem.W.Frag) (ta tv : TE) (f : Str) : TS := fun D σ H => tv σ H fun y H1 => ta σ H1 fun x H2 => ∃ a C dx fs, x = .ref a ∧ H2 a = some (.ins C dx fs) ∧ Cls K C ∧ NoAttr K C f ∧ fs.length < 1000 ∧
  D.nx σ (upd H2 a (.ins C dx (putF f y fs)))
section
variable {X : Cx} {o e value : Expr} {f : Str} {pos pos' tpos : Pos} {ta tv : TE}
theorem ps_fld (ha : PE X o ta) (hv : PE X value tv) (hs : swapsWith value (some (.Attribute o f pos')) pos.line X.env = pure false) : PS X (.Assign [.Attribute o f pos'] value pos) (sFld X.K ta tv f) := by
  intro pins s σ H D I h
  refine plainObj_wpAny_Assign_Attribute (thn (hv pins s σ H _ I h) fun u s1 ⟨y, H1, I1, ry, q⟩ => thn (ha pins s1 σ H1 _ I1 q) fun ov s2 ⟨x, H2, I2, rx, a, C, dx, fs, ex, ea, c, n, l, q2⟩ => ?_) hs
  subst ex
  obtain rfl : ov = Value.ref a := rx
  exact setattr_ok I2 ea c n l ry fun s3 I3 => ⟨σ, _, I3, q2⟩
end
section
variable {X : Cx} {pins : List (Addr × Obj)} {σ : St} {H : Hp} {s : Shared} {A : Around} {E : Value → Shared → Prop} {Q : Value → Shared → Prop} {c : Value} {b : Bool}
inductive TyOf (K : PySem.W.Frag) (H : Hp) : V → Value → Prop where
  | non : TyOf K H .non (.type "NoneType")
  | bl (x : Bool) : TyOf K H (.bl x) (.type "bool")
  | int (i : Int) : TyOf K H (.int i) (.type "int")
  | str (x : Str) : TyOf K H (.str x) (.type "str")
  | flt (x : UInt64) : TyOf K H (.flt x) (.type "float")
  | lst {a : Addr} {xs : List V} (e : H a = some (.lst xs)) : TyOf K H (.ref a) (.type "list")
  | frz {a : Addr} {o : Obj} {xs : List V} (e : H a = some (.frz o (.lst xs))) : TyOf K H (.ref a) (.type "list")
  | tup {a : Addr} {xs : List V} (e : H a = some (.tup xs)) : TyOf K H (.ref a) (.type "tuple")
  | dK {a : Addr} {kvs : List (Key × V)} (e : H a = some (.dK kvs)) : TyOf K H (.ref a) (.type "dict")
  | dT {a : Addr} {kvs : List (List Key × V)} (e : H a = some (.dT kvs)) : TyOf K H (.ref a) (.type "dict")
  | ins {a C dx : Addr} {fs : List (Str × V)} (e : H a = some (.ins C dx fs)) (cl : Cls K C) (ha : PySem.W.findIn K (.ref C) "__class__" = some (some (.builtin "object.__class__")))
      (hn : PySem.W.specialIn K (.builtin "object.__class__") "__get__" = some (some (.builtin "getset_descriptor.__get__"))) (htk : PySem.W.takesIn K (.builtin "object.__class__") = some true)
      (hm : PySem.W.mroIn K C (.type "object") = some true) : TyOf K H (.ref a) (.ref C)
end
end L2
namespace L2
open PySem PySem.Spec PyProof.Rows
structure Room (k : Nat) (A : Around) : Prop where
  hd : A.handled = none
  dp : A.depth + 3 * k + 5 < recursionLimit
  un : A.units + 16 * k + 200 < cLine
theorem Room.mono {j k : Nat} {A : Around} (r : Room k A) (h : j ≤ k) : Room j A := ⟨r.hd, by have := r.dp; omega, by have := r.un; omega⟩
theorem Room.deeper {k : Nat} {A : Around} (r : Room (k + 1) A) (env : Env) : Room k (A.deeper env) :=
  ⟨r.hd, by have := r.dp; show A.depth + 1 + 3 * k + 5 < _; omega, by have := r.un; show A.units + 3 + 16 * k + 200 < _; omega⟩
theorem Room.in1 {k : Nat} {A : Around} (r : Room (k + 1) A) : Room k A.in1 :=
  ⟨r.hd, by have := r.dp; show A.depth + 3 * k + 5 < _; omega, by have := r.un; show A.units + 1 + 16 * k + 200 < _; omega⟩
theorem make_depth {A : Around} {C : Addr} {us : List Value} {kw : List (Str × Value)} : (A.under (.builtin "type.__call__" ⟨.ref C :: us, kw⟩)).depth = A.depth + 1 := by
  first | rfl | simp [Around.under, Code.weight, Code.isCreation, Code.isGuard, Code.isCaller, Code.frames, Code.isFrame, guardIds]
theorem make_units {A : Around} {C : Addr} {us : List Value} {kw : List (Str × Value)} : (A.under (.builtin "type.__call__" ⟨.ref C :: us, kw⟩)).units = A.units + 1 := by
  first | rfl | simp [Around.under, Code.cUnits, Code.frames, Code.isFrame]
theorem Room.make {k : Nat} {A : Around} (r : Room (k + 1) A) (C : Addr) (us : List Value) (kw : List (Str × Value)) : Room k (A.under (.builtin "type.__call__" ⟨.ref C :: us, kw⟩)) :=
  ⟨r.hd, by have := r.dp; rw [make_depth]; omega, by have := r.un; rw [make_units]; omega⟩
theorem Room.depth {k : Nat} {A : Around} (r : Room k A) : A.depth < recursionLimit := by have := r.dp; omega
theorem Room.units {k : Nat} {A : Around} (r : Room k A) : A.units + 64 < cLine := by have := r.un; omega
def tNil : TA := fun _ H Q => Q [] H
def tCons (ta : TE) (tr : TA) : TA := fun σ H Q => ta σ H fun x H1 => tr σ H1 fun xs H2 => Q (x :: xs) H2
section
variable {X : Cx} {e : Expr} {es : List Expr} {te : TE} {t : TA} {pos : Pos}
theorem pa_nil : PA X [] tNil := fun _ _ _ _ H Q I h => Calls.spliced_nil ⟨[], H, I, .nil, h⟩
theorem pa_cons (ha : PE X e te) (hr : PA X es t) (hs : starEach (e :: es) X.env = (false, eval e X.env) :: starEach es X.env := by rfl) : PA X (e :: es) (tCons te t) := by
  intro pos pins s σ H Q I h
  rw [hs]
  show wpAny _ _ (spliced ((false, eval e X.env) :: backTo pos (starEach es X.env))) _ _ s
  refine Calls.spliced_cons (thn (ha pins s σ H _ I h) fun u s1 ⟨x, H1, I1, r1, q1⟩ => ?_)
  exact thn (hr pos pins s1 σ H1 _ I1 q1) fun us s2 ⟨xs, H2, I2, r2, q2⟩ => ⟨x :: xs, H2, I2, .cons r1 r2, q2⟩
def tTup (t : TA) : TE := fun σ H Q => t σ H fun xs H1 => xs.length ≤ sizeLine ∧ ∀ p, H1 p = none → Q (.ref p) (upd H1 p (.tup xs))
def tLst (t : TA) : TE := fun σ H Q => t σ H fun xs H1 => xs.length ≤ sizeLine ∧ ∀ p, H1 p = none → Q (.ref p) (upd H1 p (.lst xs))
theorem pe_tup {x1} (h : PA X es t) : PE X (.Tuple es x1 pos) (tTup t) := by
  intro pins s σ H Q I hq
  refine wpAny_Tuple_spliced (thn (h pos pins s σ H _ I hq) fun us s1 ⟨xs, H1, I1, r, z, q⟩ => ⟨by rw [← r.length]; exact z, ?_⟩)
  have hf : H1 s1.heap.objs.size = none := I1.hok.fresh (Nat.le_refl _)
  refine ⟨.ref s1.heap.objs.size, upd H1 s1.heap.objs.size (.tup xs), I1.laid (t' := s1.toks) (fun b u e => Heap.get?_push_of_some _ e) (Nat.le_refl _) ?_, rfl, q _ hf⟩
  exact ⟨z, us, r, ⟨_, Heap.get?_push_size _ rfl, rfl, _, rfl⟩⟩
theorem pe_lst (h : PA X es t) : PE X (.List es pos) (tLst t) := by
  intro pins s σ H Q I hq
  refine wpAny_List_spliced (thn (h pos pins s σ H _ I hq) fun us s1 ⟨xs, H1, I1, r, z, q⟩ => ⟨by rw [← r.length]; exact z, ?_⟩)
  have hf : H1 s1.heap.objs.size = none := I1.hok.fresh (Nat.le_refl _)
  refine ⟨.ref s1.heap.objs.size, upd H1 s1.heap.objs.size (.lst xs), I1.laid (t' := s1.toks) (fun b u e => Heap.get?_push_of_some _ e) (Nat.le_refl _) ?_, rfl, q _ hf⟩
  exact ⟨z, us, 0, r, Heap.get?_push_size _ rfl⟩
end
abbrev Sp := List V → Hp → VK → XK → Prop
abbrev CXT := List Env → Hp → Shared → XK → Value → Shared → Prop
structure Env0 (P : Program) (w : World) (K : PySem.W.Frag) (mg : Str → Option Value) (base : Heap) (A : Around) (outer : List Env) (s : Shared) (H : Hp) : Prop where
  frames : A.frames = some outer
  mod : Mod K mg base
  bs : ∀ b o, base.get? b = some o → s.heap.get? b = some o ∧ H b = none
  bsz : base.objs.size ≤ s.heap.objs.size
  funs : s.heap.FunFrames base outer
  frf : ∀ b ∈ frs outer, H b = none
  hok : HOk P w H s.heap
  bare : AllBare s.gens
def CE (outer : List Env) (P : Program) (w : World) (H : Hp) (s : Shared) (Q : VK) (u : Value) (s' : Shared) : Prop :=
  ∃ v H', s'.os = s.os ∧ AllBare s'.gens ∧ Un (frs outer) [] H H' s.heap s'.heap ∧ HOk P w H' s'.heap ∧ RelV v u ∧ Q v H'
def CR (CX : CXT) (outer : List Env) (P : Program) (w : World) (H : Hp) (s : Shared) (Q : VK) (E : XK) (r : Result) (s' : Shared) : Prop :=
  match r with
  | .ok (.ret u) => CE outer P w H s Q u s'
  | .ok _ => False
  | .error e => CX outer H s E e s'
structure FnOk (P : Program) (w : World) (K : PySem.W.Frag) (mg : Str → Option Value) (base : Heap) (CX : CXT) (k : Nat) (f : Addr) (fd : FuncData) (ps : List Str) (sp : Sp) : Prop where
  len : ∀ vs H Q E, sp vs H Q E → vs.length = ps.length
  run : ∀ (A : Around) (outer : List Env) (s : Shared) (H : Hp) (args : Args) (us : List Value) (vs : List V) (Q : VK) (E : XK), Room k A → Env0 P w K mg base A outer s H → BindsTo s fd args (ps.zip us) → Vals vs us → sp vs H Q E →
    codeAny (model P w) A (.call (.ref f) args) (CR CX outer P w H s Q E) s
theorem FnOk.mono {P : Program} {w : World} {K : PySem.W.Frag} {mg : Str → Option Value} {base : Heap} {CX : CXT} {j k : Nat} {f : Addr} {fd : FuncData} {ps : List Str} {sp : Sp} (F : FnOk P w K mg base CX j f fd ps sp) (h : j ≤ k) :
    FnOk P w K mg base CX k f fd ps sp := ⟨F.len, fun A outer s H args us vs Q E hr => F.run A outer s H args us vs Q E (hr.mono h)⟩
theorem FnOk.imp {P : Program} {w : World} {K : PySem.W.Frag} {mg : Str → Option Value} {base : Heap} {CX : CXT} {k : Nat} {f : Addr} {fd : FuncData} {ps : List Str} {sp sp' : Sp} (F : FnOk P w K mg base CX k f fd ps sp)
    (h : ∀ vs H Q E, sp' vs H Q E → sp vs H Q E) : FnOk P w K mg base CX k f fd ps sp' :=
  ⟨fun vs H Q E q => F.len vs H Q E (h _ _ _ _ q), fun A outer s H args us vs Q E hr he hb hv hs => F.run A outer s H args us vs Q E hr he hb hv (h _ _ _ _ hs)⟩
theorem Env0.make {P : Program} {w : World} {K : PySem.W.Frag} {mg : Str → Option Value} {base : Heap} {A : Around} {outer : List Env} {s : Shared} {H : Hp} (e : Env0 P w K mg base A outer s H) (C : Addr) (us : List Value) (kw : List (Str × Value)) :
    Env0 P w K mg base (A.under (.builtin "type.__call__" ⟨.ref C :: us, kw⟩)) outer s H := ⟨by first | exact e.frames | (simpa [Around.under, Code.envs, Code.isFrame, pushEnvs] using e.frames), e.mod, e.bs, e.bsz, e.funs, e.frf, e.hok, e.bare⟩
theorem Env0.in1 {P : Program} {w : World} {K : PySem.W.Frag} {mg : Str → Option Value} {base : Heap} {A : Around} {outer : List Env} {s : Shared} {H : Hp} (e : Env0 P w K mg base A outer s H) :
    Env0 P w K mg base A.in1 outer s H := ⟨e.frames, e.mod, e.bs, e.bsz, e.funs, e.frf, e.hok, e.bare⟩
section
variable {X : Cx} {pins : List (Addr × Obj)} {σ : St} {H : Hp} {s s' : Shared}
theorem Inv.env0 (I : Inv X pins σ H s) : Env0 X.prog X.w X.K X.mg X.base X.A X.stack s H :=
  ⟨I.ok.frames, I.ok.mod, I.bs, Nat.le_trans I.ok.bsz I.sz, I.stack, I.stkFree, I.hok, I.bare⟩
theorem Inv.after {Q : VK} {u : Value} (I : Inv X pins σ H s) (h : CE X.stack X.prog X.w H s Q u s') : EP X pins σ Q u s' := by
  obtain ⟨v, H', os, bare, un, hok, r, q⟩ := h
  obtain ⟨hh, g, d, t, os'⟩ := s'
  obtain rfl : os' = s.os := os
  exact ⟨v, H', I.call (h' := hh) (g' := g) (d' := d) (t' := t) (ch := []) un hok bare (fun b z => absurd z (by simp)), r, q⟩
end
def tCall (sp : Sp) (dvs : List V) (E : XK) (t : TA) : TE := fun σ H Q => t σ H fun vs H1 => sp (vs ++ dvs) H1 Q E
def tMake (C : Addr) (sp : Sp) (dvs : List V) (E : XK) (t : TA) : TE := fun σ H Q => t σ H fun vs H1 => ∀ x dx, H1 x = none → H1 dx = none → dx ≠ x →
  sp (.ref x :: (vs ++ dvs)) (upd (upd H1 dx (.own x)) x (.ins C dx [])) (fun v H2 => v = .non ∧ Q (.ref x) H2) E
def Binds (K : PySem.W.Frag) (fd : FuncData) (ps : List Str) (ds : List Value) : Prop :=
  ∀ (s : Shared) (us : List Value), K.In s.heap → (us ++ ds).length = ps.length → BindsTo s fd ⟨us, []⟩ (ps.zip (us ++ ds))
theorem Binds.all {K : PySem.W.Frag} {fd : FuncData} {ps : List Str} (h : ∀ us : List Value, us.length = ps.length → bindArgs fd ⟨us, []⟩ = pure (ps.zip us)) : Binds K fd ps [] := fun s us _ hl => by
  rw [List.append_nil] at hl ⊢
  exact .of_eq (h us hl)
def Passes (CX : CXT) (X : Cx) (E : XK) : Prop := ∀ (pins : List (Addr × Obj)) (σ : St) (H : Hp) (s : Shared) (e : Value) (s' : Shared), Inv X pins σ H s → CX X.stack H s E e s' → X.xe e s'
section
variable {X : Cx} {CX : CXT} {k : Nat} {f C : Addr} {fd : FuncData} {ps : List Str} {sp : Sp} {dvs : List V} {ds : List Value} {E : XK} {x m : Str} {p pos apos : Pos} {e o : Expr} {es : List Expr} {ta : TE} {t : TA}
theorem run_fn {pins : List (Addr × Obj)} {σ : St} {H : Hp} {s : Shared} {Q : VK} {us : List Value} {vs : List V} (F : FnOk X.prog X.w X.K X.mg X.base CX k f fd ps sp) (hr : Room k X.A) (hb : Binds X.K fd ps ds) (hd : Vals dvs ds) (hx : Passes CX X E)
    (I : Inv X pins σ H s) (r : Vals vs us) (h : sp (vs ++ dvs) H Q E) : wpAny (model X.prog X.w) X.A (call (.ref f) us) (EP X pins σ Q) X.xe s := by
  have r2 : Vals (vs ++ dvs) (us ++ ds) := r.append hd
  have hl : (us ++ ds).length = ps.length := by rw [← r2.length]; exact F.len _ _ _ _ h
  refine wpAny_call (codeAny_mono (F.run X.A X.stack s H ⟨us, []⟩ (us ++ ds) (vs ++ dvs) Q E hr I.env0 (hb s us I.kIn hl) r2 h) fun r s' hq => ?_)
  cases r with
  | error e => exact hx pins σ H s e s' I hq
  | ok fl =>
    cases fl with
    | ret u => exact I.after hq
    | next => exact False.elim hq
    | brk => exact False.elim hq
    | cont => exact False.elim hq
theorem pe_call (F : FnOk X.prog X.w X.K X.mg X.base CX k f fd ps sp) (hr : Room k X.A) (hg : Gl X x) (hm : X.mg x = some (.ref f)) (hk : PySem.W.keepIn X.K (.ref f) = true) (hb : Binds X.K fd ps ds) (hd : Vals dvs ds) (hx : Passes CX X E)
    (ha : PA X (e :: es) t) (hdb : (x == ("__debug__" : Str)) = false := by decide) (he : starEach (e :: es) X.env = (false, eval e X.env) :: starEach es X.env := by rfl) (hpl : (backTo pos (starEach es X.env)).any (·.1) = false := by rfl) :
    PE X (.Call (.Name x p) (e :: es) [] pos) (tCall sp dvs E t) := by
  intro pins s σ H Q I h
  refine wpAny_Call_Name_kw (ld_glob I hg hm ?_ hdb)
  refine PySem.W.callWith_K (h₀ := X.base) I.ok.mod.kin hk (thn (ha pos pins s σ H _ I h) fun us s1 ⟨vs, H1, I1, r, q⟩ => ⟨I1.kIn, ?_⟩) he hpl
  exact run_fn F hr hb hd hx I1 r q
structure Mk (K : PySem.W.Frag) (C f : Addr) : Prop where
  makes : PySem.W.makesIn K C = true
  init : PySem.W.findIn K (.ref C) "__init__" = some (some (.ref f))
  fn : PySem.W.isFn K (.ref f) = true
  kp : PySem.W.keepIn K (.ref C) = true
theorem run_make {pins : List (Addr × Obj)} {σ : St} {H : Hp} {s : Shared} {Q : VK} {us : List Value} {vs : List V} (M : Mk X.K C f) (F : FnOk X.prog X.w X.K X.mg X.base CX k f fd ps sp) (hr : Room (k + 1) X.A) (hb : Binds X.K fd ps ds) (hd : Vals dvs ds)
    (hx : Passes CX X E) (I : Inv X pins σ H s) (r : Vals vs us)
    (h : ∀ x dx, H x = none → H dx = none → dx ≠ x → sp (.ref x :: (vs ++ dvs)) (upd (upd H dx (.own x)) x (.ins C dx [])) (fun v H2 => v = .non ∧ Q (.ref x) H2) E) :
    wpAny (model X.prog X.w) X.A (call (.ref C) us) (EP X pins σ Q) X.xe s := by
  have hq := h (s.heap.objs.size + 1) s.heap.objs.size (I.hok.fresh (Nat.le_succ _)) (I.hok.fresh (Nat.le_refl _)) (Nat.ne_of_lt (Nat.lt_succ_self _))
  have I2 := Inv.made (C := C) I
  have r2 : Vals (V.ref (s.heap.objs.size + 1) :: (vs ++ dvs)) (Value.ref (s.heap.objs.size + 1) :: (us ++ ds)) := .cons rfl (r.append hd)
  have hl : (Value.ref (s.heap.objs.size + 1) :: us ++ ds).length = ps.length := by
    have e := r2.length
    rw [F.len _ _ _ _ hq] at e
    exact e.symm
  refine wpAny_call (make_map (f := f) I.kIn M.makes M.init (beq_iff_eq.mp M.fn) (codeAny_mono (F.run _ X.stack _ _ ⟨Value.ref (s.heap.objs.size + 1) :: us, []⟩ (Value.ref (s.heap.objs.size + 1) :: (us ++ ds)) _ _ E (hr.make C us [])
    (I2.env0.make C us []) (hb _ (Value.ref (s.heap.objs.size + 1) :: us) I2.kIn hl) r2 hq) fun r s' hq' => ?_))
  cases r with
  | error e => exact hx pins σ _ _ e s' I2 hq'
  | ok fl =>
    cases fl with
    | ret u =>
      obtain ⟨v, H', I3, rv, ev, q3⟩ := I2.after hq'
      subst ev
      exact ⟨rv, ⟨V.ref (s.heap.objs.size + 1), H', I3, rfl, q3⟩⟩
    | next => exact False.elim hq'
    | brk => exact False.elim hq'
    | cont => exact False.elim hq'
theorem pe_make (M : Mk X.K C f) (F : FnOk X.prog X.w X.K X.mg X.base CX k f fd ps sp) (hr : Room (k + 1) X.A) (hg : Gl X x) (hm : X.mg x = some (.ref C)) (hb : Binds X.K fd ps ds) (hd : Vals dvs ds) (hx : Passes CX X E)
    (ha : PA X (e :: es) t) (hdb : (x == ("__debug__" : Str)) = false := by decide) (he : starEach (e :: es) X.env = (false, eval e X.env) :: starEach es X.env := by rfl) (hpl : (backTo pos (starEach es X.env)).any (·.1) = false := by rfl) :
    PE X (.Call (.Name x p) (e :: es) [] pos) (tMake C sp dvs E t) := by
  intro pins s σ H Q I h
  refine wpAny_Call_Name_kw (ld_glob I hg hm ?_ hdb)
  refine PySem.W.callWith_K (h₀ := X.base) I.ok.mod.kin M.kp (thn (ha pos pins s σ H _ I h) fun us s1 ⟨vs, H1, I1, r, q⟩ => ⟨I1.kIn, ?_⟩) he hpl
  exact run_make M F hr hb hd hx I1 r q
theorem pe_make0 (M : Mk X.K C f) (F : FnOk X.prog X.w X.K X.mg X.base CX k f fd ps sp) (hr : Room (k + 1) X.A) (hg : Gl X x) (hm : X.mg x = some (.ref C)) (hb : Binds X.K fd ps ds) (hd : Vals dvs ds) (hx : Passes CX X E)
    (hdb : (x == ("__debug__" : Str)) = false := by decide) : PE X (.Call (.Name x p) [] [] pos) (tMake C sp dvs E tNil) := by
  intro pins s σ H Q I h
  refine wpAny_Call_Name_kw (ld_glob I hg hm ?_ hdb)
  exact PySem.W.callWith_K0 I.kIn M.kp (run_make (us := []) M F hr hb hd hx I .nil h)
end
section
variable {X : Cx} {CX : CXT} {k : Nat} {f C : Addr} {fd : FuncData} {ps ks : List Str} {sp : Sp} {E : XK} {x m : Str} {p pos apos kpos : Pos} {e o : Expr} {es : List Expr} {kws : List Keyword} {te ta : TE} {t tk : TA} {nm : Option Str}
structure KBinds (K : PySem.W.Frag) (fd : FuncData) (ps ks : List Str) (g : List Value → List Value → List Value) (gV : List V → List V → List V) : Prop where
  to : ∀ (s : Shared) (us ws : List Value), K.In s.heap → (g us ws).length = ps.length → BindsTo s fd ⟨us, ks.zip ws⟩ (ps.zip (g us ws))
  rel : ∀ {vs : List V} {us : List Value} {zs : List V} {ws : List Value}, Vals vs us → Vals zs ws → Vals (gV vs zs) (g us ws)
variable {g : List Value → List Value → List Value} {gV : List V → List V → List V}
end
structure FnScope (N P : List Str) (sc : Scope) : Prop where
  kind : sc.kind = .function
  co : sc.isCoroutine = false
  gen : sc.isGenerator = false
  nd : N.Nodup
  pre : N.take P.length = P
  par : ∀ x ∈ P, sc.names.lookup x = some .local ∨ sc.names.lookup x = some .cell
  nofree : ∀ y ∈ sc.names, y.2 ≠ .free
theorem bindL_out {kindOf : Str → Option NameKind} {x : Str} : ∀ {binds : List (Str × Value)} {m : Str → Option Value}, (∀ v, (x, v) ∉ binds) → bindL kindOf binds m x = m x
  | [], _, _ => rfl
  | (n, v) :: r, m, h => by
    unfold bindL
    rw [bindL_out fun w hw => h w (List.mem_cons_of_mem _ hw)]
    split
    · have : x ≠ n := by rintro rfl; exact h v List.mem_cons_self
      simp [this]
    · rfl
theorem bindC_out {kindOf : Str → Option NameKind} {x : Str} : ∀ {binds : List (Str × Value)} {m : Str → Option Value}, (∀ v, (x, v) ∉ binds) → bindC kindOf binds m x = m x
  | [], _, _ => rfl
  | (n, v) :: r, m, h => by
    unfold bindC
    rw [bindC_out fun w hw => h w (List.mem_cons_of_mem _ hw)]
    split
    · rfl
    · have : x ≠ n := by rintro rfl; exact h v List.mem_cons_self
      simp [this]
theorem bindL_get {kindOf : Str → Option NameKind} {x : Str} {v : Value} : ∀ {P : List Str} {vs : List Value} {i : Nat} {m : Str → Option Value}, P.Nodup → P[i]? = some x → vs[i]? = some v → kindOf x = some .local →
    bindL kindOf (P.zip vs) m x = some v
  | [], _, _, _, _, h, _, _ => by simp at h
  | _ :: _, [], _, _, _, _, h, _ => by simp at h
  | p :: P, w :: vs, 0, m, nd, h1, h2, hk => by
    simp at h1 h2; subst h1; subst h2
    show bindL kindOf ((p, w) :: P.zip vs) m p = _
    unfold bindL
    rw [bindL_out fun v hv => (List.nodup_cons.mp nd).1 (List.of_mem_zip hv).1, if_pos hk]
    simp
  | p :: P, w :: vs, i + 1, m, nd, h1, h2, hk => by
    show bindL kindOf ((p, w) :: P.zip vs) m x = _
    unfold bindL
    exact bindL_get (i := i) (List.nodup_cons.mp nd).2 (by simpa using h1) (by simpa using h2) hk
theorem bindC_get {kindOf : Str → Option NameKind} {x : Str} {v : Value} : ∀ {P : List Str} {vs : List Value} {i : Nat} {m : Str → Option Value}, P.Nodup → P[i]? = some x → vs[i]? = some v → kindOf x ≠ some .local →
    bindC kindOf (P.zip vs) m x = some v
  | [], _, _, _, _, h, _, _ => by simp at h
  | _ :: _, [], _, _, _, _, h, _ => by simp at h
  | p :: P, w :: vs, 0, m, nd, h1, h2, hk => by
    simp at h1 h2; subst h1; subst h2
    show bindC kindOf ((p, w) :: P.zip vs) m p = _
    unfold bindC
    rw [bindC_out fun v hv => (List.nodup_cons.mp nd).1 (List.of_mem_zip hv).1, if_neg hk]
    simp
  | p :: P, w :: vs, i + 1, m, nd, h1, h2, hk => by
    show bindC kindOf ((p, w) :: P.zip vs) m x = _
    unfold bindC
    exact bindC_get (i := i) (List.nodup_cons.mp nd).2 (by simpa using h1) (by simpa using h2) hk
def start (N : List Str) (vs : List V) : St := vs.map some ++ List.replicate (N.length - vs.length) none
def cxOf (CX : CXT) (P : Program) (w : World) (K : PySem.W.Frag) (mg : Str → Option Value) (base : Heap) (N : List Str) (qual : Str) (scope : Scope) (f : Addr) (cd : Value) (A : Around) (outer : List Env) (s : Shared) (H : Hp) (E : XK) : Cx where
  prog := P
  w := w
  K := K
  mg := mg
  base := base
  A := A.deeper (envOfC qual scope s.heap.objs.size f cd)
  N := N
  s₀ := s
  H₀ := H
  env := envOfC qual scope s.heap.objs.size f cd
  outer := outer
  stack := envOfC qual scope s.heap.objs.size f cd :: outer
  ex := []
  calm := true
  fn := fun _ => true
  pn := []
  xe := fun e s' => wpAny (model P w) (A.deeper (envOfC qual scope s.heap.objs.size f cd)) (leaving (envOfC qual scope s.heap.objs.size f cd) e) (fun _ s'' => CX outer H s E e s'') (fun e' s'' => CX outer H s E e' s'') s'
theorem cell_has {sc : Scope} {n : Nat} {x : Str} (h : sc.names.lookup x = some .cell) : ∃ c, (cellsFrom n sc.names []).lookup x = some c := by
  have q := PySem.W.cellsFrom_some sc.names n [] (.inl h)
  exact Option.isSome_iff_exists.mp q
theorem inv_start {CX : CXT} {P : Program} {w : World} {K : PySem.W.Frag} {mg : Str → Option Value} {base : Heap} {N ps : List Str} {qual : Str} {scope : Scope} {f : Addr} {cd : Value} {A : Around} {outer : List Env} {s s1 : Shared} {H : Hp} {E : XK} {us : List Value} {vs : List V}
    (S : FnScope N ps scope) (hd : A.handled = none) (e0 : Env0 P w K mg base A outer s H) (hl : vs.length = ps.length) (r : Vals vs us)
    (x : InCallC s s.heap.objs.size (bindL (envOfC qual scope s.heap.objs.size f cd).kindOf (ps.zip us) fun _ => none) (cellsFrom (s.heap.objs.size + 1) scope.names []) (bindC (envOfC qual scope s.heap.objs.size f cd).kindOf (ps.zip us) fun _ => none) s1) :
    Inv (cxOf CX P w K mg base N qual scope f cd A outer s H E) [] (start N vs) H s1 := by
  have hpl : ps.length ≤ N.length := by have := congrArg List.length S.pre; rw [List.length_take] at this; omega
  obtain ⟨h1, tk, rfl, hk⟩ := x.done
  have noA : ∀ b : Addr, b ∉ (cxOf CX P w K mg base N qual scope f cd A outer s H E).ex := fun b z => absurd (show b ∈ ([] : List Addr) from z) (by simp)
  refine ⟨⟨e0.mod, S.kind, rfl, rfl, Nat.le_refl _, fun y z c h1 h2 => ?_, fun y hy => ?_, fun y c _ h => ?_, fun _ => hd, Around.frames_deeper e0.frames, .inr ⟨rfl, rfl⟩, fun b z => absurd z (noA b), e0.bs, e0.bsz, fun b _ _ => noA b, fun b z => absurd z (noA b), e0.funs, e0.frf⟩,
    rfl, e0.bare, Un.kept hk, ⟨_, x.toInCall.ns, fun i y v h1 h2 h3 => ?_⟩, fun y c h => ⟨_, x.cell y c h⟩, e0.hok.fresh (Nat.le_refl _), fun y c h => ?_, fun p hp => absurd (show p ∈ ([] : List (Addr × Obj)) from hp) (by simp), e0.hok.kept hk, ?_⟩
  · exact name_of_addr x.apart (PySem.mem_of_lookup h1) (PySem.mem_of_lookup h2)
  · have hy : scope.names.lookup y = some .cell ∨ scope.names.lookup y = some .free := hy
    rcases hy with hy | hy
    · exact cell_has hy
    · exact absurd rfl (S.nofree _ (PySem.mem_of_lookup hy))
  · exact Nat.le_of_lt (x.above y c (PySem.mem_of_lookup h))
  · have hi : i < vs.length := by
      unfold start at h2
      by_cases hi : i < vs.length
      · exact hi
      · rw [List.getElem?_append_right (by simpa using hi)] at h2
        rw [List.getElem?_replicate] at h2
        split at h2 <;> cases h2
    have ha : vs[i]? = some v := by
      unfold start at h2
      rw [List.getElem?_append_left (by simpa using hi), List.getElem?_map] at h2
      cases e : vs[i]? with
      | none => rw [e] at h2; cases h2
      | some a => rw [e] at h2; cases h2; rfl
    obtain ⟨u, hu, rv⟩ := r.get ha
    have hp : ps[i]? = some y := by
      rw [← S.pre, List.getElem?_take_of_lt (by omega)]; exact h1
    have ndP : ps.Nodup := by rw [← S.pre]; exact S.nd.sublist (List.take_sublist _ _)
    refine ⟨u, rv, ?_⟩
    rcases S.par y (List.mem_of_getElem? hp) with k | k
    · exact .inl ⟨k, bindL_get ndP hp hu k⟩
    · obtain ⟨c, e⟩ := cell_has (n := s.heap.objs.size + 1) k
      refine .inr ⟨.inl k, c, e, ?_⟩
      have q := x.cell y c e
      rw [bindC_get ndP hp hu (by show scope.names.lookup y ≠ _; rw [k]; decide)] at q
      exact q
  · exact e0.hok.fresh (Nat.le_of_lt (x.above y c (PySem.mem_of_lookup h)))
  · unfold start
    show _ = N.length
    rw [List.length_append, List.length_map, List.length_replicate]
    omega
theorem fn_of {CX : CXT} {P : Program} {w : World} {K : PySem.W.Frag} {mg : Str → Option Value} {base : Heap} {k : Nat} {f : Addr} {name qual : Str} {params : Arguments} {body : List Stmt} {scope : Scope} {dV kV doc pm cdv ct oc : Value} {an od : Option Addr}
    {osl : Array (Option Value)} {N ps : List Str} {sp : Sp} (lk : K.lookup f = some ⟨oc, od, .func (PySem.W.fnOf name qual params body scope dV kV doc pm an cdv ct), osl⟩) (hcd : PySem.W.codeIn K cdv qual = true) (S : FnScope N ps scope)
    (len : ∀ vs H Q E, sp vs H Q E → vs.length = ps.length)
    (hbody : ∀ (A : Around) (outer : List Env) (s : Shared) (H : Hp) (vs : List V) (Q : VK) (E : XK), Room k (A.deeper (envOfC qual scope s.heap.objs.size f cdv)) → sp vs H Q E →
      ∃ t, PSs (cxOf CX P w K mg base N qual scope f cdv A outer s H E) body t ∧ t { nx := fun _ H' => Q .non H', rt := Q } (start N vs) H) :
    FnOk P w K mg base CX (k + 1) f (PySem.W.fnOf name qual params body scope dV kV doc pm an cdv ct) ps sp := by
  refine ⟨len, fun A outer s H args us vs Q E hr e0 hb r hsp => ?_⟩
  have hl := len _ _ _ _ hsp
  have KX : K.In s.heap := e0.mod.kin.keeps fun b o e => (e0.bs b o e).1
  have lim : s.heap.NoLimit := e0.mod.nolimit.keeps fun b o e => (e0.bs b o e).1
  have hkind : ∀ y ∈ ps.zip us, scope.names.lookup y.1 = some .local ∨ (scope.names.lookup y.1 = some .cell ∧ ((cellsFrom (s.heap.objs.size + 1) scope.names []).lookup y.1).isSome = true) := fun ⟨n, v⟩ hy => by
    rcases S.par n (List.of_mem_zip hy).1 with q | q
    · exact .inl q
    · exact .inr ⟨q, PySem.W.cellsFrom_some _ _ _ (.inl q)⟩
  refine codeAny_call_function hr.depth (KX _ _ lk) rfl S.co S.gen rfl (PySem.W.codeRec_of KX hcd) (hb _ _ _ _ ?_)
  refine wpAny_newFunctionEnv_cells S.kind hkind fun env he s1 x => ?_
  subst he
  refine ⟨lim.keeps x.toInCall.keep, codeAny_func ?_⟩
  obtain ⟨t, ht, hq⟩ := hbody A outer s H vs Q E (hr.deeper _) hsp
  have I : Inv (cxOf CX P w K mg base N qual scope f cdv A outer s H E) [] (start N vs) H s1 := inv_start S hr.hd e0 hl r x
  refine wpAny_mono (ht [] s1 (start N vs) H _ I hq) (fun fl s' hs => ?_) fun e s' hs => hs
  have fin : ∀ {σ' : St} {H' : Hp} {v : V} {u : Value}, Inv (cxOf CX P w K mg base N qual scope f cdv A outer s H E) [] σ' H' s' → RelV v u → Q v H' → CE outer P w H s Q u s' :=
    fun {σ' H' v u} J rv q => ⟨v, H', J.os, J.bare, J.base, J.hok, rv, q⟩
  cases fl with
  | ret u =>
    obtain ⟨v, σ', H', J, rv, q⟩ := hs
    exact fin J rv q
  | next =>
    obtain ⟨σ', H', J, q⟩ := hs
    exact fin (v := V.non) (u := Value.none) J rfl q
  | brk =>
    obtain ⟨_, _, _, q⟩ := hs
    exact False.elim q
  | cont =>
    obtain ⟨_, _, _, q⟩ := hs
    exact False.elim q
end L2
namespace L2
open PySem PySem.Spec PyProof.Rows
section
variable {X : Cx} {x : Str} {p pos : Pos} {e : Expr} {es : List Expr} {t : TA} {id T : String} {r : List V → Hp → VK → Prop}
def tCB (r : List V → Hp → VK → Prop) (t : TA) : TE := fun σ H Q => t σ H fun vs H1 => r vs H1 Q
theorem pe_callB (hc : CallR X (.builtin id) r) (hg : Gl X x) (hm : X.mg x = none) (hv : bootBuiltins x = some (.builtin id)) (ha : PA X (e :: es) t) (hn : x ≠ "__name__" := by decide) (hdb : (x == ("__debug__" : Str)) = false := by decide)
    (he : starEach (e :: es) X.env = (false, eval e X.env) :: starEach es X.env := by rfl) (hpl : (backTo pos (starEach es X.env)).any (·.1) = false := by rfl) : PE X (.Call (.Name x p) (e :: es) [] pos) (tCB r t) := by
  intro pins s σ H Q I h
  refine wpAny_Call_Name_kw (ld_blt I hg hm hv ?_ hn hdb)
  exact PyProof.Rows.callWith_builtin1 (thn (ha pos pins s σ H _ I h) fun us s1 ⟨vs, H1, I1, r1, q1⟩ => hc pins s1 σ H1 vs us Q I1 r1 q1) he hpl
theorem pe_callTy (hc : CallR X (.type T) r) (hg : Gl X x) (hm : X.mg x = none) (hv : bootBuiltins x = some (.type T)) (ha : PA X (e :: es) t) (hn : x ≠ "__name__" := by decide) (hdb : (x == ("__debug__" : Str)) = false := by decide)
    (he : starEach (e :: es) X.env = (false, eval e X.env) :: starEach es X.env := by rfl) (hpl : (backTo pos (starEach es X.env)).any (·.1) = false := by rfl) : PE X (.Call (.Name x p) (e :: es) [] pos) (tCB r t) := by
  intro pins s σ H Q I h
  refine wpAny_Call_Name_kw (ld_blt I hg hm hv ?_ hn hdb)
  exact PyProof.Rows.callWith_type1 (thn (ha pos pins s σ H _ I h) fun us s1 ⟨vs, H1, I1, r1, q1⟩ => hc pins s1 σ H1 vs us Q I1 r1 q1) he hpl
end
end L2
namespace HT
open PySem PyProof.Rows
section
open PySem.SeqAt
open PySem.AutoSeq1 (wpAny_loadPart')
open PySem.MeetsSeq PySem.MeetsSeq2 PySem.MeetsSeq3
end
section
variable {prog : Program} {w : World} {A : Around} {E : Value → Shared → Prop} {s : Shared}
theorem cat_tup {t b : Addr} {vs ws : List Value} {Q : Value → Shared → Prop} (ht : IsTup s.heap t vs.toArray) (hb : IsTup s.heap b ws.toArray) (hv : vs ≠ [])
    (h1 : ws = [] → Q (.ref t) s) (h2 : ws ≠ [] → Q (.ref s.heap.objs.size) { s with heap := s.heap.push { cls := .type "tuple", data := .seq (vs ++ ws).toArray } })
    (hsz : vs.length + ws.length ≤ sizeLine) : wpAny (model prog w) A (binaryOp .Add (.ref t) (.ref b)) Q E s := by
  obtain ⟨⟨cls, dd, data, sl⟩, ho, hc, n, hd⟩ := id ht
  obtain ⟨⟨cls2, dd2, data2, sl2⟩, ho2, hc2, n2, hd2⟩ := id hb
  simp only at hc hd hc2 hd2
  subst hc hd hc2 hd2
  have e : vs.toArray ++ ws.toArray = (vs ++ ws).toArray := by simp
  by_cases hw : ws = []
  · exact concat_meets ⟨_, ho, rfl⟩ ⟨_, ho2, rfl⟩ noFill_tuple_add seq_tuple_add PySem.F.slot_tuple_add PySem.F.entry_tuple_add (PySem.F.args_tuple_add_2 _ _)
      (tuple_addW1 t b vs.toArray ws.toArray n n2 dd dd2 sl sl2 (by simpa using hv) (by simp [hw])) ⟨ho, ho2, h1 hw⟩
  · refine concat_meets ⟨_, ho, rfl⟩ ⟨_, ho2, rfl⟩ noFill_tuple_add seq_tuple_add PySem.F.slot_tuple_add PySem.F.entry_tuple_add (PySem.F.args_tuple_add_2 _ _)
      (tuple_addW2 t b vs.toArray ws.toArray n n2 dd dd2 sl sl2 (by simpa using hv) (by simpa using hw) (by rw [List.size_toArray, List.size_toArray]; exact hsz)) ⟨ho, ho2, ?_⟩
    rw [e]
    exact h2 hw
def sIx (n d : Nat) : Option Int → Nat
  | none => d
  | some v => if v < 0 then (v + (n : Int)).toNat else min v.toNat n
theorem sIx_le (n d : Nat) (hd : d ≤ n) (o : Option Int) : sIx n d o ≤ n := by
  cases o with
  | none => exact hd
  | some v =>
    show (if v < 0 then (v + (n : Int)).toNat else min v.toNat n) ≤ n
    by_cases hv : v < 0
    · rw [if_pos hv]; omega
    · rw [if_neg hv]; exact Nat.min_le_right _ _
theorem clip_eq (v : Int) (n d : Nat) : (if v < 0 then max (v + (n : Int)) 0 else min v (n : Int)) = ((sIx n d (some v) : Nat) : Int) := by
  show (if v < 0 then max (v + (n : Int)) 0 else min v (n : Int)) = (((if v < 0 then (v + (n : Int)).toNat else min v.toNat n) : Nat) : Int)
  by_cases hv : v < 0
  · simp only [if_pos hv]; omega
  · simp only [if_neg hv]; omega
theorem adjust_gen (lo hi : Option Int) (n : Nat) : Builtin.Slice.sliceAdjust lo hi 1 (n : Int) = (((sIx n 0 lo : Nat) : Int), ((sIx n n hi : Nat) : Int)) := by
  have h1 : ¬ ((1 : Int) < 0) := by omega
  unfold Builtin.Slice.sliceAdjust
  simp only [h1, if_false]
  refine Prod.ext ?_ ?_
  · cases lo with
    | none => rfl
    | some v => exact clip_eq v n 0
  · cases hi with
    | none => rfl
    | some v => exact clip_eq v n n
theorem places_gen (i j : Nat) : Builtin.Slice.slicePlaces (i : Int) (j : Int) 1 = j - i := by
  unfold Builtin.Slice.slicePlaces
  have h1 : (1 : Int) > 0 := by omega
  simp only [h1, if_true, Int.ediv_one]
  split <;> omega
theorem slicePart_ {v : Value} {o : Option Int} {Q : Option Int → Shared → Prop} (p : IsPart v o) (h : Q o s) : wpAny (model prog w) A (Builtin.Slice.slicePartIndex v) Q E s := by
  cases p with
  | none => exact slicePart_none h
  | int i t => exact slicePart_int h
theorem sliceApplied_gen {sl : Addr} {vl vu : Value} {lo hi : Option Int} {n : Nat} {Q : Int × Int × Nat → Shared → Prop} (hs : s.heap.IsSliceOf sl vl vu .none) (pl : IsPart vl lo) (pu : IsPart vu hi)
    (h : Q (((sIx n 0 lo : Nat) : Int), 1, sIx n n hi - sIx n 0 lo) s) : wpAny (model prog w) A (Builtin.Slice.sliceApplied (.ref sl) (pure (n : Int))) Q E s := by
  obtain ⟨os, hos, hcs, hds⟩ := id hs
  unfold Builtin.Slice.sliceApplied Builtin.Slice.sliceFields
  refine wpAny_bind (wpAny_bind (wpAny_field hos hds (x := vl) rfl (wpAny_bind (wpAny_field hos hds (x := vu) rfl (wpAny_bind (wpAny_field hos hds (x := .none) rfl (wpAny_pure ?_)))))))
  refine wpAny_bind (slicePart_none ?_)
  show wpAny _ _ (if ((1 : Int) == 0) = true then _ else _) _ _ s
  rw [if_neg (by decide)]
  refine wpAny_bind (slicePart_ pl (wpAny_bind (slicePart_ pu (wpAny_bind (wpAny_pure ?_)))))
  show wpAny _ _ (match Builtin.Slice.sliceAdjust lo hi 1 (n : Int) with | (lo, hi) => pure (lo, (1 : Int), Builtin.Slice.slicePlaces lo hi 1)) _ _ s
  rw [adjust_gen lo hi n]
  show wpAny _ _ (pure (((sIx n 0 lo : Nat) : Int), (1 : Int), Builtin.Slice.slicePlaces ((sIx n 0 lo : Nat) : Int) ((sIx n n hi : Nat) : Int) 1)) _ _ s
  rw [places_gen]
  exact wpAny_pure h
theorem pick_gen (xs : Array Value) (i k : Nat) : ((List.range k).filterMap fun (m : Nat) => xs[((i : Int) + (m : Int) * 1).toNat]?).toArray = ((xs.toList.drop i).take k).toArray := by
  have e : (fun (m : Nat) => xs[((i : Int) + (m : Int) * 1).toNat]?) = fun m => xs[i + m]? := by
    funext m
    have : ((i : Int) + (m : Int) * 1).toNat = i + m := by omega
    rw [this]
  rw [e]
  have := pick_run xs i k
  rw [List.filterMap_map] at this
  have e2 : ((fun x => xs[x]?) ∘ fun x => i + x) = fun m => xs[i + m]? := rfl
  rw [e2] at this
  rw [this]
theorem getItem_tuple_cut {t sl : Addr} {items : Array Value} {vl vu : Value} {lo hi : Option Int} {Q : Value → Shared → Prop} (ht : IsTup s.heap t items) (hs : s.heap.IsSliceOf sl vl vu .none) (pl : IsPart vl lo) (pu : IsPart vu hi)
    (hw : ¬ (sIx items.size 0 lo = 0 ∧ sIx items.size items.size hi = items.size))
    (h : Q (.ref s.heap.objs.size) { s with heap := s.heap.push { cls := .type "tuple", data := .seq ((items.toList.drop (sIx items.size 0 lo)).take (sIx items.size items.size hi - sIx items.size 0 lo)).toArray } })
    (hsz : items.size ≤ sizeLine) : wpAny (model prog w) A (getItem (.ref t) (.ref sl)) Q E s := by
  have htake : sizeOk (.seq ((items.toList.drop (sIx items.size 0 lo)).take (sIx items.size items.size hi - sIx items.size 0 lo)).toArray) := by
    show ((items.toList.drop (sIx items.size 0 lo)).take (sIx items.size items.size hi - sIx items.size 0 lo)).toArray.size ≤ sizeLine
    rw [List.size_toArray, List.length_take, List.length_drop, Array.length_toList]
    omega
  have hj : sIx items.size items.size hi ≤ items.size := sIx_le _ _ (Nat.le_refl _) hi
  obtain ⟨os, hos, hcs, hds⟩ := id hs
  have hTs : s.TypeIs (.ref sl) "slice" := ⟨os, hos, hcs⟩
  unfold getItem
  try with_reducible refine wpAny_holding ?_
  first | refine wpAny_bind (wpAny_pure ?_) | skip
  refine wpAny_bind (wpAny_sequenceKey ht.typeIs (by decide) ?_)
  refine wpAny_bind (wpAny_callSpecial?_slot (name := Str.ofString "__getitem__") ht.typeIs PyProof.Rows.slot_tuple_getitem
    (wpAny_call_entry PyProof.Rows.slot_tuple_getitem ht.typeIs entry_tuple_getitem ?_ (args_tuple_getitem _ _)))
  show wpAny _ _ (Builtin.Tuple.tupleItemsOf (.ref t) >>= _) _ _ s
  refine wpAny_bind (tupleItemsOf_ ht ?_)
  refine wpAny_bind (wpAny_typeOf hTs ?_)
  rw [if_pos (by decide)]
  refine wpAny_bind (sliceApplied_gen hs pl pu ?_)
  have hno : ¬ ((((sIx items.size 0 lo : Nat) : Int) == 0 && (1 : Int) == 1 && (sIx items.size items.size hi - sIx items.size 0 lo) == items.size) = true) := by
    intro q
    rw [Bool.and_eq_true, Bool.and_eq_true] at q
    have q1 : ((sIx items.size 0 lo : Nat) : Int) = 0 := eq_of_beq q.1.1
    have q2 : sIx items.size items.size hi - sIx items.size 0 lo = items.size := eq_of_beq q.2
    exact hw ⟨by omega, by omega⟩
  show wpAny _ _ (if (((sIx items.size 0 lo : Nat) : Int) == 0 && (1 : Int) == 1 && (sIx items.size items.size hi - sIx items.size 0 lo) == items.size) = true then _ else _) _ _ s
  rw [if_neg hno, pick_gen]
  first
    | exact wpAny_bind (m := Builtin.Tuple.tupleExact _) (wpAny_newObj_type (wpAny_pure ⟨_, rfl, wpAny_pure h⟩) htake)
    | exact wpAny_bind (m := Builtin.Tuple.tupleExact _) (wpAny_newObj_type (wpAny_bind (wpAny_pure (wpAny_pure ⟨_, rfl, wpAny_pure h⟩))) htake)
    | exact wpAny_bind (wpAny_bind (m := Builtin.Tuple.tupleExact _) (wpAny_newObj_type (wpAny_pure (wpAny_pure ⟨_, rfl, wpAny_pure h⟩)) htake))
    | exact wpAny_bind (wpAny_bind (m := Builtin.Tuple.tupleExact _) (wpAny_newObj_type (wpAny_pure ⟨_, rfl, wpAny_pure h⟩) htake))
end
end HT
namespace L2
open PySem PySem.Spec PyProof.Rows
abbrev TO := St → Hp → (Option Int → Hp → Prop) → Prop
def PO (X : Cx) (e : Option Expr) (t : TO) : Prop :=
  ∀ (pins : List (Addr × Obj)) (s : Shared) (σ : St) (H : Hp) (Q : Option Int → Hp → Prop), Inv X pins σ H s → t σ H Q →
    wpAny (model X.prog X.w) X.A (evalPart e X.env) (fun u s' => ∃ o H', Inv X pins σ H' s' ∧ IsPart u o ∧ Q o H') X.xe s
def tNoPart : TO := fun _ H Q => Q none H
def tPart (t : TE) : TO := fun σ H Q => t σ H fun x H1 => ∃ i, x = .int i ∧ Q (some i) H1
section
variable {X : Cx} {e : Expr} {te : TE} {lo hi : Option Expr} {tl th : TO} {pos p2 : Pos}
theorem po_none : PO X none tNoPart := by
  intro pins s σ H Q I h
  rw [evalPart_none]
  exact wpAny_pure ⟨none, H, I, .none, h⟩
theorem po_some (h : PE X e te) : PO X (some e) (tPart te) := by
  intro pins s σ H Q I hw
  rw [evalPart_some]
  refine thn (h pins s σ H _ I hw) fun u s1 ⟨x, H1, I1, r1, q1⟩ => ?_
  obtain ⟨i, rfl, q⟩ := q1
  obtain ⟨t, rfl⟩ := r1
  exact ⟨some i, H1, I1, .int i t, q⟩
def SlR (X : Cx) (r : V → Option Int → Option Int → Hp → VK → Prop) : Prop :=
  ∀ (pins : List (Addr × Obj)) (s : Shared) (σ : St) (H : Hp) (x : V) (v vl vu : Value) (lo hi : Option Int) (sl : Addr) (Q : VK), Inv X pins σ H s → RelV x v → s.heap.IsSliceOf sl vl vu .none → IsPart vl lo → IsPart vu hi → r x lo hi H Q →
    ∃ T id, typeLookup (.type T) "__getitem__" = pure (some (.builtin id)) ∧ s.TypeIs v T ∧ wpAny (model X.prog X.w) X.A (getItem v (.ref sl)) (EP X pins σ Q) X.xe s
def tSl (r : V → Option Int → Option Int → Hp → VK → Prop) (te : TE) (tl th : TO) : TE := fun σ H Q => te σ H fun x H1 => tl σ H1 fun l H2 => th σ H2 fun u H3 => r x l u H3 Q
theorem pe_slice {r : V → Option Int → Option Int → Hp → VK → Prop} (hr : SlR X r) (he : PE X e te) (hl : PO X lo tl) (hu : PO X hi th) : PE X (.Subscript e (.Slice lo hi none p2) pos) (tSl r te tl th) := by
  intro pins s σ H Q I h
  refine Subscript_ (thn (he pins s σ H _ I h) fun v s1 ⟨x, H1, I1, r1, q1⟩ => ?_)
  refine wpAny_Slice (thn (hl pins s1 σ H1 _ I1 q1) fun vl s2 ⟨l, H2, I2, pl, q2⟩ => thn (hu pins s2 σ H2 _ I2 q2) fun vu s3 ⟨u, H3, I3, pu, q3⟩ => ?_)
  rw [evalPart_none]
  refine wpAny_pure ?_
  have I4 : Inv X pins σ H3 { s3 with heap := s3.heap.push { cls := .type "slice", data := .fields #[vl, vu, .none] } } := I3.kept (t' := s3.toks) fun b ob q => Heap.get?_push_of_some _ q
  obtain ⟨T, id, hT, ht, hg⟩ := hr pins { s3 with heap := s3.heap.push { cls := .type "slice", data := .fields #[vl, vu, .none] } } σ H3 x v vl vu l u s3.heap.objs.size Q I4 r1 (Heap.IsSliceOf.new ..) pl pu q3
  show wpAny (model X.prog X.w) X.A (subscriptTail e (.Slice lo hi none p2) v (.ref s3.heap.objs.size)) (EP X pins σ Q) X.xe { s3 with heap := s3.heap.push { cls := .type "slice", data := .fields #[vl, vu, .none] } }
  exact tail_any (ops := [.ref s3.heap.objs.size, v]) ht hT hg (by with_unfolding_all rfl)
def cutV (xs : List V) (lo hi : Option Int) : List V := (xs.drop (HT.sIx xs.length 0 lo)).take (HT.sIx xs.length xs.length hi - HT.sIx xs.length 0 lo)
theorem cutV_length (xs : List V) (lo hi : Option Int) : (cutV xs lo hi).length ≤ xs.length := by
  unfold cutV
  rw [List.length_take, List.length_drop]
  omega
def rSlT (K : PySem.W.Frag) : V → Option Int → Option Int → Hp → VK → Prop := fun x lo hi H Q => ∃ a xs, x = .ref a ∧ SqT K H a xs ∧
  ¬ (HT.sIx xs.length 0 lo = 0 ∧ HT.sIx xs.length xs.length hi = xs.length) ∧ ∀ p, H p = none → Q (.ref p) (upd H p (.tup (cutV xs lo hi)))
theorem sl_tup : SlR X (rSlT X.K) := by
  intro pins s σ H x v vl vu lo hi sl Q I rx hs pl pu h
  obtain ⟨a, xs, rfl, hx, hw, q⟩ := h
  cases rx
  obtain ⟨its, r, ht, hz⟩ := I.tuple hx
  have hlen : its.toArray.size = xs.length := by rw [List.size_toArray]; exact r.length.symm
  refine ⟨"tuple", _, PyProof.Rows.slot_tuple_getitem.lookup, ht.typeIs, ?_⟩
  refine HT.getItem_tuple_cut ht hs pl pu (by rw [hlen]; exact hw) ?_ (by rw [hlen]; exact hz)
  rw [hlen]
  refine ⟨.ref s.heap.objs.size, _, I.laid (t' := s.toks) (o := .tup (cutV xs lo hi)) (fun b ob q => Heap.get?_push_of_some _ q) (Nat.le_refl _) ?_, rfl, q _ (I.hok.fresh (Nat.le_refl _))⟩
  exact ⟨Nat.le_trans (cutV_length xs lo hi) hz, _, (r.drop (HT.sIx xs.length 0 lo)).take (HT.sIx xs.length xs.length hi - HT.sIx xs.length 0 lo), IsTup.new _ _⟩
def rCatT (K : PySem.W.Frag) : R2 := fun x y H Q => ∃ a b xs ys, x = .ref a ∧ y = .ref b ∧ SqT K H a xs ∧ SqT K H b ys ∧ xs ≠ [] ∧ xs.length + ys.length ≤ sizeLine ∧
  (ys = [] → Q (.ref a) H) ∧ (ys ≠ [] → ∀ p, H p = none → Q (.ref p) (upd H p (.tup (xs ++ ys))))
theorem Vals.nil_iff {xs : List V} {us : List Value} (r : Vals xs us) : us = [] ↔ xs = [] := by
  cases r with
  | nil => simp
  | cons _ _ => simp
theorem op_catT : OpR X (binaryOp .Add) (rCatT X.K) := by
  intro pins s σ H x y v u Q I rx ry h
  obtain ⟨a, b, xs, ys, rfl, rfl, ha, hb, hx, hz, q1, q2⟩ := h
  cases rx
  cases ry
  obtain ⟨its, r1, p1, _⟩ := I.tuple ha
  obtain ⟨its2, r2, p2, _⟩ := I.tuple hb
  refine HT.cat_tup p1 p2 (fun z => hx (r1.nil_iff.mp z)) (fun z => ⟨.ref a, H, I, rfl, q1 (r2.nil_iff.mp z)⟩) (fun z => ?_) (by rw [← r1.length, ← r2.length]; exact hz)
  refine ⟨.ref s.heap.objs.size, _, I.laid (t' := s.toks) (o := .tup (xs ++ ys)) (fun b ob q => Heap.get?_push_of_some _ q) (Nat.le_refl _) ?_, rfl, q2 (fun w => z (r2.nil_iff.mpr w)) _ (I.hok.fresh (Nat.le_refl _))⟩
  exact ⟨by rw [List.length_append]; exact hz, _, r1.append r2, IsTup.new _ _⟩
end
end L2
namespace L2
open PySem PySem.Spec PyProof.Rows
def ixN (n : Nat) (i : Int) : Option Nat := if 0 ≤ i then (if i < n then some i.toNat else none) else if -(n : Int) ≤ i then some (i + n).toNat else none
def atI {α : Type} (xs : List α) (i : Int) : Option α := (ixN xs.length i).bind fun j => xs[j]?
theorem ixN_seq {n : Nat} {i : Int} {j : Nat} (h : ixN n i = some j) : seqIndex? i n = some j ∧ j < n ∧ -(n : Int) ≤ i ∧ i < n := by
  unfold ixN at h
  by_cases h0 : 0 ≤ i
  · rw [if_pos h0] at h
    by_cases h1 : i < n
    · rw [if_pos h1] at h
      have e : i.toNat = j := Option.some.inj h
      exact ⟨by rw [seqIndex_of h0 h1, e], by omega, by omega, h1⟩
    · rw [if_neg h1] at h; cases h
  · rw [if_neg h0] at h
    by_cases h1 : -(n : Int) ≤ i
    · rw [if_pos h1] at h
      have e : (i + n).toNat = j := Option.some.inj h
      exact ⟨by rw [seqIndex_neg (by omega) h1, e], by omega, h1, by omega⟩
    · rw [if_neg h1] at h; cases h
theorem atI_get {α : Type} {xs : List α} {i : Int} {v : α} (h : atI xs i = some v) : ∃ j, seqIndex? i xs.length = some j ∧ xs[j]? = some v ∧ j < xs.length ∧ -(xs.length : Int) ≤ i ∧ i < xs.length := by
  unfold atI at h
  cases e : ixN xs.length i with
  | none => rw [e] at h; cases h
  | some j =>
    rw [e] at h
    obtain ⟨h1, h2, h3, h4⟩ := ixN_seq e
    exact ⟨j, h1, h, h2, h3, h4⟩
theorem atI_nat {α : Type} {xs : List α} {j : Nat} {v : α} (h : xs[j]? = some v) : atI xs (j : Int) = some v := by
  have hj : j < xs.length := (List.getElem?_eq_some_iff.mp h).1
  have e : ixN xs.length (j : Int) = some j := by
    unfold ixN
    rw [if_pos (by omega), if_pos (by omega)]; simp
  unfold atI; rw [e]; exact h
def PlainIx (b : Expr) : Prop := ∀ o i, subscripted b false o i = operate [o, i] (getItem o i)
def IxR (X : Cx) (r : R2) : Prop :=
  ∀ (value slice : Expr) (pins : List (Addr × Obj)) (s : Shared) (σ : St) (H : Hp) (x y : V) (v u : Value) (Q : VK), Inv X pins σ H s → RelV x v → RelV y u → r x y H Q →
    subscripted slice false v u = operate [v, u] (getItem v u) → wpAny (model X.prog X.w) X.A (subscriptTail value slice v u) (EP X pins σ Q) X.xe s
def MtR (X : Cx) (id : String) (r : V → List V → Hp → VK → Prop) : Prop :=
  ∀ (pins : List (Addr × Obj)) (s : Shared) (σ : St) (H : Hp) (x : V) (xs : List V) (v : Value) (us : List Value) (Q : VK), Inv X pins σ H s → RelV x v → Vals xs us → r x xs H Q →
    wpAny (model X.prog X.w) X.A (call (.builtin id) (v :: us)) (EP X pins σ Q) X.xe s
section
variable {X : Cx} {a b : Expr} {ta tb : TE} {pos : Pos}
theorem pe_ix {r : R2} (hr : IxR X r) (ha : PE X a ta) (hb : PE X b tb) (hs : PlainIx b) : PE X (.Subscript a b pos) (tOp r ta tb) := by
  intro pins s σ H Q I h
  exact Subscript_ (binT ha hb I h fun v u s2 x y H2 I2 rx ry q => hr a b pins s2 σ H2 x y v u Q I2 rx ry q (hs _ _))
def rIxL (K : PySem.W.Frag) : R2 := fun x y H Q => ∃ p xs i v, x = .ref p ∧ y = .int i ∧ SqL K H p xs ∧ atI xs i = some v ∧ Q v H
def rIxT (K : PySem.W.Frag) : R2 := fun x y H Q => ∃ p xs i v, x = .ref p ∧ y = .int i ∧ SqT K H p xs ∧ atI xs i = some v ∧ Q v H
def rIxS : R2 := fun x y H Q => ∃ z i c, x = .str z ∧ y = .int i ∧ z.length ≤ sizeLine ∧ atI z.cps.toList i = some c ∧ Q (.str ⟨#[c]⟩) H
theorem ix_list : IxR X (rIxL X.K) := by
  intro value slice pins s σ H x y v u Q I rx ry h hs
  obtain ⟨p, xs, i, z, rfl, rfl, hq, he, q⟩ := h
  cases rx
  obtain ⟨t, rfl⟩ := ry
  obtain ⟨its, r, pl, hz⟩ := I.list hq
  obtain ⟨j, h1, h2, h3, h4, h5⟩ := atI_get he
  obtain ⟨w, ew, rw'⟩ := r.get h2
  have hl := r.length
  have hn := line63
  have fin : EP X pins σ Q w s := ⟨z, H, I, rw', q⟩
  by_cases h0 : 0 ≤ i
  · have hj : i.toNat = j := by
      rw [seqIndex_of h0 h5] at h1
      exact Option.some.inj h1
    exact item_listR pl.isList h0 (by omega) (by rw [hj]; simpa using ew) fin hs
  · have hj : (i + (its.toArray.size : Int)).toNat = j := by
      rw [seqIndex_neg (by omega) h4] at h1
      rw [List.size_toArray, ← hl]
      exact Option.some.inj h1
    exact subscriptTail_builtinR (x := w) pl.isList.typeIs slot_list_getitem.lookup
      (wpAny_getItem_list_neg (Q := fun r s' => r = w ∧ EP X pins σ Q r s') pl.isList (by omega) (by rw [List.size_toArray] <;> omega) (by omega) (by rw [hj]; simpa using ew) ⟨rfl, fin⟩) hs
theorem ix_tup : IxR X (rIxT X.K) := by
  intro value slice pins s σ H x y v u Q I rx ry h hs
  obtain ⟨p, xs, i, z, rfl, rfl, hq, he, q⟩ := h
  cases rx
  obtain ⟨t, rfl⟩ := ry
  obtain ⟨its, r, pl, hz⟩ := I.tuple hq
  obtain ⟨j, h1, h2, h3, h4, h5⟩ := atI_get he
  obtain ⟨w, ew, rw'⟩ := r.get h2
  have hl := r.length
  have hn := line63
  have fin : EP X pins σ Q w s := ⟨z, H, I, rw', q⟩
  exact subscriptTail_builtinR (x := w) pl.typeIs slot_tuple_getitem.lookup
    (getItem_tuple (j := j) (Q := fun r s' => r = w ∧ EP X pins σ Q r s') pl (by omega) (by omega) (by rw [List.size_toArray, ← hl]; exact h1) (by simpa using ew) ⟨rfl, fin⟩) hs
theorem ix_str : IxR X rIxS := by
  intro value slice pins s σ H x y v u Q I rx ry h hs
  obtain ⟨z, i, c, rfl, rfl, hz, he, q⟩ := h
  obtain ⟨t, rfl⟩ := rx
  obtain ⟨t', rfl⟩ := ry
  obtain ⟨j, h1, h2, h3, h4, h5⟩ := atI_get he
  have hl : z.cps.toList.length = z.length := by simp [Str.length]
  rw [hl] at h1 h4 h5
  have hn := line63
  exact tail_any (typeIs_str s z t) slot_str_getitem.lookup (getItem_str (c := c) (by
    have e1 : decide (i < -(2 ^ 63 : Int)) = false := decide_eq_false (by omega)
    have e2 : decide (i ≥ 2 ^ 63) = false := decide_eq_false (by omega)
    rw [e1, e2, Bool.or_false]) (by rw [h1]; simpa using h2) ⟨.str ⟨#[c]⟩, H, I.tok _, ⟨_, rfl⟩, q⟩) hs
theorem mapSeq_set (its : List Value) (n j : Nat) (u : Value) : Obj.mapSeq (·.setIfInBounds j u) { cls := .type "list", data := .seq its.toArray n } = { cls := .type "list", data := .seq (its.set j u).toArray n } := by
  simp [Obj.mapSeq]
theorem Inv.lst {pins : List (Addr × Obj)} {σ : St} {H : Hp} {s : Shared} {p : Addr} {xs : List V} (I : Inv X pins σ H s) (h : H p = some (.lst xs)) :
    ∃ (its : List Value) (n : Nat), Vals xs its ∧ s.heap.get? p = some { cls := .type "list", data := .seq its.toArray n } ∧ xs.length ≤ sizeLine := by
  obtain ⟨z, its, n, r, e⟩ := I.hok p _ h
  exact ⟨its, n, r, e, z⟩
theorem Inv.lstUpd {pins : List (Addr × Obj)} {σ : St} {H : Hp} {s : Shared} {p : Addr} {xs ys : List V} {its its' : List Value} {n n' : Nat} {f : Obj → Obj} (I : Inv X pins σ H s) (h : H p = some (.lst xs))
    (ho : s.heap.get? p = some { cls := .type "list", data := .seq its.toArray n }) (hf : f { cls := .type "list", data := .seq its.toArray n } = { cls := .type "list", data := .seq its'.toArray n' }) (r : Vals ys its') (hz : ys.length ≤ sizeLine) (t : Nat) :
    Inv X pins σ (upd H p (.lst ys)) { s with heap := s.heap.update p f, toks := t } := by
  have e : (s.heap.update p f).get? p = some { cls := .type "list", data := .seq its'.toArray n' } := by
    rw [Heap.get?_update_self f ho (by rw [hf] <;> rfl), hf]
  refine I.write (x := p) (e := p) (by rw [h]; trivial) (.inl rfl) (fun b u hb q => (Heap.get?_update_other _ _ (Ne.symm hb)).trans q) ⟨_, e⟩ ?_
  exact ⟨hz, its', n', r, e⟩
def rSetL : V → V → V → Hp → (Hp → Prop) → Prop := fun o i v H Q => ∃ p xs k j, o = .ref p ∧ i = .int k ∧ H p = some (.lst xs) ∧ ixN xs.length k = some j ∧ Q (upd H p (.lst (xs.set j v)))
theorem set_list : PSet X rSetL := by
  intro pins s σ H o i v ov iv u Q I ro ri rv h
  obtain ⟨p, xs, k, j, rfl, rfl, hp, hj, q⟩ := h
  cases ro
  obtain ⟨t, rfl⟩ := ri
  obtain ⟨its, n, r, ho, hz⟩ := I.lst hp
  obtain ⟨h1, h2, h3, h4⟩ := ixN_seq hj
  have hl := r.length
  have hn := line63
  have I' : Inv X pins σ (upd H p (.lst (xs.set j v))) { s with heap := s.heap.update p (Obj.mapSeq (·.setIfInBounds j u)) } :=
    I.lstUpd hp ho (mapSeq_set its n j u) (r.set rv j) (by rw [List.length_set]; exact hz) s.toks
  by_cases h0 : 0 ≤ k
  · have hk : k.toNat = j := by
      rw [seqIndex_of h0 h4] at h1
      exact Option.some.inj h1
    exact PySem.W.ki_setAt ho h0 (by omega) (by rw [List.size_toArray, ← hl]; exact h4) (by rw [hk]; exact ⟨_, I', q⟩)
  · have hk : (k + (its.toArray.size : Int)).toNat = j := by
      rw [seqIndex_neg (by omega) h3] at h1
      rw [List.size_toArray, ← hl]
      exact Option.some.inj h1
    exact PySem.W.ki_setBack ho (by omega) (by rw [List.size_toArray, ← hl]; exact h3) (by omega) (by rw [hk]; exact ⟨_, I', q⟩)
theorem slice_bounds (lo hi : Option Int) (n : Nat) : (sliceBounds lo hi none n).1 = ((HT.sIx n 0 lo : Nat) : Int) ∧ (sliceBounds lo hi none n).2.1 = ((HT.sIx n n hi : Nat) : Int) ∧ (sliceBounds lo hi none n).2.2 = 1 := by
  refine ⟨?_, ?_, rfl⟩
  · cases lo with
    | none => simp [sliceBounds, HT.sIx]
    | some i =>
      simp only [sliceBounds, HT.sIx, Option.getD_none, show (1 : Int) > 0 by decide, if_true]
      by_cases h : i < 0
      · simp only [h, if_true] <;> omega
      · simp only [h, if_false] <;> omega
  · cases hi with
    | none => simp [sliceBounds, HT.sIx]
    | some i =>
      simp only [sliceBounds, HT.sIx, Option.getD_none, show (1 : Int) > 0 by decide, if_true]
      by_cases h : i < 0
      · simp only [h, if_true] <;> omega
      · simp only [h, if_false] <;> omega
theorem slicePick_cut (its : List Value) (lo hi : Option Int) : slicePick its.toArray lo hi none = ((its.drop (HT.sIx its.length 0 lo)).take (HT.sIx its.length its.length hi - HT.sIx its.length 0 lo)).toArray := by
  obtain ⟨h1, h2, h3⟩ := slice_bounds lo hi its.toArray.size
  unfold slicePick
  rw [h1, h2, h3]
  simp only [sliceRange_one, pick_run, List.size_toArray] <;> rfl
def rSlL (K : PySem.W.Frag) : V → Option Int → Option Int → Hp → VK → Prop := fun x lo hi H Q => ∃ a xs, x = .ref a ∧ SqL K H a xs ∧ ∀ p, H p = none → Q (.ref p) (upd H p (.lst (cutV xs lo hi)))
theorem sl_list : SlR X (rSlL X.K) := by
  intro pins s σ H x v vl vu lo hi sl Q I rx hs pl pu h
  obtain ⟨a, xs, rfl, hx, q⟩ := h
  cases rx
  obtain ⟨its, r, ht, hz⟩ := I.list hx
  have hlen := r.length
  refine ⟨"list", _, slot_list_getitem.lookup, ht.isList.typeIs, ?_⟩
  refine wpAny_getItem_list_slice ht.isList hs pl pu .none (by simp) ?_ (by rw [List.size_toArray] <;> omega)
  rw [slicePick_cut, ← hlen]
  refine ⟨.ref s.heap.objs.size, _, I.laid (t' := s.toks) (o := .lst (cutV xs lo hi)) (fun b ob q => Heap.get?_push_of_some _ q) (Nat.le_refl _) ?_, rfl, q _ (I.hok.fresh (Nat.le_refl _))⟩
  exact ⟨Nat.le_trans (cutV_length xs lo hi) hz, _, 0, (r.drop (HT.sIx xs.length 0 lo)).take (HT.sIx xs.length xs.length hi - HT.sIx xs.length 0 lo), Heap.get?_push_size _ rfl⟩
theorem call_len_seq : CallR X (.builtin "len") (fun xs H Q => ∃ p ys, xs = [.ref p] ∧ (SqL X.K H p ys ∨ SqT X.K H p ys) ∧ Q (.int ys.length) H) := by
  intro pins s σ H xs us Q I r h
  obtain ⟨p, ys, rfl, hq, q⟩ := h
  obtain ⟨u, rfl, rx⟩ := vals1 r
  cases rx
  have hn := line63
  rcases hq with hq | hq
  · obtain ⟨its, r', pl, hz⟩ := I.list hq
    have hlen := r'.length
    exact Calls.call_len_list pl.isList (by simp only [List.size_toArray] <;> omega) ⟨.int ys.length, H, I.tok _, ⟨s.toks + 1, by rw [List.size_toArray, hlen]⟩, q⟩
  · obtain ⟨its, r', pl, hz⟩ := I.tuple hq
    have hlen := r'.length
    exact len_tuple pl (by simp only [List.size_toArray] <;> omega) ⟨.int ys.length, H, I.tok _, ⟨s.toks + 1, by rw [List.size_toArray, hlen]⟩, q⟩
theorem call_len_str : CallR X (.builtin "len") (fun xs H Q => ∃ z, xs = [.str z] ∧ z.length ≤ sizeLine ∧ Q (.int z.length) H) := by
  intro pins s σ H xs us Q I r h
  obtain ⟨z, rfl, hz, q⟩ := h
  obtain ⟨u, rfl, t, rfl⟩ := vals1 r
  have hn := line63
  exact len_str (by omega) ⟨.int z.length, H, I.tok _, ⟨_, rfl⟩, q⟩
theorem call_list_of : CallR X (.type "list") (fun xs H Q => ∃ p ys, xs = [.ref p] ∧ (SqL X.K H p ys ∨ SqT X.K H p ys) ∧ ∀ l, H l = none → Q (.ref l) (upd H l (.lst ys))) := by
  intro pins s σ H xs us Q I r h
  obtain ⟨p, ys, rfl, hq, q⟩ := h
  obtain ⟨u, rfl, rx⟩ := vals1 r
  cases rx
  have fin : ∀ (its : List Value), Vals ys its → ys.length ≤ sizeLine → ∀ (h' : Heap) (c' : Nat), (∀ b o', s.heap.get? b = some o' → h'.get? b = some o') →
      h'.get? s.heap.objs.size = some { cls := .type "list", dict := none, data := .seq its.toArray c', slots := #[] } → EP X pins σ Q (.ref s.heap.objs.size) { s with heap := h' } := fun its r' hz h' c' kp e =>
    ⟨.ref s.heap.objs.size, _, I.laid (t' := s.toks) kp (Nat.le_refl _) (show ObjOk X.prog X.w _ h' _ (.lst ys) from ⟨hz, its, c', r', e⟩), rfl, q _ (I.hok.fresh (Nat.le_refl _))⟩
  rcases hq with hq | hq
  · obtain ⟨its, r', pl, hz⟩ := I.list hq
    have hlen := r'.length
    obtain ⟨o, ho, hc, n, hd⟩ := pl.isList
    exact call_list_seq p (.inl rfl) ho hc hd (fun h' c' kp e => fin its r' hz h' c' kp e) (by simp only [List.size_toArray] <;> omega)
  · obtain ⟨its, r', pl, hz⟩ := I.tuple hq
    have hlen := r'.length
    obtain ⟨o, ho, hc, n, hd⟩ := pl
    exact call_list_seq p (.inr rfl) ho hc hd (fun h' c' kp e => fin its r' hz h' c' kp e) (by simp only [List.size_toArray] <;> omega)
theorem call_tuple_of : CallR X (.type "tuple") (fun xs H Q => ∃ p ys, xs = [.ref p] ∧ ((SqL X.K H p ys ∧ ∀ l, H l = none → Q (.ref l) (upd H l (.tup ys))) ∨ (SqT X.K H p ys ∧ Q (.ref p) H))) := by
  intro pins s σ H xs us Q I r h
  obtain ⟨p, ys, rfl, h⟩ := h
  obtain ⟨u, rfl, rx⟩ := vals1 r
  cases rx
  rcases h with ⟨hq, q⟩ | ⟨hq, q⟩
  · obtain ⟨its, r', pl, hz⟩ := I.list hq
    have hlen := r'.length
    refine call_tuple_list pl.isList (fun h' kp => ?_) (by simp only [List.size_toArray] <;> omega)
    have I1 : Inv X pins σ H { s with heap := h' } := I.kept (t' := s.toks) kp
    have I2 : Inv X pins σ (upd H h'.objs.size (.tup ys)) { s with heap := h'.push { cls := .type "tuple", data := .seq its.toArray } } :=
      I1.laid (t' := s.toks) (fun b o e => Heap.get?_push_of_some _ e) (Nat.le_refl _) (show ObjOk X.prog X.w _ _ _ (.tup ys) from ⟨hz, its, r', IsTup.new _ _⟩)
    exact ⟨.ref h'.objs.size, _, I2, rfl, q _ (I1.hok.fresh (Nat.le_refl _))⟩
  · obtain ⟨its, r', pl, hz⟩ := I.tuple hq
    exact call_tuple_same pl ⟨.ref p, H, I, rfl, q⟩
def tyV (K : PySem.W.Frag) (T : String) (x : V) (H : Hp) : Prop := match x with
  | .str _ => T = "str"
  | .int _ => T = "int"
  | .ref p => (T = "list" ∧ ∃ xs, SqL K H p xs) ∨ (T = "tuple" ∧ ∃ o, K.lookup p = some o ∧ o.cls = .type "tuple" ∧ o.dict = none) ∨
      (T = "dict" ∧ ((∃ kvs, H p = some (.dK kvs)) ∨ ∃ kvs, H p = some (.dT kvs))) ∨ (T = "set" ∧ ∃ S n, H p = some (.set S n))
  | _ => False
theorem tyV_is {pins : List (Addr × Obj)} {σ : St} {H : Hp} {s : Shared} {T : String} {x : V} {v : Value} (I : Inv X pins σ H s) (r : RelV x v) (ty : tyV X.K T x H) :
    s.TypeIs v T ∧ ∀ a, v = .ref a → ∃ ob, s.heap.get? a = some ob ∧ ob.dict = none := by
  cases x with
  | str z =>
    obtain ⟨t, rfl⟩ := r
    cases (show T = "str" from ty)
    exact ⟨typeIs_str s z t, fun _ e => nomatch e⟩
  | int i =>
    obtain ⟨t, rfl⟩ := r
    cases (show T = "int" from ty)
    exact ⟨typeIs_int s i t, fun _ e => nomatch e⟩
  | ref p =>
    cases r
    rcases ty with ⟨rfl, xs, hq⟩ | ⟨rfl, o, hk, hc, hd⟩ | ⟨rfl, hk⟩ | ⟨rfl, S, n, hk⟩
    · obtain ⟨its, _, pl, _⟩ := I.list hq
      refine ⟨pl.isList.typeIs, fun a e => ?_⟩
      cases e
      obtain ⟨o, n, e, c, hd, _⟩ := pl
      exact ⟨o, e, hd⟩
    · refine ⟨⟨o, I.kIn p o hk, hc⟩, fun a e => ?_⟩
      cases e
      exact ⟨o, I.kIn _ o hk, hd⟩
    · have z : ∃ o, s.heap.get? p = some o ∧ o.ExactDict := by
        rcases hk with ⟨kvs, hk⟩ | ⟨kvs, hk⟩
        · obtain ⟨_, _, _, _, o, _, _, e, ex, _⟩ := I.hok p _ hk
          exact ⟨o, e, ex⟩
        · obtain ⟨_, _, _, _, o, _, _, e, ex, _⟩ := I.hok p _ hk
          exact ⟨o, e, ex⟩
      obtain ⟨o, e, ex⟩ := z
      refine ⟨⟨o, e, ex.1⟩, fun a e2 => ?_⟩
      cases e2
      exact ⟨o, e, ex.2.1⟩
    · obtain ⟨o, _, _, _, e, ex, _⟩ := I.hok p _ hk
      refine ⟨⟨o, e, ex.1⟩, fun a e2 => ?_⟩
      cases e2
      exact ⟨o, e, ex.2.1⟩
  | _ => exact False.elim ty
def tBM (K : PySem.W.Frag) (T : String) (r : V → List V → Hp → VK → Prop) (to : TE) (t : TA) : TE := fun σ H Q => to σ H fun x H1 => tyV K T x H1 ∧ t σ H1 fun xs H2 => r x xs H2 Q
variable {o e : Expr} {es : List Expr} {to : TE} {t : TA} {name : Str} {apos cpos : Pos} {T id : String} {r : V → List V → Hp → VK → Prop}
theorem pe_bm (pa : PlainAttrs T) (slot : Slot T name id) (hty : typeOf (.builtin id) = pure (.type "method_descriptor")) (hm : MtR X id r) (ho : PE X o to) (ha : PA X (e :: es) t)
    (hbase : attributeBase o name X.env (eval o X.env) = eval o X.env := by rfl)
    (hfew : ((backTo cpos (starEach (e :: es) X.env)).all (fun x => !x.1) && (backToKw cpos (keywordEach [] X.env)).all (fun x => x.1.isSome)
      && decide ((e :: es).length + ([] : List Keyword).length + (if ([] : List Keyword).isEmpty then 0 else 1) < 30)) = true := by rfl)
    (hline : (apos.endLine == cpos.line) = true := by rfl) (hs : starEach (e :: es) X.env = (false, eval e X.env) :: starEach es X.env := by rfl) (hplain : (backTo cpos (starEach es X.env)).any (·.1) = false := by rfl) :
    PE X (.Call (.Attribute o name apos) (e :: es) [] cpos) (tBM X.K T r to t) := by
  intro pins s σ H Q I h
  refine wpAny_Call_method_late hbase hfew hline rfl (thn (ho pins s σ H _ I h) fun v s1 ⟨x, H1, I1, r1, ty, q1⟩ => ?_)
  obtain ⟨h1, h2⟩ := tyV_is I1 r1 ty
  refine ⟨T, id, pa, slot, hty, h1, h2, ?_⟩
  have hA := ha cpos pins s1 σ H1 _ I1 q1
  rw [hs] at hA ⊢
  refine Calls.callWith_builtin (by show (false || (backTo cpos (starEach es X.env)).any (·.1)) = false; rw [hplain] <;> rfl) (Calls.evalArgs_plain ?_)
  exact thn hA fun us s2 ⟨vs, H2, I2, r2, q2⟩ => hm pins s2 σ H2 x vs v us Q I2 r1 r2 q2
end
end L2
namespace L2
open PySem PySem.Spec PyProof.Rows
def MtM (X : Cx) (id : String) (r : V → List V → Hp → VK → Prop) : Prop :=
  ∀ (pins : List (Addr × Obj)) (s : Shared) (σ : St) (H : Hp) (x : V) (xs : List V) (v : Value) (us : List Value) (Q : VK), Inv X pins σ H s → RelV x v → Vals xs us → r x xs H Q →
    wpAny (model X.prog X.w) X.A (call (.builtin id) (v :: us)) (EP X pins σ Q) X.xe s
theorem Vals.one : ∀ {x : V} {us : List Value}, Vals [x] us → ∃ u, us = [u] ∧ RelV x u
  | _, _, .cons r .nil => ⟨_, rfl, r⟩
theorem Vals.two : ∀ {x y : V} {us : List Value}, Vals [x, y] us → ∃ u v, us = [u, v] ∧ RelV x u ∧ RelV y v
  | _, _, _, .cons r (.cons q .nil) => ⟨_, _, rfl, r, q⟩
theorem Vals.zero : ∀ {us : List Value}, Vals [] us → us = []
  | _, .nil => rfl
theorem Vals.rep {xs : List V} {us : List Value} (h : Vals xs us) : ∀ k : Nat, Vals (List.replicate k xs).flatten (List.replicate k us).flatten
  | 0 => .nil
  | k + 1 => by
    rw [List.replicate_succ, List.replicate_succ, List.flatten_cons, List.flatten_cons]
    exact Vals.append h (Vals.rep h k)
theorem foldl_rep (its : List Value) : ∀ (k : Nat) (acc : List Value),
    List.foldl (fun x1 x2 => x1 ++ x2) acc.toArray (List.replicate k its.toArray) = (acc ++ (List.replicate k its).flatten).toArray
  | 0, acc => by simp
  | k + 1, acc => by
    have e : acc.toArray ++ its.toArray = (acc ++ its).toArray := by simp
    have e2 : (acc ++ its) ++ (List.replicate k its).flatten = acc ++ (List.replicate (k + 1) its).flatten := by
      rw [List.replicate_succ, List.flatten_cons, List.append_assoc]
    rw [← e2, ← foldl_rep its k (acc ++ its), ← e, List.replicate_succ, List.foldl_cons]
section
variable {X : Cx} {pins : List (Addr × Obj)} {σ : St} {H : Hp} {s : Shared} {l b : Addr} {xs ys zs : List V}
theorem Inv.lset {its its' : List Value} {n : Nat} {f : Array Value → Array Value} {t' : Nat} (I : Inv X pins σ H s) (hH : H l = some (.lst xs))
    (e : s.heap.get? l = some { cls := .type "list", data := .seq its.toArray n }) (hf : f its.toArray = its'.toArray) (hv : Vals ys its') (hz : ys.length ≤ sizeLine) :
    Inv X pins σ (upd H l (.lst ys)) { s with heap := s.heap.update l (Obj.mapSeq f), toks := t' } := by
  have q := PySem.IsL.update e f
  rw [hf] at q
  refine I.write (x := l) (e := l) (by rw [hH]; exact trivial) (.inl rfl) (fun b' u hb hu => (Heap.get?_update_other s.heap (Obj.mapSeq f) (Ne.symm hb)).trans hu) ⟨_, q⟩ ?_
  exact ⟨hz, its', _, hv, q⟩
theorem Inv.lnew {its : List Value} {t' : Nat} (I : Inv X pins σ H s) (hv : Vals ys its) (hz : ys.length ≤ sizeLine) :
    Inv X pins σ (upd H s.heap.objs.size (.lst ys)) { s with heap := s.heap.push { cls := .type "list", data := .seq its.toArray }, toks := t' } :=
  I.laid (fun _ _ q => Heap.get?_push_of_some _ q) (Nat.le_refl _) ⟨hz, its, 0, hv, Heap.get?_push_size _ rfl⟩
theorem Inv.fresh (I : Inv X pins σ H s) : H s.heap.objs.size = none := I.hok.fresh (Nat.le_refl _)
theorem Inv.lstM (I : Inv X pins σ H s) (hH : H l = some (.lst xs)) : xs.length ≤ sizeLine ∧ ∃ (its : List Value) (n : Nat), Vals xs its ∧ xs.length = its.length ∧ s.heap.get? l = some { cls := .type "list", data := .seq its.toArray n } := by
  obtain ⟨z, its, n, r, e⟩ := I.hok l _ hH
  exact ⟨z, its, n, r, r.length, e⟩
theorem notLongL {n : Nat} (h : n ≤ sizeLine) : Builtin.List.listTooLong n = false := by
  unfold Builtin.List.listTooLong
  exact decide_eq_false (by omega)
end
section
variable {X : Cx}
def rAppend : V → List V → Hp → VK → Prop := fun x vs H Q => ∃ l xs y, x = .ref l ∧ vs = [y] ∧ H l = some (.lst xs) ∧ xs.length < sizeLine ∧ Q .non (upd H l (.lst (xs ++ [y])))
theorem mt_append : MtM X "list.append" rAppend := by
  intro pins s σ H x vs v us Q I rx rv h
  obtain ⟨l, xs, y, rfl, rfl, hH, hz, q⟩ := h
  cases rx
  obtain ⟨u, rfl, ru⟩ := rv.one
  obtain ⟨z, its, n, r, hl, e⟩ := I.lstM hH
  refine call_meets F.slot_list_append ⟨_, e, rfl⟩ F.entry_list_append (F.args_list_append_2 _ _) (PySem.list_append l its.toArray n u (by rw [List.size_toArray]; omega)) ⟨e, ?_⟩
  refine ⟨.non, _, I.lset (its' := its ++ [u]) hH e (by simp) (r.append (.cons ru .nil)) ?_, rfl, q⟩
  rw [List.length_append, List.length_singleton]
  omega
def rRep : R2 := fun x y H Q => ∃ l k xs, x = .ref l ∧ y = .int k ∧ H l = some (.lst xs) ∧ -(2 ^ 63) ≤ k ∧ k < 2 ^ 63 ∧ xs.length * k.toNat ≤ sizeLine ∧
  ∀ p, H p = none → Q (.ref p) (upd H p (.lst (List.replicate k.toNat xs).flatten))
theorem len_rep {α : Type} (xs : List α) (k : Nat) : (List.replicate k xs).flatten.length = k * xs.length := by
  induction k with
  | zero => simp
  | succ k ih => rw [List.replicate_succ, List.flatten_cons, List.length_append, ih, Nat.succ_mul, Nat.add_comm]
theorem op_rep : OpR X (binaryOp .Mult) rRep := by
  intro pins s σ H x y v u Q I rx ry h
  obtain ⟨l, k, xs, rfl, rfl, hH, h1, h2, hz, q⟩ := h
  cases rx
  obtain ⟨t, rfl⟩ := ry
  obtain ⟨z, its, n, r, hl, e⟩ := I.lstM hH
  have hlen : its.toArray.size * k.toNat ≤ sizeLine := by rw [List.size_toArray, ← hl]; exact hz
  have hcap : ¬ its.toArray.size * k.toNat > (2 ^ 63 - 1) / 8 := by
    have : (sizeLine : Nat) ≤ (2 ^ 63 - 1) / 8 := by decide
    omega
  have hfit : ¬ (!Builtin.List.listFitsIndex k) = true := by
    rw [fitsIndex_both h1 h2]
    exact Bool.false_ne_true
  have hlong : ¬ Builtin.List.listTooLong (its.toArray.size * k.toNat) = true := by
    rw [notLongL hlen]
    exact Bool.false_ne_true
  have hnew : List.foldl (fun x1 x2 => x1 ++ x2) #[] (List.replicate (if its.toArray.isEmpty = true then 0 else k.toNat) its.toArray) = (List.replicate k.toNat its).flatten.toArray := by
    have f0 : ∀ m : Nat, List.foldl (fun x1 x2 => x1 ++ x2) #[] (List.replicate m its.toArray) = (List.replicate m its).flatten.toArray := fun m => by
      have := foldl_rep its m []
      rw [List.nil_append] at this
      exact this
    rw [f0]
    cases its with
    | nil => simp
    | cons a r' => rw [if_neg (by simp)]
  refine wpAny_binaryOp_repeat_ref (T := "list") (U := "int") (by decide) ⟨_, e, rfl⟩ (fun s' => typeIs_int s' k t) noFill_list_mul F.fills_int_mul F.slot_int_rmul repeat_list F.slot_int_index.lookup
    (call_meets F.slot_int_rmul (typeIs_int s k t) F.entry_int_rmul (F.args_int_rmul_2 _ _) (int___rmul___int_list k t l its.toArray n)
      ⟨e, rfl, ⟨_, e, rfl⟩, call_meets F.slot_list_mul ⟨_, e, rfl⟩ F.entry_list_mul (F.args_list_mul_2 _ _) (AutoListH.list___mul___list_int_3 l its.toArray n k t hfit hcap hlong) ⟨e, ?_⟩⟩)
  rw [hnew]
  exact ⟨.ref _, _, I.lnew (t' := s.toks) (r.rep k.toNat) (by rw [len_rep, Nat.mul_comm]; exact hz), rfl, q _ I.fresh⟩
end
section
variable {prog : Program} {w : World} {A : Around} {E : Value → Shared → Prop} {s : Shared}
end
section
variable {X : Cx}
end
end L2
namespace L2
open PySem PySem.Spec PyProof.Rows
section
variable {κ : Type} [DecidableEq κ]
def valV (kvs : List (κ × V)) (k : κ) : Option V := (kvs.find? fun kv => decide (kv.1 = k)).map (·.2)
def putK (kvs : List (κ × V)) (k : κ) (v : V) : List (κ × V) :=
  if (kvs.any fun kv => decide (kv.1 = k)) = true then kvs.map (fun kv => if kv.1 = k then (kv.1, v) else kv) else kvs ++ [(k, v)]
def dropK (kvs : List (κ × V)) (k : κ) : List (κ × V) := kvs.filter fun kv => decide (kv.1 ≠ k)
theorem valV_pos {p : κ × V} {r : List (κ × V)} {k : κ} (e : p.1 = k) : valV (p :: r) k = some p.2 := by simp [valV, List.find?_cons, e]
theorem valV_neg {p : κ × V} {r : List (κ × V)} {k : κ} (e : ¬ p.1 = k) : valV (p :: r) k = valV r k := by simp [valV, List.find?_cons, e]
theorem valV_any (k : κ) : ∀ kvs : List (κ × V), (kvs.any fun kv => decide (kv.1 = k)) = (valV kvs k).isSome
  | [] => rfl
  | p :: r => by
    rw [List.any_cons]
    by_cases e : p.1 = k
    · simp only [valV_pos e, decide_eq_true e, Bool.true_or, Option.isSome_some]
    · rw [valV_neg e, decide_eq_false e, Bool.false_or]; exact valV_any k r
theorem RelO.isSome_eq {o : Option V} {u : Option Value} (r : RelO o u) : o.isSome = u.isSome := by
  cases o with
  | none => cases u with
    | none => rfl
    | some _ => exact (show False from r).elim
  | some _ => cases u with
    | none => exact (show False from r).elim
    | some _ => rfl
theorem RelO.getD {o : Option V} {u : Option Value} {d : V} {d' : Value} (r : RelO o u) (rd : RelV d d') : RelV (o.getD d) (u.getD d') := by
  cases o with
  | none => cases u with
    | none => exact rd
    | some _ => exact (show False from r).elim
  | some _ => cases u with
    | none => exact (show False from r).elim
    | some _ => exact r
theorem KV.val {kvs : List (κ × V)} {vs : List (κ × Value)} (r : KV kvs vs) (k : κ) : RelO (valV kvs k) (valueAt vs k) := by
  unfold KV at r
  induction r with
  | nil => exact True.intro
  | @cons p q ps qs h t ih =>
    obtain ⟨h1, h2⟩ := h
    by_cases e : p.1 = k
    · have e' : q.1 = k := h1.symm.trans e
      have b : valueAt (q :: qs) k = some q.2 := by simp [valueAt, List.find?_cons, e']
      rw [valV_pos e, b]; exact h2
    · have e' : ¬ q.1 = k := fun z => e (h1.trans z)
      have b : valueAt (q :: qs) k = valueAt qs k := by simp [valueAt, List.find?_cons, e']
      rw [valV_neg e, b]; exact ih
theorem KV.any {kvs : List (κ × V)} {vs : List (κ × Value)} (r : KV kvs vs) (k : κ) : (kvs.any fun kv => decide (kv.1 = k)) = vs.any fun kv => decide (kv.1 = k) := by
  unfold KV at r
  induction r with
  | nil => rfl
  | cons h t ih => rw [List.any_cons, List.any_cons, ih, h.1]
theorem KV.repl {kvs : List (κ × V)} {vs : List (κ × Value)} (r : KV kvs vs) (k : κ) {y : V} {u : Value} (ry : RelV y u) :
    KV (kvs.map fun kv => if kv.1 = k then (kv.1, y) else kv) (vs.map fun kv => if kv.1 = k then (kv.1, u) else kv) := by
  unfold KV at r ⊢
  induction r with
  | nil => exact .nil
  | @cons p q ps qs h t ih =>
    rw [List.map_cons, List.map_cons]
    refine .cons ?_ ih
    obtain ⟨h1, h2⟩ := h
    by_cases e : p.1 = k
    · rw [if_pos e, if_pos (h1.symm.trans e)]; exact ⟨h1, ry⟩
    · rw [if_neg e, if_neg (fun z => e (h1.trans z))]; exact ⟨h1, h2⟩
theorem KV.put {kvs : List (κ × V)} {vs : List (κ × Value)} (r : KV kvs vs) (k : κ) {y : V} {u : Value} (ry : RelV y u) : KV (putK kvs k y) (stored vs k u) := by
  unfold putK stored
  rw [r.any k]
  by_cases e : (vs.any fun kv => decide (kv.1 = k)) = true
  · rw [if_pos e, if_pos e]; exact r.repl k ry
  · rw [if_neg e, if_neg e]; exact Paired.snoc r ⟨rfl, ry⟩
theorem KV.drop {kvs : List (κ × V)} {vs : List (κ × Value)} (r : KV kvs vs) (k : κ) : KV (dropK kvs k) (without vs k) := by
  unfold KV at r ⊢
  unfold dropK without
  induction r with
  | nil => exact .nil
  | @cons p q ps qs h t ih =>
    obtain ⟨h1, h2⟩ := h
    rw [List.filter_cons, List.filter_cons]
    by_cases e : p.1 = k
    · have a : ¬ decide (p.1 ≠ k) = true := by simp [e]
      have b : ¬ decide (q.1 ≠ k) = true := by simp [h1.symm.trans e]
      rw [if_neg a, if_neg b]; exact ih
    · have e' : ¬ q.1 = k := fun z => e (h1.trans z)
      have a : decide (p.1 ≠ k) = true := by simp [e]
      have b : decide (q.1 ≠ k) = true := by simp [e']
      rw [if_pos a, if_pos b]; exact .cons ⟨h1, h2⟩ ih
theorem KV.keys {kvs : List (κ × V)} {vs : List (κ × Value)} (r : KV kvs vs) : kvs.map (·.1) = vs.map (·.1) := by
  unfold KV at r
  induction r with
  | nil => rfl
  | cons h t ih => rw [List.map_cons, List.map_cons, ih, h.1]
theorem KV.length {kvs : List (κ × V)} {vs : List (κ × Value)} (r : KV kvs vs) : kvs.length = vs.length := Paired.length r
end
abbrev KT (H : Hp) : List (List Key × V) → List (List Key × Addr × Value) → Prop := Paired fun p q => p.1 = q.1 ∧ H q.2.1 = some (.tup (p.1.map kV)) ∧ RelV p.2 q.2.2
theorem KT.val {H : Hp} {kvs : List (List Key × V)} {xs : List (List Key × Addr × Value)} (r : KT H kvs xs) (k : List Key) : RelO (valV kvs k) ((atKey xs k).map (·.2)) := by
  induction r with
  | nil => exact True.intro
  | @cons p q ps qs h t ih =>
    obtain ⟨h1, _, h2⟩ := h
    by_cases e : p.1 = k
    · have e' : q.1 = k := h1.symm.trans e
      have b : atKey (q :: qs) k = some q.2 := by simp [atKey, List.find?_cons, e']
      rw [valV_pos e, b]; exact h2
    · have e' : ¬ q.1 = k := fun z => e (h1.trans z)
      have b : atKey (q :: qs) k = atKey qs k := by simp [atKey, List.find?_cons, e']
      rw [valV_neg e, b]; exact ih
theorem KT.repl {H : Hp} {kvs : List (List Key × V)} {xs : List (List Key × Addr × Value)} (r : KT H kvs xs) (k : List Key) {y : V} {u : Value} (ry : RelV y u) :
    KT H (kvs.map fun kv => if kv.1 = k then (kv.1, y) else kv) (xs.map (putAt k u)) := by
  induction r with
  | nil => exact .nil
  | @cons p q ps qs h t ih =>
    rw [List.map_cons, List.map_cons]
    refine .cons ?_ ih
    obtain ⟨h1, h2, h3⟩ := h
    unfold putAt
    by_cases e : p.1 = k
    · rw [if_pos e, if_pos (h1.symm.trans e)]; exact ⟨h1, h2, ry⟩
    · rw [if_neg e, if_neg (fun z => e (h1.trans z))]; exact ⟨h1, h2, h3⟩
theorem KT.put {H : Hp} {kvs : List (List Key × V)} {xs : List (List Key × Addr × Value)} (r : KT H kvs xs) (k : List Key) {b : Addr} {y : V} {u : Value} (hb : H b = some (.tup (k.map kV))) (ry : RelV y u) :
    KT H (putK kvs k y) (storedH xs k b u) := by
  have e : (kvs.any fun kv => decide (kv.1 = k)) = (atKey xs k).isSome := by
    rw [valV_any, (r.val k).isSome_eq, Option.isSome_map]
  unfold putK storedH
  rw [e]
  by_cases q : (atKey xs k).isSome = true
  · rw [if_pos q, if_pos q]; exact r.repl k ry
  · rw [if_neg q, if_neg q]; exact Paired.snoc r ⟨rfl, hb, ry⟩
theorem KT.keeps {H H' : Hp} {kvs : List (List Key × V)} {xs : List (List Key × Addr × Value)} (r : KT H kvs xs) (ht : ∀ b ys, H b = some (.tup ys) → H' b = some (.tup ys)) : KT H' kvs xs :=
  Paired.mapP r fun _ _ z => ⟨z.1, ht _ _ z.2.1, z.2.2⟩
section
variable {P : Program} {w : World} {H : Hp} {h : Heap} {a : Addr}
end
def DGet (H : Hp) (a : Addr) (y : V) (r : Option V) : Prop :=
  (∃ kvs k, Rd H a (.dK kvs) ∧ y = kV k ∧ r = valV kvs k) ∨ ∃ kvs k b, Rd H a (.dT kvs) ∧ y = .ref b ∧ H b = some (.tup (k.map kV)) ∧ r = valV kvs k
def DPut (H : Hp) (a : Addr) (y v : V) (H' : Hp) : Prop :=
  (∃ kvs k, H a = some (.dK kvs) ∧ y = kV k ∧ kvs.length < sizeLine ∧ H' = upd H a (.dK (putK kvs k v))) ∨
  ∃ kvs k b, H a = some (.dT kvs) ∧ y = .ref b ∧ H b = some (.tup (k.map kV)) ∧ kvs.length < sizeLine ∧ H' = upd H a (.dT (putK kvs k v))
theorem DGet.k {H : Hp} {a : Addr} {kvs : List (Key × V)} {k : Key} (e : H a = some (.dK kvs)) : DGet H a (kV k) (valV kvs k) := .inl ⟨kvs, k, .inl e, rfl, rfl⟩
theorem DGet.t {H : Hp} {a b : Addr} {kvs : List (List Key × V)} {k : List Key} (e : H a = some (.dT kvs)) (eb : H b = some (.tup (k.map kV))) : DGet H a (.ref b) (valV kvs k) := .inr ⟨kvs, k, b, .inl e, rfl, eb, rfl⟩
theorem DPut.k {H : Hp} {a : Addr} {kvs : List (Key × V)} {k : Key} {v : V} (e : H a = some (.dK kvs)) (hl : kvs.length < sizeLine) : DPut H a (kV k) v (upd H a (.dK (putK kvs k v))) := .inl ⟨kvs, k, e, rfl, hl, rfl⟩
theorem DPut.t {H : Hp} {a b : Addr} {kvs : List (List Key × V)} {k : List Key} {v : V} (e : H a = some (.dT kvs)) (eb : H b = some (.tup (k.map kV))) (hl : kvs.length < sizeLine) :
    DPut H a (.ref b) v (upd H a (.dT (putK kvs k v))) := .inr ⟨kvs, k, b, e, rfl, eb, hl, rfl⟩
section
variable {X : Cx} {pins : List (Addr × Obj)} {σ : St} {H : Hp} {s : Shared} {a : Addr} {y v : V} {u r : Value} {o : Option V} {A : Around} {E : Value → Shared → Prop}
theorem Inv.big (I : Inv X pins σ H s) : sysModules < s.heap.objs.size := by
  have h : mainGlobals < s.heap.objs.size := (I.mod.glob.keeps I.bk).lt
  exact Nat.lt_trans (by decide) h
end
section
variable {X : Cx} {pins : List (Addr × Obj)} {σ : St} {H : Hp} {s : Shared} {a : Addr} {kvs : List (Key × V)} {k : Key} {u : Value} {A : Around} {E : Value → Shared → Prop}
end
section
variable {X : Cx} {o i e value : Expr} {pos pos' tpos : Pos} {td ty tv : TE}
end
theorem dk_empty {P : Program} {w : World} {H : Hp} (h : Heap) (hb : sysModules < h.objs.size) : ObjOk P w H (h.push { cls := .type "dict", data := .dict #[] }) h.objs.size (.dK []) :=
  ⟨Nat.zero_le _, beq_eq_false_iff_ne.mpr (Ne.symm (Nat.ne_of_lt hb)), [], .nil, Heap.DictOf.new h⟩
def tDNewK : TE := fun _ H Q => ∀ p, H p = none → Q (.ref p) (upd H p (.dK []))
section
variable {X : Cx} {pos : Pos}
theorem pe_dnewK : PE X (.Dict [] [] pos) tDNewK := fun pins s σ H Q I h =>
  wpAny_Dict_empty ⟨.ref s.heap.objs.size, _, I.laid (a := s.heap.objs.size) (o := .dK []) (t' := s.toks) (fun _ _ q => Heap.get?_push_of_some _ q) (Nat.le_refl _) (dk_empty s.heap I.big), rfl, h _ (I.hok.fresh (Nat.le_refl _))⟩
end
structure M1 (X : Cx) (o : Expr) (m : Str) (apos : Pos) (e : Expr) (cpos : Pos) : Prop where
  base : attributeBase o m X.env (eval o X.env) = eval o X.env
  few : ((backTo cpos (starEach [e] X.env)).all (fun x => !x.1) && (backToKw cpos (keywordEach [] X.env)).all (fun x => x.1.isSome)
    && decide (([e] : List Expr).length + ([] : List Keyword).length + (if ([] : List Keyword).isEmpty then 0 else 1) < 30)) = true
  line : (apos.endLine == cpos.line) = true
  trees : backTo cpos (starEach [e] X.env) = [(false, eval e X.env)]
structure M2 (X : Cx) (o : Expr) (m : Str) (apos : Pos) (e f : Expr) (cpos : Pos) : Prop where
  base : attributeBase o m X.env (eval o X.env) = eval o X.env
  few : ((backTo cpos (starEach [e, f] X.env)).all (fun x => !x.1) && (backToKw cpos (keywordEach [] X.env)).all (fun x => x.1.isSome)
    && decide (([e, f] : List Expr).length + ([] : List Keyword).length + (if ([] : List Keyword).isEmpty then 0 else 1) < 30)) = true
  line : (apos.endLine == cpos.line) = true
  trees : backTo cpos (starEach [e, f] X.env) = [(false, eval e X.env), (false, eval f X.env)]
section
variable {X : Cx} {pins : List (Addr × Obj)} {σ : St} {H : Hp} {s : Shared} {a : Addr} {y d : V} {u r : Value} {o : Option V} {A : Around} {E : Value → Shared → Prop}
end
section
variable {X : Cx} {o e f : Expr} {apos cpos : Pos} {td ty tx : TE}
end
section
variable {X : Cx} {pins : List (Addr × Obj)} {σ : St} {H : Hp} {s : Shared} {a : Addr} {kvs : List (Key × V)} {A : Around} {E : Value → Shared → Prop}
end
section
variable {X : Cx} {pins : List (Addr × Obj)} {σ : St} {H : Hp} {s : Shared} {a : Addr} {y : V} {u : Value} {A : Around} {E : Value → Shared → Prop}
end
end L2
namespace Att
open PySem PySem.W PySem.Calls PyProof.Rows
theorem ints_of_wellAll {P : Params} {h : Heap} : ∀ (ns : List Int) (vs : List Value), WellAll P h vs (ns.map WData.int) → IntsAre vs ns := by
  intro ns
  induction ns with
  | nil =>
    intro vs w
    rw [List.map_nil] at w
    cases w
    exact .nil
  | cons n ns ih =>
    intro vs w
    rw [List.map_cons] at w
    cases w with
    | cons a b =>
      cases a
      exact .cons _ _ (ih _ b)
theorem script_of {l : OpenLaw} {n : Nat} (hn : l.most = some n) {P : Params} {h : Heap} {args : List WData} {vals : List Value}
    (hpre : l.row.toRowW.claim.pre args = true) (hwl : WellAll P h vals args) :
    ∃ a vs ns, vals = [Value.ref a] ∧ args = [WData.list (ns.map WData.int)] ∧ h.get? a = some { cls := .type "list", data := .seq vs.toArray } ∧ IntsAre vs ns ∧ ns.length ≤ n := by
  have hsh : WShape.hasAll [] args [.list .int] = true := (pre_splitW hpre).1
  have hc : l.pre.holds [] { args := args } = true := (pre_splitW hpre).2
  obtain ⟨d, r, rfl, h1, h2⟩ := hasAllW_cons hsh
  obtain rfl := hasAllW_nil h2
  obtain ⟨xs, rfl, h3⟩ := hasW_list h1
  obtain ⟨ns, rfl⟩ := items_int h3
  have hlen : ns.length ≤ n := by
    unfold OpenLaw.pre at hc
    have h4 : (WTm.not (.lt (.lit (.int (n : Int))) (.len (.arg 0)))).holds [] { args := [.list (ns.map .int)] } = true := by
      have h4 := (holds_andW hc).1
      rw [hn] at h4
      exact h4
    have h5 := condW_of h4 (w_not (w_lt w_lit (w_len_list (w_arg rfl))))
    rw [List.length_map] at h5
    refine Nat.le_of_not_lt fun q => ?_
    have q' : (n : Int) < ((ns.length : Nat) : Int) := by omega
    first
      | (rw [decide_eq_true q'] at h5; exact absurd h5 (by decide))
      | (simp at h5; omega)
  cases hwl with
  | cons w1 w2 =>
    cases w2
    cases w1 with
    | list ho hall => exact ⟨_, _, ns, rfl, rfl, ho, ints_of_wellAll ns _ hall, hlen⟩
theorem post_true (l : OpenLaw) (args : List WData) : l.row.toRowW.claim.post args (.bool true) args = true :=
  postW_of (r := l.row.toRowW) (X := (true == true))
    (show WShape.has [] (.bool true) .bool = true by first | rfl | decide | simp [WShape.has, WShape.arms, WShape.armsAll])
    (show (WTm.eq .res (.lit (.bool true))).value [] { args := args, res := some (.bool true), after := args } = some (.bool (true == true)) from w_eq_bool (w_res rfl) w_lit) rfl
theorem attach_call {l : OpenLaw} {n : Nat} {q : Program} {loose : List Str} {XP : (Str → Option Value) → Heap → Prop} {YP : World → Heap → Prop} {d : DefRec}
    (hn : l.most = some n) (hdf : d.params.defaults = [])
    (call : ∀ (w : World) (s₀ s₁ : Shared) (mg mb : Str → Option Value) (fa : Addr) (o : Obj) (pm cd doc : Value) (a : Addr) (vs : List Value) (ns : List Int),
      Ground q loose [] XP w s₀ mg mb s₁.heap → YP w s₁.heap →
      s₁.heap.get? fa = some o → o.data = .func (docDef d.name d.params d.body d.scope pm cd doc) → s₁.heap.CodeRec cd d.name → mg d.name = some (.ref fa) →
      s₁.heap.get? a = some { cls := .type "list", data := .seq vs.toArray } → IntsAre vs ns → ns.length ≤ n → s₁.gens = #[] →
      codeAny (model l.prog w) callerA (.call (.ref fa) ⟨[.ref a], []⟩) (fun r s' => r = .ok (.ret (.bool true)) ∧ OldK s₁.heap s'.heap ∧ s'.os = s₁.os ∧ AllBare s'.gens) s₁) :
    WalkO q loose XP YP l.row.toRowW d [] (fun f vs => PySem.call f vs) := by
  intro w s₀ s₁ mg mb G Y fa o pm cd doc dV kV ho hd hcd hD hmg hg args vals as hpre hlay hrd hwl hlo
  obtain rfl : dV = .none := Dflts.none hD hdf
  obtain rfl : kV = .none := Dflts.noKw hD
  obtain ⟨a, vs, ns, rfl, rfl, hobj, hints, hlen⟩ := script_of hn hpre hwl
  refine enter_call (codeAny_mono (call w s₀ s₁ mg mb fa o pm cd doc a vs ns G Y ho (fd_plain hd) hcd hmg hobj hints hlen hg) fun r s' hq => ?_)
  obtain ⟨rfl, h2, h3, h4⟩ := hq
  exact ⟨.inl ⟨.bool true, .bool true, [], rfl, fun _ => rfl, .bool true, post_true l _, fun _ => ⟨List.Pairwise.nil, fun _ hm => (nomatch hm)⟩⟩, h2, h3, h4⟩
section
variable {prog : Program} {w : World} {A : Around} {E : Value → Shared → Prop} {s : Shared} {K : Frag}
end
end Att
namespace L2
open PySem PySem.Spec PyProof.Rows
theorem vals_ints : ∀ {vs : List Value} {ns : List Int}, IntsAre vs ns → Vals (ns.map V.int) vs
  | _, _, .nil => .nil
  | _, _, .cons n t h => .cons ⟨t, rfl⟩ (vals_ints h)
def Only (H : Hp) : Prop := ∀ b, H b = none ∨ ∃ o xs, H b = some (.frz o (.lst xs))
theorem law_call {P : Program} {w : World} {K : PySem.W.Frag} {mg mb : Str → Option Value} {CX : CXT} {k : Nat} {fa a : Addr} {fd : FuncData} {x : Str} {sp : Sp} {s₁ : Shared} {vs : List Value} {ns : List Int}
    (KX : K.In s₁.heap) (hns : s₁.heap.Ns mainGlobals mg) (hb : s₁.heap.Ns builtinsNs mb) (hbb : ∀ x : Str, x ≠ "__name__" → mb x = bootBuiltins x) (hlim : s₁.heap.NoLimit) (hg : s₁.gens = #[])
    (ha : s₁.heap.get? a = some { cls := .type "list", data := .seq vs.toArray }) (hi : IntsAre vs ns) (hl : ns.length ≤ sizeLine) (hr : Room k callerA)
    (F : ∀ base : Heap, K.In base → base.Ns mainGlobals mg → FnOk P w K mg base CX k fa fd [x] sp) (hbind : ∀ (s : Shared) (u : Value), BindsTo s fd ⟨[u], []⟩ [(x, u)])
    (hsp : ∀ H : Hp, Only H → SqL K H a (ns.map V.int) → sp [.ref a] H (fun v _ => v = .bl true) fun _ _ _ => False)
    (hCX : ∀ H e s', CX [] H s₁ (fun _ _ _ => False) e s' → False) :
    codeAny (model P w) callerA (.call (.ref fa) ⟨[.ref a], []⟩) (fun r s' => r = .ok (.ret (.bool true)) ∧ OldK s₁.heap s'.heap ∧ s'.os = s₁.os ∧ AllBare s'.gens) s₁ := by
  have rv := vals_ints hi
  have lenV := hi.length
  have core : ∀ H : Hp, Only H → SqL K H a (ns.map V.int) → HOk P w H s₁.heap → (∀ b, H b ≠ none → b = a) → (H a ≠ none → K.lookup a = none) →
      codeAny (model P w) callerA (.call (.ref fa) ⟨[.ref a], []⟩) (fun r s' => r = .ok (.ret (.bool true)) ∧ OldK s₁.heap s'.heap ∧ s'.os = s₁.os ∧ AllBare s'.gens) s₁ := by
    intro H hO hS hok hA hK
    have base_of : ∀ {b : Addr} {o : Obj}, s₁.heap.get? b = some o → H b = none → (hidT s₁.heap H).get? b = some o := fun e n => hidT_get e n
    have noA : ∀ {b : Addr} {o : Obj} {es : Array DictEntry} {ep : Nat}, s₁.heap.get? b = some o → o.data = .dict es ep → H b = none := fun {b o es ep} e d => by
      cases q : H b with
      | none => rfl
      | some u =>
        have e' : b = a := hA b (by rw [q]; simp)
        subst e'
        rw [ha] at e; cases e
        have d' : Data.seq vs.toArray _ = Data.dict es ep := d
        cases d'
    have nsK : ∀ {b : Addr} {m : Str → Option Value}, s₁.heap.Ns b m → (hidT s₁.heap H).Ns b m := fun {b m} ⟨o, es, ep, e, d, r⟩ => ⟨o, es, ep, base_of e (noA e d), d, r⟩
    have hKb : K.In (hidT s₁.heap H) := fun b o e => base_of (KX b o e) (by
      cases q : H b with
      | none => rfl
      | some u =>
        have e' : b = a := hA b (by rw [q]; simp)
        subst e'
        rw [hK (by rw [q]; simp)] at e; cases e)
    have hM : Mod K mg (hidT s₁.heap H) := ⟨hKb, nsK hns, ⟨mb, nsK hb, hbb⟩, let ⟨mc, h1, h2⟩ := hlim; ⟨mc, nsK h1, h2⟩⟩
    have e0 : Env0 P w K mg (hidT s₁.heap H) callerA [] s₁ H := ⟨rfl, hM, fun b o e => of_hidT e, Nat.le_of_eq (hidT_size _ _), trivial, fun b hb => absurd (show b ∈ ([] : List Addr) from hb) (by simp), hok, .of_eq hg⟩
    refine codeAny_mono ((F _ hKb (nsK hns)).run callerA [] s₁ H ⟨[.ref a], []⟩ [.ref a] [.ref a] _ _ hr e0 (hbind s₁ (.ref a)) (.cons rfl .nil) (hsp H hO hS)) fun r s' h => ?_
    cases r with
    | error e => exact (hCX H e s' h).elim
    | ok fl =>
      cases fl with
      | next => exact False.elim h
      | brk => exact False.elim h
      | cont => exact False.elim h
      | ret u =>
        obtain ⟨v, H', os, bare, un, hok', r', q⟩ := h
        have q' : v = .bl true := q
        subst q'
        obtain rfl : u = Value.bool true := r'
        refine ⟨rfl, OldK.of_keep fun b o e => ?_, os, bare⟩
        cases q : H b with
        | none => exact un.keep b o e q (by intro z; exact absurd (show b ∈ ([] : List Addr) from z) (by simp)) (by simp)
        | some u =>
          rcases hO b with z | ⟨ob, xs, z⟩
          · rw [q] at z; cases z
          · have z2 := un.frzs b ob _ z
            obtain ⟨e1, _⟩ := hok b _ z
            obtain ⟨e2, _⟩ := hok' b _ z2
            rw [e] at e1; cases e1
            exact e2
  cases hk : K.lookup a with
  | some o =>
    have e := KX a o hk
    rw [ha] at e
    cases e
    refine core (fun _ => none) (fun _ => .inl rfl) (.inr ⟨_, vs.toArray, _, hk, rfl, rfl, rfl, by rw [List.size_toArray, lenV]; exact hl, by simpa using rv⟩) (fun b u z => by have z' : (none : Option HO) = some u := z; cases z') (fun b z => absurd rfl z) fun z => absurd rfl z
  | none =>
    refine core (fun b => if b = a then some (.frz { cls := .type "list", data := .seq vs.toArray } (.lst (ns.map V.int))) else none) (fun b => ?_) (.inl (.inr ⟨{ cls := .type "list", data := .seq vs.toArray }, if_pos rfl⟩)) (fun b u z => ?_) (fun b z => ?_) fun _ => hk
    · by_cases hb : b = a
      · exact .inr ⟨_, _, if_pos hb⟩
      · exact .inl (if_neg hb)
    · by_cases hb : b = a
      · have z' := (if_pos hb).symm.trans z
        cases z'
        subst hb
        exact ⟨ha, by rw [List.length_map]; exact hl, vs, _, rv, ha⟩
      · have z' := (if_neg hb).symm.trans z
        cases z'
    · by_cases hb : b = a
      · exact hb
      · exact absurd (if_neg hb) z
end L2
namespace L2
open PySem PySem.Spec PyProof.Rows
theorem walk_of {l : PySem.W.OpenLaw} {n k : Nat} {q : Program} {loose : List Str} {XP : (Str → Option Value) → Heap → Prop} {YP : World → Heap → Prop} {d : DefRec} {K : Params → PySem.W.Frag} {CX : World → CXT} {sp : World → Sp} {x : Str}
    (hn : l.most = some n) (hn2 : n ≤ sizeLine) (hdf : d.params.defaults = []) (hr : Room k callerA)
    (hY : ∀ (w : World) (h : Heap), YP w h → (K w.params).In h)
    (F : ∀ (w : World) (mg : Str → Option Value) (fa : Addr) (h : Heap), (K w.params).In h → h.Ns mainGlobals mg → mg d.name = some (.ref fa) →
      ∃ fd : FuncData, (∀ (s : Shared) (u : Value), BindsTo s fd ⟨[u], []⟩ [(x, u)]) ∧
        ∀ base : Heap, (K w.params).In base → base.Ns mainGlobals mg → FnOk l.prog w (K w.params) mg base (CX w) k fa fd [x] (sp w))
    (hsp : ∀ (w : World) (H : Hp) (a : Addr) (ns : List Int), ns.length ≤ n → Only H → SqL (K w.params) H a (ns.map V.int) → sp w [.ref a] H (fun v _ => v = .bl true) fun _ _ _ => False)
    (hCX : ∀ (w : World) (H : Hp) (s : Shared) (e : Value) (s' : Shared), CX w [] H s (fun _ _ _ => False) e s' → False) :
    PySem.W.WalkO q loose XP YP l.row.toRowW d [] (fun f vs => PySem.call f vs) := by
  refine Att.attach_call hn hdf fun w s₀ s₁ mg mb fa o pm cd doc a vs ns G Y ho hd hcd hmg hobj hints hlen hg => ?_
  have KX := hY w _ Y
  obtain ⟨fd, hb, hF⟩ := F w mg fa _ KX G.T.g hmg
  exact law_call KX G.T.g G.T.b G.T.builtins G.T.nolimit hg hobj hints (Nat.le_trans hlen hn2) hr hF hb (fun H hO hS => hsp w H a ns hlen hO hS) fun H e s' => hCX w H s₁ e s'
end L2
namespace L2
open PySem PySem.Spec PyProof.Rows
def inClass (s : Stmt) (j : Nat) : Stmt := match s with
  | .ClassDef _ _ _ body _ _ _ _ _ _ _ => body.getD j (.Pass ⟨0, 0, 0, 0⟩)
  | _ => .Pass ⟨0, 0, 0, 0⟩
def defArgs (s : Stmt) : Arguments := match s with
  | .FunctionDef _ a _ _ _ _ _ _ _ _ => a
  | _ => { posonlyargs := [], args := [], vararg := none, kwonlyargs := [], kw_defaults := [], kwarg := none, defaults := [] }
def defBody (s : Stmt) : List Stmt := match s with
  | .FunctionDef _ _ b _ _ _ _ _ _ _ => b
  | _ => []
def defScope (s : Stmt) : Scope := match s with
  | .FunctionDef _ _ _ _ _ _ sc _ _ _ => sc
  | _ => { kind := .function, names := [], isGenerator := false, isCoroutine := false }
abbrev CX0 : CXT := fun _ _ _ _ _ _ => False
abbrev E0 : XK := fun _ _ _ => False
theorem pass0 {X : Cx} : Passes CX0 X E0 := fun _ _ _ _ _ _ _ h => h.elim
structure Fun (K : PySem.W.Frag) (x qual : Str) (st : Stmt) (f : Addr) (fd : FuncData) : Prop where
  ex : ∃ (oc : Value) (od : Option Addr) (kV doc pm : Value) (an : Option Addr) (cdv ct : Value) (osl : Array (Option Value)),
    fd = PySem.W.fnOf x qual (defArgs st) (defBody st) (defScope st) .none kV doc pm an cdv ct ∧ K.lookup f = some ⟨oc, od, .func fd, osl⟩ ∧ PySem.W.codeIn K cdv qual = true
  kp : PySem.W.keepIn K (.ref f) = true
section
variable {P : Program} {w : World} {K : PySem.W.Frag} {mg : Str → Option Value} {base : Heap}
theorem Fun.ok {x qual : Str} {st : Stmt} {f : Addr} {fd : FuncData} {N ps : List Str} {k : Nat} {sp : Sp} (F : Fun K x qual st f fd) (S : FnScope N ps (defScope st)) (len : ∀ vs H Q E, sp vs H Q E → vs.length = ps.length)
    (hbody : ∀ (cdv : Value) (A : Around) (outer : List Env) (s : Shared) (H : Hp) (vs : List V) (Q : VK) (E : XK), Room k (A.deeper (envOfC qual (defScope st) s.heap.objs.size f cdv)) → sp vs H Q E →
      ∃ t, PSs (cxOf CX0 P w K mg base N qual (defScope st) f cdv A outer s H E).nox (defBody st) t ∧ t { nx := fun _ H' => Q .non H', rt := Q } (start N vs) H) : FnOk P w K mg base CX0 (k + 1) f fd ps sp := by
  obtain ⟨oc, od, kV, doc, pm, an, cdv, ct, osl, rfl, lk, hcd⟩ := F.ex
  refine fn_of lk hcd S len fun A outer s H vs Q E hr hsp => ?_
  obtain ⟨t, h, q⟩ := hbody cdv A outer s H vs Q E hr hsp
  exact ⟨t, h.nox, q⟩
theorem Fun.binds {x qual : Str} {st : Stmt} {f : Addr} {fd : FuncData} {ps : List Str} (F : Fun K x qual st f fd)
    (h : ∀ (kV doc pm : Value) (an : Option Addr) (cdv ct : Value) (us : List Value), us.length = ps.length → bindArgs (PySem.W.fnOf x qual (defArgs st) (defBody st) (defScope st) .none kV doc pm an cdv ct) ⟨us, []⟩ = pure (ps.zip us)) : Binds K fd ps [] := by
  obtain ⟨oc, od, kV, doc, pm, an, cdv, ct, osl, rfl, lk, hcd⟩ := F.ex
  exact .all (h kV doc pm an cdv ct)
theorem fun_mk {x qual : Str} {st : Stmt} {f : Addr} {oc : Value} {od an : Option Addr} {osl : Array (Option Value)} {kV doc pm cdv ct : Value} (l : K.lookup f = some ⟨oc, od, .func (PySem.W.fnOf x qual (defArgs st) (defBody st) (defScope st) .none kV doc pm an cdv ct), osl⟩)
    (c : PySem.W.codeIn K cdv qual = true) (k : PySem.W.keepIn K (.ref f) = true) : Fun K x qual st f (PySem.W.fnOf x qual (defArgs st) (defBody st) (defScope st) .none kV doc pm an cdv ct) := ⟨⟨oc, od, kV, doc, pm, an, cdv, ct, osl, rfl, l, c⟩, k⟩
end
section
variable {X : Cx}
end
theorem iteF {A B : Prop} (h : B) : if false = true then A else B := by
  rw [if_neg Bool.false_ne_true]
  exact h
theorem iteT {A B : Prop} (h : A) : if true = true then A else B := by
  rw [if_pos rfl]
  exact h
def Same (H H' : Hp) : Prop := ∀ b o, H b = some o → H' b = some o
theorem Same.refl (H : Hp) : Same H H := fun _ _ h => h
theorem Same.trans {H H1 H2 : Hp} (a : Same H H1) (b : Same H1 H2) : Same H H2 := fun c o h => b c o (a c o h)
theorem Same.free {H H' : Hp} (e : Same H H') {l : Addr} (h : H' l = Option.none) : H l = Option.none := by
  cases q : H l with
  | none => rfl
  | some o =>
    rw [e l o q] at h
    cases h
theorem Same.seq {K : PySem.W.Frag} {H H' : Hp} {a : Addr} {xs : List V} (e : Same H H') (h : SqL K H a xs) : SqL K H' a xs := by
  rcases h with (h | ⟨o, h⟩) | h
  · exact .inl (.inl (e _ _ h))
  · exact .inl (.inr ⟨o, e _ _ h⟩)
  · exact .inr h
end L2
namespace L2
open PySem PySem.Spec PyProof.Rows
section
variable {X : Cx}
end
section
variable {κ : Type} [DecidableEq κ]
end
end L2
end
namespace R
open PySem PySem.Spec PyProof.Rows L2
inductive RV where
  | non | bl (b : Bool) | int (i : Int) | str (x : Str) | ref (a : Addr) | ty (n : String)
  | tup (xs : List RV) | ls (xs : List RV)
def Fz (K : PySem.W.Frag) (H : Hp) (a : Addr) (vs : List V) : Prop :=
  (∃ o, H a = some (.frz o (.lst vs))) ∨
    ∃ (o : Obj) (its : Array Value) (n : Nat), K.lookup a = some o ∧ o.cls = .type "list" ∧ o.dict = Option.none ∧ o.data = .seq its n ∧ its.size ≤ sizeLine ∧ Vals vs its.toList
theorem Fz.sq {K : PySem.W.Frag} {H : Hp} {a : Addr} {vs : List V} (h : Fz K H a vs) : SqL K H a vs := by
  rcases h with ⟨o, h⟩ | h
  · exact .inl (.inr ⟨o, h⟩)
  · exact .inr h
mutual
def Rep (K : PySem.W.Frag) (H : Hp) : RV → V → Prop
  | .non, v => v = .non
  | .bl b, v => v = .bl b
  | .int i, v => v = .int i
  | .str x, v => v = .str x
  | .ref a, v => v = .ref a
  | .ty n, v => v = .ty n
  | .tup xs, v => ∃ a vs, v = .ref a ∧ SqT K H a vs ∧ Reps K H xs vs
  | .ls xs, v => ∃ a vs, v = .ref a ∧ Fz K H a vs ∧ Reps K H xs vs
def Reps (K : PySem.W.Frag) (H : Hp) : List RV → List V → Prop
  | [], vs => vs = []
  | x :: xs, vs => ∃ v r, vs = v :: r ∧ Rep K H x v ∧ Reps K H xs r
end
structure Ext (H H' : Hp) : Prop where
  tups : ∀ b xs, H b = some (.tup xs) → H' b = some (.tup xs)
  frzs : ∀ b o u, H b = some (.frz o u) → H' b = some (.frz o u)
theorem Ext.refl (H : Hp) : Ext H H := ⟨fun _ _ h => h, fun _ _ _ h => h⟩
theorem Ext.trans {H H1 H2 : Hp} (a : Ext H H1) (b : Ext H1 H2) : Ext H H2 := ⟨fun c x h => b.tups c x (a.tups c x h), fun c o x h => b.frzs c o x (a.frzs c o x h)⟩
theorem Ext.new {H : Hp} {p : Addr} {o : HO} (h : H p = none) : Ext H (upd H p o) :=
  ⟨fun b xs e => by rw [upd_ne (ne_of_none e h)]; exact e, fun b o xs e => by rw [upd_ne (ne_of_none e h)]; exact e⟩
def Soft : HO → Bool
  | .tup _ => false
  | .frz _ _ => false
  | _ => true
theorem Ext.write {H : Hp} {p : Addr} {o o' : HO} (h : H p = some o) (s : Soft o = true) : Ext H (upd H p o') := by
  refine ⟨fun b xs e => ?_, fun b ob xs e => ?_⟩
  · have n : b ≠ p := by rintro rfl; rw [h] at e; cases e; cases s
    rw [upd_ne n]; exact e
  · have n : b ≠ p := by rintro rfl; rw [h] at e; cases e; cases s
    rw [upd_ne n]; exact e
theorem SqT.ext {K : PySem.W.Frag} {H H' : Hp} {a : Addr} {vs : List V} (e : Ext H H') (h : SqT K H a vs) : SqT K H' a vs := by
  rcases h with (h | ⟨o, h⟩) | h
  · exact .inl (.inl (e.tups _ _ h))
  · exact .inl (.inr ⟨o, e.frzs _ _ _ h⟩)
  · exact .inr h
theorem Fz.ext {K : PySem.W.Frag} {H H' : Hp} {a : Addr} {vs : List V} (e : Ext H H') (h : Fz K H a vs) : Fz K H' a vs := by
  rcases h with ⟨o, h⟩ | h
  · exact .inl ⟨o, e.frzs _ _ _ h⟩
  · exact .inr h
mutual
theorem Rep.ext {K : PySem.W.Frag} {H H' : Hp} (e : Ext H H') : ∀ (r : RV) (v : V), Rep K H r v → Rep K H' r v
  | .non, v, h => by simpa only [Rep] using h
  | .bl _, v, h => by simpa only [Rep] using h
  | .int _, v, h => by simpa only [Rep] using h
  | .str _, v, h => by simpa only [Rep] using h
  | .ref _, v, h => by simpa only [Rep] using h
  | .ty _, v, h => by simpa only [Rep] using h
  | .tup xs, v, h => by
    simp only [Rep] at h ⊢
    obtain ⟨a, vs, e1, h1, h2⟩ := h
    exact ⟨a, vs, e1, SqT.ext e h1, Reps.ext e xs vs h2⟩
  | .ls xs, v, h => by
    simp only [Rep] at h ⊢
    obtain ⟨a, vs, e1, h1, h2⟩ := h
    exact ⟨a, vs, e1, h1.ext e, Reps.ext e xs vs h2⟩
theorem Reps.ext {K : PySem.W.Frag} {H H' : Hp} (e : Ext H H') : ∀ (rs : List RV) (vs : List V), Reps K H rs vs → Reps K H' rs vs
  | [], vs, h => by simpa only [Reps] using h
  | x :: xs, vs, h => by
    simp only [Reps] at h ⊢
    obtain ⟨v, r, e1, h1, h2⟩ := h
    exact ⟨v, r, e1, Rep.ext e x v h1, Reps.ext e xs r h2⟩
end
section
variable {K : PySem.W.Frag} {H : Hp}
theorem Reps.cons {x : RV} {xs : List RV} {v : V} {vs : List V} (h : Rep K H x v) (t : Reps K H xs vs) : Reps K H (x :: xs) (v :: vs) := by
  simp only [Reps]; exact ⟨v, vs, rfl, h, t⟩
theorem Reps.nil : Reps K H [] [] := by simp only [Reps]
theorem Reps.length : ∀ {xs : List RV} {vs : List V}, Reps K H xs vs → xs.length = vs.length
  | [], vs, h => by simp only [Reps] at h; subst h; rfl
  | x :: xs, vs, h => by
    simp only [Reps] at h
    obtain ⟨v, r, rfl, _, t⟩ := h
    simp [Reps.length t]
theorem Reps.get : ∀ {xs : List RV} {vs : List V} {i : Nat} {x : RV}, Reps K H xs vs → xs[i]? = some x → ∃ v, vs[i]? = some v ∧ Rep K H x v
  | [], _, _, _, _, e => by simp at e
  | y :: xs, vs, 0, x, h, e => by
    simp only [Reps] at h
    obtain ⟨v, r, rfl, h1, _⟩ := h
    simp at e; subst e
    exact ⟨v, by simp, h1⟩
  | y :: xs, vs, i + 1, x, h, e => by
    simp only [Reps] at h
    obtain ⟨v, r, rfl, _, t⟩ := h
    obtain ⟨u, h1, h2⟩ := Reps.get (i := i) t (by simpa using e)
    exact ⟨u, by simpa using h1, h2⟩
theorem Reps.append : ∀ {xs ys : List RV} {vs ws : List V}, Reps K H xs vs → Reps K H ys ws → Reps K H (xs ++ ys) (vs ++ ws)
  | [], _, vs, _, h, t => by simp only [Reps] at h; subst h; simpa using t
  | x :: xs, ys, vs, ws, h, t => by
    simp only [Reps] at h
    obtain ⟨v, r, rfl, h1, h2⟩ := h
    exact Reps.cons h1 (Reps.append h2 t)
theorem Reps.take : ∀ {xs : List RV} {vs : List V} (n : Nat), Reps K H xs vs → Reps K H (xs.take n) (vs.take n)
  | _, _, 0, _ => by simpa using Reps.nil
  | [], vs, n + 1, h => by simp only [Reps] at h; subst h; simpa using Reps.nil
  | x :: xs, vs, n + 1, h => by
    simp only [Reps] at h
    obtain ⟨v, r, rfl, h1, h2⟩ := h
    exact Reps.cons h1 (Reps.take n h2)
theorem Reps.drop : ∀ {xs : List RV} {vs : List V} (n : Nat), Reps K H xs vs → Reps K H (xs.drop n) (vs.drop n)
  | _, _, 0, h => by simpa using h
  | [], vs, n + 1, h => by simp only [Reps] at h; subst h; simpa using Reps.nil
  | x :: xs, vs, n + 1, h => by
    simp only [Reps] at h
    obtain ⟨v, r, rfl, h1, h2⟩ := h
    exact Reps.drop n h2
theorem Reps.set {x : RV} {v : V} (hx : Rep K H x v) : ∀ {xs : List RV} {vs : List V} (i : Nat), Reps K H xs vs → Reps K H (xs.set i x) (vs.set i v)
  | [], vs, i, h => by simp only [Reps] at h; subst h; simpa using Reps.nil
  | y :: xs, vs, 0, h => by
    simp only [Reps] at h
    obtain ⟨w, r, rfl, h1, h2⟩ := h
    exact Reps.cons hx h2
  | y :: xs, vs, i + 1, h => by
    simp only [Reps] at h
    obtain ⟨w, r, rfl, h1, h2⟩ := h
    exact Reps.cons h1 (Reps.set hx i h2)
theorem Reps.atI {xs : List RV} {vs : List V} {i : Int} {x : RV} (h : Reps K H xs vs) (e : L2.atI xs i = some x) : ∃ v, L2.atI vs i = some v ∧ Rep K H x v := by
  unfold L2.atI at e ⊢
  rw [← h.length]
  cases q : ixN xs.length i with
  | none => rw [q] at e; cases e
  | some j => rw [q] at e; exact h.get (by simpa using e)
end
inductive RO where
  | lst (xs : List RV)
  | dk (kvs : List (Key × RV))
  | ins (C : Addr) (fs : List (Str × RV))
abbrev RM := Addr → Option RO
def put (M : RM) (a : Addr) (o : RO) : RM := fun b => if b = a then some o else M b
theorem put_same {M : RM} {a : Addr} {o : RO} : put M a o a = some o := by unfold put; rw [if_pos rfl]
theorem put_ne {M : RM} {a b : Addr} {o : RO} (h : b ≠ a) : put M a o b = M b := by unfold put; rw [if_neg h]
theorem put_put {M : RM} {a : Addr} {o o' : RO} : put (put M a o) a o' = put M a o' := by
  funext b; unfold put; split <;> rfl
def RepP {κ : Type} (K : PySem.W.Frag) (H : Hp) : List (κ × RV) → List (κ × V) → Prop
  | [], ws => ws = []
  | (k, x) :: r, ws => ∃ v t, ws = (k, v) :: t ∧ Rep K H x v ∧ RepP K H r t
theorem RepP.ext {κ : Type} {K : PySem.W.Frag} {H H' : Hp} (e : Ext H H') : ∀ {xs : List (κ × RV)} {ws : List (κ × V)}, RepP K H xs ws → RepP K H' xs ws
  | [], _, h => h
  | (k, x) :: r, ws, h => by
    obtain ⟨v, t, e1, h1, h2⟩ := h
    exact ⟨v, t, e1, Rep.ext e x v h1, RepP.ext e h2⟩
def RepO (K : PySem.W.Frag) (H : Hp) : RO → HO → Prop
  | .lst xs, o => ∃ vs, o = .lst vs ∧ Reps K H xs vs
  | .dk kvs, o => ∃ ws, o = .dK ws ∧ RepP K H kvs ws
  | .ins C fs, o => ∃ dx gs, o = .ins C dx gs ∧ RepP K H fs gs
theorem RepO.ext {K : PySem.W.Frag} {H H' : Hp} (e : Ext H H') : ∀ {o : RO} {ho : HO}, RepO K H o ho → RepO K H' o ho
  | .lst xs, _, h => by obtain ⟨vs, e1, h1⟩ := h; exact ⟨vs, e1, Reps.ext e xs vs h1⟩
  | .dk _, _, h => by obtain ⟨ws, e1, h1⟩ := h; exact ⟨ws, e1, h1.ext e⟩
  | .ins _ _, _, h => by obtain ⟨dx, gs, e1, h1⟩ := h; exact ⟨dx, gs, e1, h1.ext e⟩
theorem RepO.soft {K : PySem.W.Frag} {H : Hp} : ∀ {o : RO} {ho : HO}, RepO K H o ho → Soft ho = true
  | .lst _, _, h => by obtain ⟨_, rfl, _⟩ := h; rfl
  | .dk _, _, h => by obtain ⟨_, rfl, _⟩ := h; rfl
  | .ins _ _, _, h => by obtain ⟨_, _, rfl, _⟩ := h; rfl
def View (K : PySem.W.Frag) (H : Hp) (M : RM) : Prop := ∀ a o, M a = some o → ∃ ho, H a = some ho ∧ RepO K H o ho
section
variable {K : PySem.W.Frag} {H H' : Hp} {M : RM} {p : Addr} {ho : HO} {o : RO}
theorem View.free (w : View K H M) (h : H p = none) : M p = none := by
  cases q : M p with
  | none => rfl
  | some o => obtain ⟨ho, e, _⟩ := w p o q; rw [h] at e; cases e
theorem View.new (w : View K H M) (h : H p = none) : View K (upd H p ho) M := fun a o e => by
  obtain ⟨ho', e1, r⟩ := w a o e
  exact ⟨ho', by rw [upd_ne (ne_of_none e1 h)]; exact e1, r.ext (Ext.new h)⟩
theorem View.newPut (w : View K H M) (h : H p = none) (r : RepO K (upd H p ho) o ho) : View K (upd H p ho) (put M p o) := fun a o' e => by
  by_cases ha : a = p
  · subst ha; rw [put_same] at e; cases e; exact ⟨ho, upd_same, r⟩
  · rw [put_ne ha] at e; exact w.new h a o' e
theorem View.write {o' : RO} (w : View K H M) (h : M p = some o') (r : RepO K (upd H p ho) o ho) : View K (upd H p ho) (put M p o) := fun a o'' e => by
  by_cases ha : a = p
  · subst ha; rw [put_same] at e; cases e; exact ⟨ho, upd_same, r⟩
  · rw [put_ne ha] at e
    obtain ⟨ho', e1, r1⟩ := w a o'' e
    obtain ⟨hp, e2, r2⟩ := w p o' h
    exact ⟨ho', by rw [upd_ne ha]; exact e1, r1.ext (Ext.write e2 r2.soft)⟩
end
abbrev RSt := List (Option RV)
abbrev RVK := RV → RM → Prop
abbrev RTE := RSt → RM → RVK → Prop
abbrev RTT := RSt → RM → (Bool → RM → Prop) → Prop
abbrev RTA := RSt → RM → (List RV → RM → Prop) → Prop
def RepSt (K : PySem.W.Frag) (H : Hp) (σ : RSt) (σ0 : L2.St) : Prop := σ.length = σ0.length ∧ ∀ (i : Nat) r, σ[i]? = some (some r) → ∃ v, σ0[i]? = some (some v) ∧ Rep K H r v
theorem RepSt.ext {K : PySem.W.Frag} {H H' : Hp} {σ : RSt} {σ0 : L2.St} (h : RepSt K H σ σ0) (e : Ext H H') : RepSt K H' σ σ0 :=
  ⟨h.1, fun i r q => by obtain ⟨v, e1, h1⟩ := h.2 i r q; exact ⟨v, e1, Rep.ext e r v h1⟩⟩
theorem RepSt.set {K : PySem.W.Frag} {H : Hp} {σ : RSt} {σ0 : L2.St} {r : RV} {v : V} (h : RepSt K H σ σ0) (hr : Rep K H r v) (i : Nat) : RepSt K H (σ.set i (some r)) (σ0.set i (some v)) := by
  refine ⟨by simp [h.1], fun j r' q => ?_⟩
  by_cases hj : i = j
  · subst hj
    rw [List.getElem?_set] at q
    split at q
    · split at q
      · cases q; rename_i hl _ ; exact ⟨v, by rw [List.getElem?_set_self (by rw [← h.1]; assumption)], hr⟩
      · cases q
    · rename_i z; exact absurd rfl z
  · rw [List.getElem?_set_ne hj] at q
    obtain ⟨w, e1, h1⟩ := h.2 j r' q
    exact ⟨w, by rw [List.getElem?_set_ne hj]; exact e1, h1⟩
def UpK (K : PySem.W.Frag) (H : Hp) (Q : RVK) (Q0 : VK) : Prop := ∀ rv M' v H', Q rv M' → Ext H H' → View K H' M' → Rep K H' rv v → Q0 v H'
theorem UpK.ext {K : PySem.W.Frag} {H H' : Hp} {Q : RVK} {Q0 : VK} (h : UpK K H Q Q0) (e : Ext H H') : UpK K H' Q Q0 := fun rv M' v H2 q e2 w r => h rv M' v H2 q (e.trans e2) w r
def up (K : PySem.W.Frag) (t : RTE) : TE := fun σ0 H Q0 => ∃ σ M Q, RepSt K H σ σ0 ∧ View K H M ∧ t σ M Q ∧ UpK K H Q Q0
def upT (K : PySem.W.Frag) (t : RTT) : TT := fun σ0 H Q0 => ∃ σ M Q, RepSt K H σ σ0 ∧ View K H M ∧ t σ M Q ∧ ∀ b M' H', Q b M' → Ext H H' → View K H' M' → Q0 b H'
def upA (K : PySem.W.Frag) (t : RTA) : TA := fun σ0 H Q0 => ∃ σ M Q, RepSt K H σ σ0 ∧ View K H M ∧ t σ M Q ∧ ∀ rs M' vs H', Q rs M' → Ext H H' → View K H' M' → Reps K H' rs vs → Q0 vs H'
structure RD where
  nx : RSt → RM → Prop
  rt : RVK
  bk : RSt → RM → Prop := fun _ _ => False
  ct : RSt → RM → Prop := fun _ _ => False
abbrev RTS := RD → RSt → RM → Prop
def UpS (K : PySem.W.Frag) (H : Hp) (q : RSt → RM → Prop) (q0 : L2.St → Hp → Prop) : Prop := ∀ σ M σ0 H', q σ M → Ext H H' → View K H' M → RepSt K H' σ σ0 → q0 σ0 H'
theorem UpS.ext {K : PySem.W.Frag} {H H' : Hp} {Q : RSt → RM → Prop} {Q0 : L2.St → Hp → Prop} (h : UpS K H Q Q0) (e : Ext H H') : UpS K H' Q Q0 := fun σ M σ0 H2 q e2 w r => h σ M σ0 H2 q (e.trans e2) w r
structure UpD (K : PySem.W.Frag) (H : Hp) (D : RD) (D0 : Ends) : Prop where
  nx : UpS K H D.nx D0.nx
  rt : UpK K H D.rt D0.rt
  bk : UpS K H D.bk D0.bk
  ct : UpS K H D.ct D0.ct
theorem UpD.ext {K : PySem.W.Frag} {H H' : Hp} {D : RD} {D0 : Ends} (h : UpD K H D D0) (e : Ext H H') : UpD K H' D D0 := ⟨h.nx.ext e, h.rt.ext e, h.bk.ext e, h.ct.ext e⟩
def upS (K : PySem.W.Frag) (t : RTS) : TS := fun D0 σ0 H => ∃ σ M D, RepSt K H σ σ0 ∧ View K H M ∧ t D σ M ∧ UpD K H D D0
def RPE (X : Cx) (e : Expr) (t : RTE) : Prop := PE X e (up X.K t)
def RPT (X : Cx) (e : Expr) (t : RTT) : Prop := PT X e (upT X.K t)
def RPW (X : Cx) (e : Expr) (t : RTT) : Prop := PW X e (upT X.K t)
def RPA (X : Cx) (es : List Expr) (t : RTA) : Prop := PA X es (upA X.K t)
def RPS (X : Cx) (s : Stmt) (t : RTS) : Prop := PS X s (upS X.K t)
def RPSs (X : Cx) (s : List Stmt) (t : RTS) : Prop := PSs X s (upS X.K t)
section
variable {X : Cx}
theorem PE.imp {e : Expr} {t t' : TE} (h : PE X e t) (i : ∀ σ H Q, t' σ H Q → t σ H Q) : PE X e t' := fun pins s σ H Q I w => h pins s σ H Q I (i σ H Q w)
theorem PT.imp {e : Expr} {t t' : TT} (h : PT X e t) (i : ∀ σ H Q, t' σ H Q → t σ H Q) : PT X e t' := fun pins s σ H Q I w => h pins s σ H Q I (i σ H Q w)
theorem PW.imp {e : Expr} {t t' : TT} (h : PW X e t) (i : ∀ σ H Q, t' σ H Q → t σ H Q) : PW X e t' := fun wh pins s σ H Q I w => h wh pins s σ H Q I (i σ H Q w)
theorem PA.imp {e : List Expr} {t t' : TA} (h : PA X e t) (i : ∀ σ H Q, t' σ H Q → t σ H Q) : PA X e t' := fun pos pins s σ H Q I w => h pos pins s σ H Q I (i σ H Q w)
theorem PS.imp {e : Stmt} {t t' : TS} (h : PS X e t) (i : ∀ D σ H, t' D σ H → t D σ H) : PS X e t' := fun pins s σ H D I w => h pins s σ H D I (i D σ H w)
theorem PSs.imp {e : List Stmt} {t t' : TS} (h : PSs X e t) (i : ∀ D σ H, t' D σ H → t D σ H) : PSs X e t' := fun pins s σ H D I w => h pins s σ H D I (i D σ H w)
end
end R
namespace R
open PySem PySem.Spec PyProof.Rows L2
section
variable {X : Cx} {a b c : Expr} {ta tb tc : RTE} {tA tB : RTT} {pos : Pos} {rest : List Expr}
def rVar (i : Nat) : RTE := fun σ M Q => match σ[i]? with | some (some v) => Q v M | _ => False
def rC (v : RV) : RTE := fun _ M Q => Q v M
theorem rv (i : Nat) {x : Str} {pos : Pos} (hN : X.N[i]? = some x := by rfl) (hv : Vis X.env.scope x := by first | exact Or.inl rfl | exact Or.inr (Or.inl rfl) | exact Or.inr (Or.inr rfl)) (hd : (x == ("__debug__" : Str)) = false := by decide)
    (hcd : (x == ("__classdict__" : Str)) = false := by decide) : RPE X (.Name x pos) (rVar i) := PE.imp (pe_var hN hv hd hcd) fun σ0 H Q h => by
  obtain ⟨σ, M, Qr, hs, hv, ht, hk⟩ := h
  unfold rVar at ht
  split at ht
  · rename_i r e
    obtain ⟨v, e1, h1⟩ := hs.2 i r e
    exact ⟨v, e1, hk r M v H ht (.refl H) hv h1⟩
  · exact ht.elim
theorem rconst {e : Expr} {v : V} {r : RV} (h : PE X e (tC v)) (hr : ∀ H, Rep X.K H r v) : RPE X e (rC r) := PE.imp h fun σ0 H Q h => by
  obtain ⟨σ, M, Qr, hs, hv, ht, hk⟩ := h
  exact hk r M v H ht (.refl H) hv (hr H)
theorem ri {i j pos} : RPE X (.Constant (.int i) j pos) (rC (.int i)) := rconst pe_int fun H => by simp only [Rep]
theorem rb {b j pos} : RPE X (.Constant (.bool b) j pos) (rC (.bl b)) := rconst pe_bl fun H => by simp only [Rep]
theorem rn {j pos} : RPE X (.Constant .none j pos) (rC .non) := rconst pe_non fun H => by simp only [Rep]
theorem rs {x j pos} : RPE X (.Constant (.str x) j pos) (rC (.str x)) := rconst pe_str fun H => by simp only [Rep]
theorem rglob {x : Str} {v : V} {r : RV} {u : Value} {pos : Pos} (hm : X.mg x = some u) (rl : RelV v u) (hr : ∀ H, Rep X.K H r v) (hg : Gl X x := by rfl) (hd : (x == ("__debug__" : Str)) = false := by decide) : RPE X (.Name x pos) (rC r) :=
  rconst (pe_glob hg hm rl hd) hr
theorem rbltn {x : Str} {v : V} {r : RV} {u : Value} {pos : Pos} (hm : X.mg x = none) (hv : bootBuiltins x = some u) (rl : RelV v u) (hr : ∀ H, Rep X.K H r v) (hg : Gl X x := by rfl) (hn : x ≠ "__name__" := by decide) (hd : (x == ("__debug__" : Str)) = false := by decide) : RPE X (.Name x pos) (rC r) :=
  rconst (pe_bltn hg hm hv rl hn hd) hr
abbrev RR2 := RV → RV → RM → RVK → Prop
def upO (K : PySem.W.Frag) (rr : RR2) : R2 := fun x y H Q0 => ∃ rx ry M Q, Rep K H rx x ∧ Rep K H ry y ∧ View K H M ∧ rr rx ry M Q ∧ UpK K H Q Q0
def ROp (X : Cx) (f : Value → Value → Sem Value) (rr : RR2) : Prop := OpR X f (upO X.K rr)
def rOp (rr : RR2) (ta tb : RTE) : RTE := fun σ M Q => ta σ M fun x M1 => tb σ M1 fun y M2 => rr x y M2 Q
theorem rop_imp {K : PySem.W.Frag} {rr : RR2} {σ0 : L2.St} {H : Hp} {Q0 : VK} (h : up K (rOp rr ta tb) σ0 H Q0) : tOp (upO K rr) (up K ta) (up K tb) σ0 H Q0 := by
  obtain ⟨σ, M, Q, hs, hv, ht, hk⟩ := h
  refine ⟨σ, M, _, hs, hv, ht, fun rx M1 x H1 hb e1 v1 r1 => ?_⟩
  refine ⟨σ, M1, _, hs.ext e1, v1, hb, fun ry M2 y H2 hr e2 v2 r2 => ?_⟩
  exact ⟨rx, ry, M2, Q, Rep.ext e2 rx x r1, r2, v2, hr, hk.ext (e1.trans e2)⟩
theorem rop {op : Operator} {rr : RR2} (ho : ROp X (binaryOp op) rr) (ha : RPE X a ta) (hb : RPE X b tb) : RPE X (.BinOp a op b pos) (rOp rr ta tb) := PE.imp (pe_op ho ha hb) fun _ _ _ h => rop_imp h
theorem rcmp {op : CmpOp} {rr : RR2} (ho : ROp X (compareOp op) rr) (ha : RPE X a ta) (hb : RPE X b tb) (hm : behindInMarks op b = false := by first | exact nomark _ | (with_unfolding_all rfl)) : RPE X (.Compare a [op] [b] pos) (rOp rr ta tb) :=
  PE.imp (pe_cmpR ho ha hb hm) fun _ _ _ h => rop_imp h
def rTest (t : RTE) : RTT := fun σ M Q => t σ M fun v M' => match v with | .bl k => Q k M' | _ => False
theorem test_up {K : PySem.W.Frag} {H : Hp} {Q : Bool → RM → Prop} {Q0 : Bool → Hp → Prop} (hk : ∀ b M' H', Q b M' → Ext H H' → View K H' M' → Q0 b H') :
    UpK K H (fun v M' => match v with | .bl k => Q k M' | _ => False) (fun x H' => ∃ k, x = .bl k ∧ Q0 k H') := fun rv M' v H' q e w r => by
  cases rv with
  | bl k => simp only [Rep] at r; exact ⟨k, r, hk k M' H' q e w⟩
  | _ => exact q.elim
theorem rtcmp {op : CmpOp} {rr : RR2} (ho : ROp X (compareOp op) rr) (ha : RPE X a ta) (hb : RPE X b tb) (hm : behindInMarks op b = false := by first | exact nomark _ | (with_unfolding_all rfl)) : RPT X (.Compare a [op] [b] pos) (rTest (rOp rr ta tb)) :=
  PT.imp (pt_cmpR ho ha hb hm) fun σ0 H Q0 h => by
    obtain ⟨σ, M, Q, hs, hv, ht, hk⟩ := h
    exact rop_imp ⟨σ, M, _, hs, hv, ht, test_up hk⟩
theorem rtval {e : Expr} {t : RTE} (h : RPE X e t) (he : ∀ whole, isTrue e X.env whole = (do let v ← whole; standAt e.pos; holding [v] (truthy v)) := by intro _; rfl) : RPT X e (rTest t) :=
  PT.imp (pt_val h he) fun σ0 H Q0 h => by
    obtain ⟨σ, M, Q, hs, hv, ht, hk⟩ := h
    exact ⟨σ, M, _, hs, hv, ht, test_up hk⟩
def rChain (rr rr' : RR2) (ta tb tc : RTE) : RTE := fun σ M Q => ta σ M fun x M1 => tb σ M1 fun y M2 => rr x y M2 fun z M3 => match z with
  | .bl k => (k = true → tc σ M3 fun w M4 => rr' y w M4 Q) ∧ (k = false → Q (.bl false) M3)
  | _ => False
theorem chain_imp {K : PySem.W.Frag} {rr rr' : RR2} {σ0 : L2.St} {H : Hp} {Q0 : VK} (h : up K (rChain rr rr' ta tb tc) σ0 H Q0) : tChain (upO K rr) (upO K rr') (up K ta) (up K tb) (up K tc) σ0 H Q0 := by
  obtain ⟨σ, M, Q, hs, hv, ht, hk⟩ := h
  refine ⟨σ, M, _, hs, hv, ht, fun rx M1 x H1 hb e1 v1 r1 => ?_⟩
  refine ⟨σ, M1, _, hs.ext e1, v1, hb, fun ry M2 y H2 hr e2 v2 r2 => ?_⟩
  refine ⟨rx, ry, M2, _, Rep.ext e2 rx x r1, r2, v2, hr, fun rz M3 z H3 hz e3 v3 r3 => ?_⟩
  cases rz with
  | bl k =>
    simp only [Rep] at r3
    refine ⟨k, r3, ?_⟩
    have e13 := (e1.trans e2).trans e3
    cases k with
    | true =>
      refine iteT ?_
      refine ⟨σ, M3, _, hs.ext e13, v3, hz.1 rfl, fun rw M4 w H4 hw e4 v4 r4 => ?_⟩
      exact ⟨ry, rw, M4, Q, Rep.ext (e3.trans e4) ry y r2, r4, v4, hw, hk.ext (e13.trans e4)⟩
    | false => exact iteF (hk _ M3 _ H3 (hz.2 rfl) e13 v3 (by simp only [Rep]))
  | _ => exact hz.elim
theorem rchain {op op' : CmpOp} {rr rr' : RR2} (ho : ROp X (compareOp op) rr) (ho' : ROp X (compareOp op') rr') (ha : RPE X a ta) (hb : RPE X b tb) (hc : RPE X c tc) (hm : lastMarks [op, op'] [b, c] = false := by with_unfolding_all rfl) :
    RPE X (.Compare a [op, op'] [b, c] pos) (rChain rr rr' ta tb tc) := PE.imp (pe_chain ho ho' ha hb hc hm) fun _ _ _ h => chain_imp h
def rUn (g : RV → RM → RVK → Prop) (ta : RTE) : RTE := fun σ M Q => ta σ M fun x M1 => g x M1 Q
def upU (K : PySem.W.Frag) (g : RV → RM → RVK → Prop) : V → Hp → VK → Prop := fun x H Q0 => ∃ rx M Q, Rep K H rx x ∧ View K H M ∧ g rx M Q ∧ UpK K H Q Q0
theorem run_imp {K : PySem.W.Frag} {g : RV → RM → RVK → Prop} {σ0 : L2.St} {H : Hp} {Q0 : VK} (h : up K (rUn g ta) σ0 H Q0) : tUn (upU K g) (up K ta) σ0 H Q0 := by
  obtain ⟨σ, M, Q, hs, hv, ht, hk⟩ := h
  exact ⟨σ, M, _, hs, hv, ht, fun rx M1 x H1 hb e1 v1 r1 => ⟨rx, M1, Q, r1, v1, hb, hk.ext e1⟩⟩
theorem run {op : UnaryOp} {g : RV → RM → RVK → Prop} (ho : UnR X (unaryOp op) (upU X.K g)) (ha : RPE X a ta) : RPE X (.UnaryOp op a pos) (rUn g ta) := PE.imp (pe_un ho ha) fun _ _ _ h => run_imp h
def rAnd (t u : RTT) : RTT := fun σ M Q => t σ M fun c M1 => (c = true → u σ M1 Q) ∧ (c = false → Q false M1)
def rOr (t u : RTT) : RTT := fun σ M Q => t σ M fun c M1 => (c = true → Q true M1) ∧ (c = false → u σ M1 Q)
def rNot (t : RTT) : RTT := fun σ M Q => t σ M fun c M1 => Q (!c) M1
theorem rand1 (ha : RPT X a tA) : RPW X (.BoolOp .And [a] pos) tA := pw_and1 ha
theorem ror1 (ha : RPT X a tA) : RPW X (.BoolOp .Or [a] pos) tA := pw_or1 ha
theorem rand (ha : RPT X a tA) (hb : RPW X (.BoolOp .And (b :: rest) pos) tB) : RPW X (.BoolOp .And (a :: b :: rest) pos) (rAnd tA tB) := PW.imp (pw_and ha hb) fun σ0 H Q0 h => by
  obtain ⟨σ, M, Q, hs, hv, ht, hk⟩ := h
  refine ⟨σ, M, _, hs, hv, ht, fun k M1 H1 q e1 v1 => ?_⟩
  cases k with
  | true => exact iteT ⟨σ, M1, Q, hs.ext e1, v1, q.1 rfl, fun b M' H' z e2 w => hk b M' H' z (e1.trans e2) w⟩
  | false => exact iteF (hk false M1 H1 (q.2 rfl) e1 v1)
theorem ror (ha : RPT X a tA) (hb : RPW X (.BoolOp .Or (b :: rest) pos) tB) : RPW X (.BoolOp .Or (a :: b :: rest) pos) (rOr tA tB) := PW.imp (pw_or ha hb) fun σ0 H Q0 h => by
  obtain ⟨σ, M, Q, hs, hv, ht, hk⟩ := h
  refine ⟨σ, M, _, hs, hv, ht, fun k M1 H1 q e1 v1 => ?_⟩
  cases k with
  | true => exact iteT (hk true M1 H1 (q.1 rfl) e1 v1)
  | false => exact iteF ⟨σ, M1, Q, hs.ext e1, v1, q.2 rfl, fun b M' H' z e2 w => hk b M' H' z (e1.trans e2) w⟩
theorem rtw (h : RPW X a tA) : RPT X a tA := PW.pt h
theorem rtnot (ha : RPT X a tA) : RPT X (.UnaryOp .Not a pos) (rNot tA) := PT.imp (pt_not ha) fun σ0 H Q0 h => by
  obtain ⟨σ, M, Q, hs, hv, ht, hk⟩ := h
  exact ⟨σ, M, _, hs, hv, ht, fun k M1 H1 q e1 v1 => hk (!k) M1 H1 q e1 v1⟩
def rAndV (ta tb : RTE) : RTE := fun σ M Q => ta σ M fun x M1 => match x with | .bl c => (c = true → tb σ M1 Q) ∧ (c = false → Q (.bl false) M1) | _ => False
def rOrV (ta tb : RTE) : RTE := fun σ M Q => ta σ M fun x M1 => match x with | .bl c => (c = true → Q (.bl true) M1) ∧ (c = false → tb σ M1 Q) | _ => False
def rNotV (ta : RTE) : RTE := fun σ M Q => ta σ M fun x M1 => match x with | .bl c => Q (.bl (!c)) M1 | _ => False
theorem rone {op} {t : RTE} (h : RPE X a t) : RPE X (.BoolOp op [a] pos) t := pe_one h
theorem randv (ha : RPE X a ta) (hb : RPE X (.BoolOp .And (b :: rest) pos) tb) : RPE X (.BoolOp .And (a :: b :: rest) pos) (rAndV ta tb) := PE.imp (pe_and ha hb) fun σ0 H Q0 h => by
  obtain ⟨σ, M, Q, hs, hv, ht, hk⟩ := h
  refine ⟨σ, M, _, hs, hv, ht, fun rx M1 x H1 q e1 v1 r1 => ?_⟩
  cases rx with
  | bl k =>
    simp only [Rep] at r1
    refine ⟨k, r1, ?_⟩
    cases k with
    | true => exact iteT ⟨σ, M1, Q, hs.ext e1, v1, q.1 rfl, hk.ext e1⟩
    | false => exact iteF (hk _ M1 _ H1 (q.2 rfl) e1 v1 (by simp only [Rep]))
  | _ => exact q.elim
theorem rnotv (ha : RPE X a ta) : RPE X (.UnaryOp .Not a pos) (rNotV ta) := PE.imp (pe_not ha) fun σ0 H Q0 h => by
  obtain ⟨σ, M, Q, hs, hv, ht, hk⟩ := h
  refine ⟨σ, M, _, hs, hv, ht, fun rx M1 x H1 q e1 v1 r1 => ?_⟩
  cases rx with
  | bl k => simp only [Rep] at r1; exact ⟨k, r1, hk _ M1 _ H1 q e1 v1 (by simp only [Rep])⟩
  | _ => exact q.elim
def rIf (t : RTT) (ta tb : RTE) : RTE := fun σ M Q => t σ M fun c M1 => (c = true → ta σ M1 Q) ∧ (c = false → tb σ M1 Q)
theorem rif {c : Expr} (hc : RPT X c tA) (ha : RPE X a ta) (hb : RPE X b tb) : RPE X (.IfExp c a b pos) (rIf tA ta tb) := PE.imp (pe_ifExp hc ha hb) fun σ0 H Q0 h => by
  obtain ⟨σ, M, Q, hs, hv, ht, hk⟩ := h
  refine ⟨σ, M, _, hs, hv, ht, fun k M1 H1 q e1 v1 => ?_⟩
  cases k with
  | true => exact iteT ⟨σ, M1, Q, hs.ext e1, v1, q.1 rfl, hk.ext e1⟩
  | false => exact iteF ⟨σ, M1, Q, hs.ext e1, v1, q.2 rfl, hk.ext e1⟩
variable {e : Expr} {es : List Expr} {te : RTE} {t : RTA}
def rNil : RTA := fun _ M Q => Q [] M
def rCons (ta : RTE) (tr : RTA) : RTA := fun σ M Q => ta σ M fun x M1 => tr σ M1 fun xs M2 => Q (x :: xs) M2
theorem anil : RPA X [] rNil := PA.imp pa_nil fun σ0 H Q0 h => by
  obtain ⟨σ, M, Q, hs, hv, ht, hk⟩ := h
  exact hk [] M [] H ht (.refl H) hv Reps.nil
theorem acons (ha : RPE X e te) (hr : RPA X es t) (hs : starEach (e :: es) X.env = (false, eval e X.env) :: starEach es X.env := by rfl) : RPA X (e :: es) (rCons te t) := PA.imp (pa_cons ha hr hs) fun σ0 H Q0 h => by
  obtain ⟨σ, M, Q, hs, hv, ht, hk⟩ := h
  refine ⟨σ, M, _, hs, hv, ht, fun rx M1 x H1 q e1 v1 r1 => ?_⟩
  refine ⟨σ, M1, _, hs.ext e1, v1, q, fun rs M2 vs H2 q2 e2 v2 r2 => ?_⟩
  exact hk (rx :: rs) M2 (x :: vs) H2 q2 (e1.trans e2) v2 (Reps.cons (Rep.ext e2 rx x r1) r2)
def rTup (t : RTA) : RTE := fun σ M Q => t σ M fun rs M1 => rs.length ≤ sizeLine ∧ Q (.tup rs) M1
theorem rep_tup {K : PySem.W.Frag} {H : Hp} {p : Addr} {rs : List RV} {vs : List V} (h : H p = none) (r : Reps K H rs vs) : Rep K (upd H p (.tup vs)) (.tup rs) (.ref p) := by
  simp only [Rep]; exact ⟨p, vs, rfl, SqT.of upd_same, Reps.ext (Ext.new h) rs vs r⟩
theorem rep_ls {K : PySem.W.Frag} {H : Hp} {p : Addr} {o : Obj} {rs : List RV} {vs : List V} (h : H p = none) (r : Reps K H rs vs) : Rep K (upd H p (.frz o (.lst vs))) (.ls rs) (.ref p) := by
  simp only [Rep]; exact ⟨p, vs, rfl, .inl ⟨o, upd_same⟩, Reps.ext (Ext.new h) rs vs r⟩
theorem rtup {x1} (h : RPA X es t) : RPE X (.Tuple es x1 pos) (rTup t) := PE.imp (pe_tup h) fun σ0 H Q0 h => by
  obtain ⟨σ, M, Q, hs, hv, ht, hk⟩ := h
  refine ⟨σ, M, _, hs, hv, ht, fun rs M1 vs H1 q e1 v1 r1 => ⟨by rw [← r1.length]; exact q.1, fun p hp => ?_⟩⟩
  exact hk _ M1 _ _ q.2 (e1.trans (Ext.new hp)) (v1.new hp) (rep_tup hp r1)
def rLst (t : RTA) : RTE := fun σ M Q => t σ M fun rs M1 => rs.length ≤ sizeLine ∧ ∀ p, M1 p = none → Q (.ref p) (put M1 p (.lst rs))
theorem rlst (h : RPA X es t) : RPE X (.List es pos) (rLst t) := PE.imp (pe_lst h) fun σ0 H Q0 h => by
  obtain ⟨σ, M, Q, hs, hv, ht, hk⟩ := h
  refine ⟨σ, M, _, hs, hv, ht, fun rs M1 vs H1 q e1 v1 r1 => ⟨by rw [← r1.length]; exact q.1, fun p hp => ?_⟩⟩
  exact hk _ _ _ _ (q.2 p (v1.free hp)) (e1.trans (Ext.new hp)) (v1.newPut hp ⟨vs, rfl, Reps.ext (Ext.new hp) rs vs r1⟩) (by simp only [Rep])
end
section
variable {X : Cx} {pins : List (Addr × Obj)} {σ : L2.St} {H : Hp} {s : Shared}
theorem freeze {p : Addr} {xs : List V} (I : Inv X pins σ H s) (h : H p = some (.lst xs)) : ∃ o, Inv X pins σ (upd H p (.frz o (.lst xs))) s := by
  have hz : xs.length ≤ sizeLine ∧ ∃ (its : List Value) (n : Nat), Vals xs its ∧ s.heap.get? p = some { cls := .type "list", data := .seq its.toArray n } := I.hok p _ h
  obtain ⟨z, its, n, r, e⟩ := id hz
  have np : ∀ b, H b = none → b ≠ p := fun b q w => by subst w; rw [h] at q; cases q
  refine ⟨{ cls := .type "list", data := .seq its.toArray n }, ⟨I.ok, I.os, I.bare, ⟨I.base.keep, I.base.slot, fun b o q w x => ?_, I.base.there, fun b xs' q => ?_, fun b o u q => ?_, fun b ps q => ?_⟩, I.loc, I.cell, ?_, fun x c q => ?_, fun q hq => ?_, fun b u q => ?_, I.len⟩⟩
  · have := I.base.free b o q w x
    rw [upd_ne (np b this)]; exact this
  · have e1 := I.base.tups b xs' q
    rw [upd_ne (ne_of e1 h (by intro z; cases z))]; exact e1
  · have e1 := I.base.frzs b o u q
    rw [upd_ne (ne_of e1 h (by intro z; cases z))]; exact e1
  · obtain ⟨more, e1⟩ := I.base.tbls b ps q
    exact ⟨more, by rw [upd_ne (ne_of e1 h (by intro z; cases z))]; exact e1⟩
  · rw [upd_ne (np _ I.free)]; exact I.free
  · have := I.freeC x c q
    rw [upd_ne (np _ this)]; exact this
  · obtain ⟨a1, a2, a3⟩ := I.pin q hq
    exact ⟨a1, by rw [upd_ne (np _ a2)]; exact a2, a3⟩
  · by_cases hb : b = p
    · subst hb
      rw [upd_same] at q; cases q
      exact ⟨e, z, its, n, r, e⟩
    · rw [upd_ne hb] at q
      refine (I.hok b u q).stay (fun _ _ _ q => q) (fun c q => ?_) fun c ys q => ?_
      · rw [upd_ne (ne_of q h (by intro z; cases z))]; exact q
      · rw [upd_ne (ne_of q h (by intro z; cases z))]; exact q
theorem frozen {Q : VK} {u : Value} (h : EP X pins σ (fun v H' => ∃ H1 p xs, v = .ref p ∧ H1 p = none ∧ H' = upd H1 p (.lst xs) ∧ ∀ o, Q (.ref p) (upd H1 p (.frz o (.lst xs)))) u s) : EP X pins σ Q u s := by
  obtain ⟨v, H', I, r, H1, p, xs, rfl, hn, rfl, q⟩ := h
  obtain ⟨o, I'⟩ := freeze I (p := p) (xs := xs) upd_same
  rw [upd_upd] at I'
  exact ⟨.ref p, _, I', r, q o⟩
end
section
variable {X : Cx} {es : List Expr} {t : RTA} {pos : Pos}
def rLsF (t : RTA) : RTE := fun σ M Q => t σ M fun rs M1 => rs.length ≤ sizeLine ∧ Q (.ls rs) M1
theorem rlsf (h : RPA X es t) : RPE X (.List es pos) (rLsF t) := fun pins s σ0 H Q0 I hw => by
  obtain ⟨σ, M, Q, hs, hv, ht, hk⟩ := hw
  refine thn (pe_lst h pins s σ0 H (fun v H' => ∃ H1 p xs, v = .ref p ∧ H1 p = none ∧ H' = upd H1 p (.lst xs) ∧ ∀ o, Q0 (.ref p) (upd H1 p (.frz o (.lst xs)))) I ?_) fun _ _ e => frozen e
  refine ⟨σ, M, _, hs, hv, ht, fun rs M1 vs H1 q e1 v1 r1 => ⟨by rw [← r1.length]; exact q.1, fun p hp => ⟨H1, p, vs, rfl, hp, rfl, fun o => ?_⟩⟩⟩
  exact hk _ M1 _ _ q.2 (e1.trans (Ext.new hp)) (v1.new hp) (rep_ls hp r1)
end
section
variable {X : Cx} {st : Stmt} {rest : List Stmt} {t u : RTS} {e : Expr} {te : RTE} {pos : Pos}
def rNext : RTS := fun D σ M => D.nx σ M
def rSeq (t u : RTS) : RTS := fun D σ M => t { D with nx := u D } σ M
theorem snil : RPSs X [] rNext := PSs.imp pss_nil fun D0 σ0 H h => by
  obtain ⟨σ, M, D, hs, hv, ht, hd⟩ := h
  exact hd.nx σ M σ0 H ht (.refl H) hv hs
theorem scons (h1 : RPS X st t) (h2 : RPSs X rest u) : RPSs X (st :: rest) (rSeq t u) := PSs.imp (pss_cons h1 h2) fun D0 σ0 H h => by
  obtain ⟨σ, M, D, hs, hv, ht, hd⟩ := h
  refine ⟨σ, M, _, hs, hv, ht, ⟨fun σ' M' σ0' H' q e w r => ?_, hd.rt, hd.bk, hd.ct⟩⟩
  exact ⟨σ', M', D, r, w, q, hd.ext e⟩
theorem sone (h1 : RPS X st t) : RPSs X [st] t := pss_one h1
def rDrop (te : RTE) : RTS := fun D σ M => te σ M fun _ M1 => D.nx σ M1
theorem sexpr (he : RPE X e te) (hs : swapsWith e none pos.line X.env = pure false := by rfl) : RPS X (.Expr e pos) (rDrop te) := PS.imp (ps_expr he hs) fun D0 σ0 H h => by
  obtain ⟨σ, M, D, hs, hv, ht, hd⟩ := h
  exact ⟨σ, M, _, hs, hv, ht, fun rx M1 x H1 q e1 v1 r1 => hd.nx σ M1 σ0 H1 q e1 v1 (hs.ext e1)⟩
def rRet (te : RTE) : RTS := fun D σ M => te σ M D.rt
theorem sret (he : RPE X e te) : RPS X (.Return (some e) pos) (rRet te) := PS.imp (ps_ret he) fun D0 σ0 H h => by
  obtain ⟨σ, M, D, hs, hv, ht, hd⟩ := h
  exact ⟨σ, M, _, hs, hv, ht, hd.rt⟩
def rRetN : RTS := fun D _ M => D.rt .non M
def rIfS (c : RTT) (t u : RTS) : RTS := fun D σ M => c σ M fun b M1 => (b = true → t D σ M1) ∧ (b = false → u D σ M1)
theorem sif {c : Expr} {a b : List Stmt} {tc : RTT} (hc : RPT X c tc) (ha : RPSs X a t) (hb : RPSs X b u) : RPS X (.If c a b pos) (rIfS tc t u) := PS.imp (ps_if hc ha hb) fun D0 σ0 H h => by
  obtain ⟨σ, M, D, hs, hv, ht, hd⟩ := h
  refine ⟨σ, M, _, hs, hv, ht, fun k M1 H1 q e1 v1 => ?_⟩
  cases k with
  | true => exact iteT ⟨σ, M1, D, hs.ext e1, v1, q.1 rfl, hd.ext e1⟩
  | false => exact iteF ⟨σ, M1, D, hs.ext e1, v1, q.2 rfl, hd.ext e1⟩
def rSet (i : Nat) (te : RTE) : RTS := fun D σ M => te σ M fun x M1 => D.nx (σ.set i (some x)) M1
theorem sset (i : Nat) {x : Str} {pos' : Pos} (he : RPE X e te) (hN : X.N.Nodup) (hi : X.N[i]? = some x := by rfl) (hx : Loc X.env.scope x := by first | exact Or.inl rfl | exact Or.inr rfl) (hs : swapsWith e (some (.Name x pos')) pos.line X.env = pure false := by rfl)
    (hf : X.fn x = true ∨ X.env.scope.names.lookup x = some .local := by first | exact .inl rfl | exact .inr rfl) : RPS X (.Assign [.Name x pos'] e pos) (rSet i te) := PS.imp (ps_set hN hi hx he hs hf) fun D0 σ0 H h => by
  obtain ⟨σ, M, D, hs, hv, ht, hd⟩ := h
  exact ⟨σ, M, _, hs, hv, ht, fun rx M1 x H1 q e1 v1 r1 => hd.nx _ M1 _ H1 q e1 v1 ((hs.ext e1).set r1 i)⟩
abbrev RTG := RV → RSt → RM → (RSt → RM → Prop) → Prop
def upG (K : PySem.W.Frag) (g : RTG) : TG := fun v σ0 H Q0 => ∃ rv σ M Q, Rep K H rv v ∧ RepSt K H σ σ0 ∧ View K H M ∧ g rv σ M Q ∧ UpS K H Q Q0
def RPG (X : Cx) (target : Expr) (g : RTG) : Prop := PG X target (upG X.K g)
theorem PG.imp {tg : Expr} {t t' : TG} (h : PG X tg t) (i : ∀ v σ H Q, t' v σ H Q → t v σ H Q) : PG X tg t' := fun pins s σ H v u Q I r w => h pins s σ H v u Q I r (i v σ H Q w)
def rgN (i : Nat) : RTG := fun x σ M Q => Q (σ.set i (some x)) M
theorem gname (i : Nat) {x : Str} {pos : Pos} (hN : X.N.Nodup) (hi : X.N[i]? = some x := by rfl) (hx : Loc X.env.scope x := by first | exact Or.inl rfl | exact Or.inr rfl)
    (hf : X.fn x = true ∨ X.env.scope.names.lookup x = some .local := by first | exact .inl rfl | exact .inr rfl) : RPG X (.Name x pos) (rgN i) := PG.imp (pg_name hN hi hx hf) fun v σ0 H Q0 h => by
  obtain ⟨rv, σ, M, Q, hr, hs, hv, hg, hk⟩ := h
  exact hk _ M _ H hg (.refl H) hv (hs.set hr i)
def setAll : RSt → List Nat → List RV → RSt
  | σ, i :: is, x :: xs => setAll (σ.set i (some x)) is xs
  | σ, _, _ => σ
def gAll : List Nat → TGs
  | [] => gNil
  | i :: is => gCons (gName i) (gAll is)
theorem gAll_of {K : PySem.W.Frag} {H : Hp} {Q0 : L2.St → Hp → Prop} : ∀ {is : List Nat} {rs : List RV} {vs : List V} {σ : RSt} {σ0 : L2.St}, rs.length = is.length → Reps K H rs vs → RepSt K H σ σ0 →
    (∀ σ0', RepSt K H (setAll σ is rs) σ0' → Q0 σ0' H) → gAll is vs σ0 H Q0
  | [], [], vs, σ, σ0, _, r, hs, k => by
    simp only [Reps] at r
    exact ⟨r, k σ0 hs⟩
  | i :: is, x :: rs, vs, σ, σ0, hl, r, hs, k => by
    simp only [Reps] at r
    obtain ⟨v, vs', rfl, h1, h2⟩ := r
    refine ⟨v, vs', rfl, ?_⟩
    show gAll is vs' (σ0.set i (some v)) H Q0
    exact gAll_of (σ := σ.set i (some x)) (by simpa using hl) h2 (hs.set h1 i) k
def rgU (is : List Nat) : RTG := fun x σ M Q => match x with | .tup xs => xs.length = is.length ∧ Q (setAll σ is xs) M | _ => False
theorem gtup {es : List Expr} {k : Nat} {is : List Nat} {n : Nat} {pos : Pos} (hc : X.calm = true) (h : PGs X es (gAll is)) (hl : n = is.length := by rfl)
    (hn : (assignEach es X.env).length = n := by rfl) (hst : (assignEach es X.env).findIdx? (·.1) = none := by rfl) : RPG X (.Tuple es k pos) (rgU is) := PG.imp (pg_tup hc h hn hst) fun v σ0 H Q0 h => by
  obtain ⟨rv, σ, M, Q, hr, hs, hv, hg, hk⟩ := h
  cases rv with
  | tup xs =>
    simp only [Rep] at hr
    obtain ⟨a, vs, rfl, h1, h2⟩ := hr
    exact ⟨a, vs, rfl, h1, by rw [← h2.length, hl]; exact hg.1, gAll_of hg.1 h2 hs fun σ0' q => hk _ M σ0' H hg.2 (.refl H) hv q⟩
  | _ => exact hg.elim
def rAsg (te : RTE) (g : RTG) : RTS := fun D σ M => te σ M fun x M1 => g x σ M1 D.nx
theorem sasg {tg e : Expr} {te : RTE} {g : RTG} {pos : Pos} (he : RPE X e te) (hg : RPG X tg g) (hs : swapsWithSole [tg] e pos.line X.env = pure false := by rfl) (hw : swappedStores [tg] e X.env = pure none := by rfl)
    (h1 : (assignEach [tg] X.env).map (·.2) = [assign tg X.env] := by rfl) : RPS X (.Assign [tg] e pos) (rAsg te g) := PS.imp (ps_asg he hg hs hw h1) fun D0 σ0 H h => by
  obtain ⟨σ, M, D, hs, hv, ht, hd⟩ := h
  exact ⟨σ, M, _, hs, hv, ht, fun rx M1 x H1 q e1 v1 r1 => ⟨rx, σ, M1, D.nx, r1, hs.ext e1, v1, q, hd.nx.ext e1⟩⟩
abbrev RTSet := RV → RV → RV → RM → (RM → Prop) → Prop
def upSet (K : PySem.W.Frag) (g : RTSet) : TSet := fun o i v H Q0 => ∃ ro ri rx M Q, Rep K H ro o ∧ Rep K H ri i ∧ Rep K H rx v ∧ View K H M ∧ g ro ri rx M Q ∧ ∀ M' H', Q M' → Ext H H' → View K H' M' → Q0 H'
def rgSub (to ti : RTE) (g : RTSet) : RTG := fun v σ M Q => to σ M fun o M1 => ti σ M1 fun i M2 => g o i v M2 fun M3 => Q σ M3
theorem gsub {o i : Expr} {to ti : RTE} {g : RTSet} {pos : Pos} (ho : RPE X o to) (hi : RPE X i ti) (hs : PSet X (upSet X.K g))
    (ha : ∀ v, assign (.Subscript o i pos) X.env v = (do
      let ov ← holding [v] (eval o X.env)
      let iv ← holding [v, ov] (eval i X.env)
      standAt pos
      holding [v, ov, iv] (setItem ov iv v)
      release [v, ov, iv] []) := by intro _; rfl) : RPG X (.Subscript o i pos) (rgSub to ti g) := PG.imp (pg_sub ho hi hs ha) fun v σ0 H Q0 h => by
  obtain ⟨rv, σ, M, Q, hr, hs, hv, hg, hk⟩ := h
  refine ⟨σ, M, _, hs, hv, hg, fun ro M1 o H1 q e1 v1 r1 => ?_⟩
  refine ⟨σ, M1, _, hs.ext e1, v1, q, fun ri M2 i H2 q2 e2 v2 r2 => ?_⟩
  refine ⟨ro, ri, rv, M2, _, Rep.ext e2 ro o r1, r2, Rep.ext (e1.trans e2) rv v hr, v2, q2, fun M3 H3 q3 e3 v3 => ?_⟩
  have e := (e1.trans e2).trans e3
  exact hk σ M3 σ0 H3 q3 e v3 (hs.ext e)
def rForL (g : RTG) (tb : RTS) (D : RD) : List RV → RSt → RM → Prop
  | [], σ, M => D.nx σ M
  | x :: r, σ, M => g x σ M fun σ2 M2 => tb { D with nx := rForL g tb D r, ct := rForL g tb D r, bk := D.nx } σ2 M2
end
end R
namespace R
open PySem PySem.Spec PyProof.Rows L2
open PySem.SeqAt (EqAt RcAt RcNeAt)
mutual
def eqR : RV → RV → Bool
  | .non, .non => true
  | .bl a, .bl b => a == b
  | .bl a, .int b => (if a then 1 else 0) == b
  | .int a, .bl b => a == (if b then 1 else 0)
  | .int a, .int b => a == b
  | .str a, .str b => a == b
  | .tup xs, .tup ys => eqRs xs ys
  | .ls xs, .ls ys => eqRs xs ys
  | _, _ => false
def eqRs : List RV → List RV → Bool
  | [], [] => true
  | x :: xs, y :: ys => eqR x y && eqRs xs ys
  | _, _ => false
end
def okR : Nat → RV → Bool
  | _, .non => true
  | _, .bl _ => true
  | _, .int _ => true
  | _, .str _ => true
  | n + 1, .tup xs => xs.all (okR n)
  | n + 1, .ls xs => xs.all (okR n)
  | _, _ => false
mutual
def Den (h : Heap) : RV → Value → Prop
  | .non, u => u = .none
  | .bl b, u => u = .bool b
  | .int i, u => ∃ t, u = .int i t
  | .str x, u => ∃ t, u = .str x t
  | .tup xs, u => ∃ a its, u = .ref a ∧ h.IsTuple a its.toArray ∧ Dens h xs its
  | .ls xs, u => ∃ a its, u = .ref a ∧ h.IsList a its.toArray ∧ Dens h xs its
  | .ref _, _ => False
  | .ty _, _ => False
def Dens (h : Heap) : List RV → List Value → Prop
  | [], us => us = []
  | x :: xs, us => ∃ u r, us = u :: r ∧ Den h x u ∧ Dens h xs r
end
theorem Dens.length {h : Heap} : ∀ {xs : List RV} {us : List Value}, Dens h xs us → xs.length = us.length
  | [], us, d => by simp only [Dens] at d; subst d; rfl
  | x :: xs, us, d => by
    simp only [Dens] at d
    obtain ⟨u, r, rfl, _, t⟩ := d
    simp [Dens.length t]
theorem Dens.get {h : Heap} : ∀ {xs : List RV} {us : List Value} {j : Nat} {u : Value}, Dens h xs us → us[j]? = some u → Den h (xs.getD j .non) u ∧ xs.getD j .non ∈ xs
  | [], us, _, _, d, e => by simp only [Dens] at d; subst d; simp at e
  | x :: xs, us, 0, u, d, e => by
    simp only [Dens] at d
    obtain ⟨v, r, rfl, h1, _⟩ := d
    simp at e; subst e
    exact ⟨by simpa using h1, by simp⟩
  | x :: xs, us, j + 1, u, d, e => by
    simp only [Dens] at d
    obtain ⟨v, r, rfl, _, t⟩ := d
    obtain ⟨a, b⟩ := Dens.get (j := j) t (by simpa using e)
    exact ⟨by simpa using a, by simp only [List.getD_cons_succ]; exact List.mem_cons_of_mem _ b⟩
section
variable {X : Cx} {pins : List (Addr × Obj)} {σ : L2.St} {H : Hp} {s : Shared}
theorem Vals.cons_inv {v : V} {vs : List V} {us : List Value} (r : Vals (v :: vs) us) : ∃ u us', us = u :: us' ∧ RelV v u ∧ Vals vs us' := by
  cases r with
  | cons a b => exact ⟨_, _, rfl, a, b⟩
theorem den_of (I : Inv X pins σ H s) : ∀ (n : Nat), (∀ (r : RV) (v : V) (u : Value), okR n r = true → Rep X.K H r v → RelV v u → Den s.heap r u) := by
  intro n
  induction n with
  | zero =>
    intro r v u o h w
    cases r with
    | non => simp only [Rep] at h; subst h; simp only [Den]; exact w
    | bl b => simp only [Rep] at h; subst h; simp only [Den]; exact w
    | int i => simp only [Rep] at h; subst h; simp only [Den]; exact w
    | str x => simp only [Rep] at h; subst h; simp only [Den]; exact w
    | _ => simp [okR] at o
  | succ n ih =>
    have all : ∀ (rs : List RV) (vs : List V) (us : List Value), rs.all (okR n) = true → Reps X.K H rs vs → Vals vs us → Dens s.heap rs us := by
      intro rs
      induction rs with
      | nil =>
        intro vs us _ h w
        simp only [Reps] at h; subst h; cases w; simp only [Dens]
      | cons x xs ihx =>
        intro vs us o h w
        simp only [Reps] at h
        obtain ⟨v, r, rfl, h1, h2⟩ := h
        obtain ⟨u, us', rfl, w1, w2⟩ := Vals.cons_inv w
        rw [List.all_cons, Bool.and_eq_true] at o
        simp only [Dens]
        exact ⟨u, us', rfl, ih x v u o.1 h1 w1, ihx r us' o.2 h2 w2⟩
    intro r v u o h w
    cases r with
    | non => simp only [Rep] at h; subst h; simp only [Den]; exact w
    | bl b => simp only [Rep] at h; subst h; simp only [Den]; exact w
    | int i => simp only [Rep] at h; subst h; simp only [Den]; exact w
    | str x => simp only [Rep] at h; subst h; simp only [Den]; exact w
    | tup xs =>
      simp only [Rep] at h
      obtain ⟨a, vs, rfl, h1, h2⟩ := h
      obtain ⟨its, rv, ht, _⟩ := I.tuple h1
      simp only [Den]
      exact ⟨a, its, w, ht, all xs vs its o h2 rv⟩
    | ls xs =>
      simp only [Rep] at h
      obtain ⟨a, vs, rfl, h1, h2⟩ := h
      obtain ⟨its, rv, ht, _⟩ := I.list h1.sq
      simp only [Den]
      exact ⟨a, its, w, ht.isList, all xs vs its o h2 rv⟩
    | _ => simp [okR] at o
end
theorem seq_inj {h : Heap} {a : Addr} {xs ys : List Value} (p : h.IsTuple a xs.toArray) (q : h.IsTuple a ys.toArray) : xs = ys := by
  obtain ⟨o, e, _, n, d⟩ := p
  obtain ⟨o', e', _, n', d'⟩ := q
  rw [e] at e'; cases e'
  rw [d] at d'
  injection d' with d1 _
  simpa using congrArg Array.toList d1
theorem lst_inj {h : Heap} {a : Addr} {xs ys : List Value} (p : h.IsList a xs.toArray) (q : h.IsList a ys.toArray) : xs = ys := by
  obtain ⟨o, e, _, n, d⟩ := p
  obtain ⟨o', e', _, n', d'⟩ := q
  rw [e] at e'; cases e'
  rw [d] at d'
  injection d' with d1 _
  simpa using congrArg Array.toList d1
theorem lt_apart {h : Heap} {a : Addr} {xs ys : Array Value} (p : h.IsList a xs) (q : h.IsTuple a ys) : False := by
  obtain ⟨o, e, c, _⟩ := p
  obtain ⟨o', e', c', _⟩ := q
  rw [e] at e'; cases e'
  rw [c] at c'
  exact absurd c' (by decide +kernel)
def isS : RV → Bool
  | .non => true
  | .bl _ => true
  | .int _ => true
  | .str _ => true
  | _ => false
def absR : Value → Option RV
  | .none => some .non
  | .bool b => some (.bl b)
  | .int i _ => some (.int i)
  | .str x _ => some (.str x)
  | _ => none
theorem den_s {h : Heap} {u : Value} : ∀ {x : RV}, isS x = true → Den h x u → absR u = some x
  | .non, _, d => by simp only [Den] at d; subst d; rfl
  | .bl _, _, d => by simp only [Den] at d; subst d; rfl
  | .int _, _, d => by simp only [Den] at d; obtain ⟨t, rfl⟩ := d; rfl
  | .str _, _, d => by simp only [Den] at d; obtain ⟨t, rfl⟩ := d; rfl
theorem den_n {h : Heap} {u : Value} : ∀ {x : RV}, isS x = false → Den h x u → absR u = none
  | .tup _, _, d => by simp only [Den] at d; obtain ⟨a, its, rfl, _⟩ := d; rfl
  | .ls _, _, d => by simp only [Den] at d; obtain ⟨a, its, rfl, _⟩ := d; rfl
  | .ref _, _, d => by simp only [Den] at d
  | .ty _, _, d => by simp only [Den] at d
theorem den_inj {h : Heap} : ∀ (n : Nat) (x y : RV) (u : Value), okR n x = true → okR n y = true → Den h x u → Den h y u → x = y := by
  intro n
  have sc : ∀ (x y : RV) (u : Value), isS x = true → Den h x u → Den h y u → x = y := by
    intro x y u sx dx dy
    have ex := den_s sx dx
    cases sy : isS y with
    | true =>
      have ey := den_s sy dy
      rw [ex] at ey
      exact Option.some.inj ey
    | false =>
      have ey := den_n sy dy
      rw [ex] at ey
      cases ey
  induction n with
  | zero =>
    intro x y u ox oy dx dy
    have sx : isS x = true := by cases x <;> first | rfl | (simp [okR] at ox)
    exact sc x y u sx dx dy
  | succ n ih =>
    have all : ∀ (xs ys : List RV) (us : List Value), xs.all (okR n) = true → ys.all (okR n) = true → Dens h xs us → Dens h ys us → xs = ys := by
      intro xs
      induction xs with
      | nil =>
        intro ys us _ _ d e
        simp only [Dens] at d; subst d
        cases ys with
        | nil => rfl
        | cons y ys => simp only [Dens] at e; obtain ⟨_, _, z, _⟩ := e; cases z
      | cons x xs ihx =>
        intro ys us ox oy d e
        simp only [Dens] at d
        obtain ⟨u, r, rfl, d1, d2⟩ := d
        cases ys with
        | nil => simp only [Dens] at e; cases e
        | cons y ys =>
          simp only [Dens] at e
          obtain ⟨u', r', z, e1, e2⟩ := e
          cases z
          rw [List.all_cons, Bool.and_eq_true] at ox oy
          rw [ih x y u ox.1 oy.1 d1 e1, ihx ys r ox.2 oy.2 d2 e2]
    intro x y u ox oy dx dy
    cases sx : isS x with
    | true => exact sc x y u sx dx dy
    | false =>
      cases sy : isS y with
      | true => exact (sc y x u sy dy dx).symm
      | false =>
        cases x with
        | tup xs =>
          simp only [Den] at dx
          obtain ⟨a, its, rfl, p, d⟩ := dx
          cases y with
          | tup ys =>
            simp only [Den] at dy
            obtain ⟨a', its', z, p', d'⟩ := dy
            cases z
            obtain rfl := seq_inj p p'
            rw [all xs ys its ox oy d d']
          | ls ys =>
            simp only [Den] at dy
            obtain ⟨a', its', z, p', d'⟩ := dy
            cases z
            exact (lt_apart p' p).elim
          | ref _ => simp only [Den] at dy
          | ty _ => simp only [Den] at dy
          | _ => cases sy
        | ls xs =>
          simp only [Den] at dx
          obtain ⟨a, its, rfl, p, d⟩ := dx
          cases y with
          | ls ys =>
            simp only [Den] at dy
            obtain ⟨a', its', z, p', d'⟩ := dy
            cases z
            obtain rfl := lst_inj p p'
            rw [all xs ys its ox oy d d']
          | tup ys =>
            simp only [Den] at dy
            obtain ⟨a', its', z, p', d'⟩ := dy
            cases z
            exact (lt_apart p p').elim
          | ref _ => simp only [Den] at dy
          | ty _ => simp only [Den] at dy
          | _ => cases sy
        | ref _ => simp only [Den] at dx
        | ty _ => simp only [Den] at dx
        | _ => cases sx
mutual
theorem eqR_refl : ∀ (x : RV), (∃ n, okR n x = true) → eqR x x = true
  | .non, _ => by simp [eqR]
  | .bl _, _ => by simp [eqR]
  | .int _, _ => by simp [eqR]
  | .str _, _ => by simp [eqR]
  | .tup xs, ⟨n, o⟩ => by
    rw [eqR]
    refine eqRs_refl xs ?_
    cases n with
    | zero => simp [okR] at o
    | succ n => exact ⟨n, o⟩
  | .ls xs, ⟨n, o⟩ => by
    rw [eqR]
    refine eqRs_refl xs ?_
    cases n with
    | zero => simp [okR] at o
    | succ n => exact ⟨n, o⟩
  | .ref _, ⟨n, o⟩ => by cases n <;> simp [okR] at o
  | .ty _, ⟨n, o⟩ => by cases n <;> simp [okR] at o
theorem eqRs_refl : ∀ (xs : List RV), (∃ n, xs.all (okR n) = true) → eqRs xs xs = true
  | [], _ => by simp [eqRs]
  | x :: xs, ⟨n, o⟩ => by
    rw [List.all_cons, Bool.and_eq_true] at o
    rw [eqRs, eqR_refl x ⟨n, o.1⟩, eqRs_refl xs ⟨n, o.2⟩]; rfl
end
abbrev pairR (xs ys : List RV) (j : Nat) : Bool := eqR (xs.getD j .non) (ys.getD j .non)
theorem eqRs_eq : ∀ xs ys : List RV, ((List.range (min xs.length ys.length)).all (pairR xs ys) && xs.length == ys.length) = eqRs xs ys
  | [], [] => by simp [eqRs]
  | [], _ :: _ => by simp [eqRs]
  | _ :: _, [] => by simp [eqRs]
  | x :: xs, y :: ys => by
    have ih := eqRs_eq xs ys
    have e1 : min (x :: xs).length (y :: ys).length = min xs.length ys.length + 1 := by simp only [List.length_cons]; omega
    have e2 : ((x :: xs).length == (y :: ys).length) = (xs.length == ys.length) := by simp
    have e3 : (List.range (min xs.length ys.length + 1)).all (pairR (x :: xs) (y :: ys)) = (eqR x y && (List.range (min xs.length ys.length)).all (pairR xs ys)) := by
      rw [List.range_succ_eq_map, List.all_cons, List.all_map]
      rfl
    rw [e1, e2, e3, eqRs, ← ih, Bool.and_assoc]
theorem eqRs_same {xs ys : List RV} (h : xs.length = ys.length) : (List.range xs.length).all (pairR xs ys) = eqRs xs ys := by
  have := eqRs_eq xs ys
  rw [← h, Nat.min_self] at this
  simpa using this
theorem eqRs_other {xs ys : List RV} (h : xs.length ≠ ys.length) : eqRs xs ys = false := by
  have := eqRs_eq xs ys
  rw [← this]
  simp [h]
theorem in1_units (A : Around) : A.in1.units = A.units + 1 := rfl
local macro_rules | `(tactic| walk_at "e0") => `(tactic| simp only [eqR, Bool.not_false, Bool.not_true])
theorem eqAt_den : ∀ (n : Nat) (x y : RV) (A : Around) (s : Shared) (u w : Value), okR n x = true → okR n y = true → Den s.heap x u → Den s.heap y w → A.units + n < cLine → EqAt A s u w (eqR x y) := by
  intro n
  induction n with
  | zero =>
    intro x y A s u w ox oy dx dy hu
    cases x with
    | non =>
      simp only [Den] at dx
      cases y with
      | non =>
        simp only [Den] at dy
        subst dx
        subst dy
        walk_at "e0"
        exact EqAt.same _
      | bl y =>
        simp only [Den] at dy
        subst dx
        subst dy
        walk_at "e0"
        exact EqAt.none_bool _
      | int y =>
        simp only [Den] at dy
        subst dx
        obtain ⟨t2, rfl⟩ := dy
        walk_at "e0"
        exact EqAt.none_int _ _
      | str y =>
        simp only [Den] at dy
        subst dx
        obtain ⟨t2, rfl⟩ := dy
        walk_at "e0"
        exact EqAt.none_str _ _
      | ref y => exact (by simpa only [Den] using dy : False).elim
      | ty y => exact (by simpa only [Den] using dy : False).elim
      | tup y => simp [okR] at oy
      | ls y => simp [okR] at oy
    | bl x =>
      simp only [Den] at dx
      cases y with
      | non =>
        simp only [Den] at dy
        subst dx
        subst dy
        walk_at "e0"
        exact EqAt.bool_none _
      | bl y =>
        simp only [Den] at dy
        subst dx
        subst dy
        walk_at "e0"
        exact EqAt.bool_bool _ _
      | int y =>
        simp only [Den] at dy
        subst dx
        obtain ⟨t2, rfl⟩ := dy
        walk_at "e0"
        exact EqAt.bool_int _ _ _
      | str y =>
        simp only [Den] at dy
        subst dx
        obtain ⟨t2, rfl⟩ := dy
        walk_at "e0"
        exact EqAt.bool_str _ _ _
      | ref y => exact (by simpa only [Den] using dy : False).elim
      | ty y => exact (by simpa only [Den] using dy : False).elim
      | tup y => simp [okR] at oy
      | ls y => simp [okR] at oy
    | int x =>
      simp only [Den] at dx
      cases y with
      | non =>
        simp only [Den] at dy
        obtain ⟨t1, rfl⟩ := dx
        subst dy
        walk_at "e0"
        exact EqAt.int_none _ _
      | bl y =>
        simp only [Den] at dy
        obtain ⟨t1, rfl⟩ := dx
        subst dy
        walk_at "e0"
        exact EqAt.int_bool _ _ _
      | int y =>
        simp only [Den] at dy
        obtain ⟨t1, rfl⟩ := dx
        obtain ⟨t2, rfl⟩ := dy
        walk_at "e0"
        exact EqAt.int_int _ _ _ _
      | str y =>
        simp only [Den] at dy
        obtain ⟨t1, rfl⟩ := dx
        obtain ⟨t2, rfl⟩ := dy
        walk_at "e0"
        exact EqAt.int_str _ _ _ _
      | ref y => exact (by simpa only [Den] using dy : False).elim
      | ty y => exact (by simpa only [Den] using dy : False).elim
      | tup y => simp [okR] at oy
      | ls y => simp [okR] at oy
    | str x =>
      simp only [Den] at dx
      cases y with
      | non =>
        simp only [Den] at dy
        obtain ⟨t1, rfl⟩ := dx
        subst dy
        walk_at "e0"
        exact EqAt.str_none _ _
      | bl y =>
        simp only [Den] at dy
        obtain ⟨t1, rfl⟩ := dx
        subst dy
        walk_at "e0"
        exact EqAt.str_bool _ _ _
      | int y =>
        simp only [Den] at dy
        obtain ⟨t1, rfl⟩ := dx
        obtain ⟨t2, rfl⟩ := dy
        walk_at "e0"
        exact EqAt.str_int _ _ _ _
      | str y =>
        simp only [Den] at dy
        obtain ⟨t1, rfl⟩ := dx
        obtain ⟨t2, rfl⟩ := dy
        walk_at "e0"
        exact EqAt.str_str _ _ _ _
      | ref y => exact (by simpa only [Den] using dy : False).elim
      | ty y => exact (by simpa only [Den] using dy : False).elim
      | tup y => simp [okR] at oy
      | ls y => simp [okR] at oy
    | ref x => exact (by simpa only [Den] using dx : False).elim
    | ty x => exact (by simpa only [Den] using dx : False).elim
    | tup x => simp [okR] at ox
    | ls x => simp [okR] at ox
  | succ n ih =>
    intro x y A s u w ox oy dx dy hu
    have hu0 : A.units < cLine := by omega
    have item : ∀ (xs ys : List RV) (us ws : List Value), xs.all (okR n) = true → ys.all (okR n) = true → Dens s.heap xs us → Dens s.heap ys ws →
        ∀ j (j1 : j < us.toArray.size) (j2 : j < ws.toArray.size), EqAt A.in1 s us.toArray[j] ws.toArray[j] (pairR xs ys j) := fun xs ys us ws o1 o2 d1 d2 j j1 j2 => by
      obtain ⟨a1, b1⟩ := d1.get (j := j) (u := us.toArray[j]) (by simp)
      obtain ⟨a2, b2⟩ := d2.get (j := j) (u := ws.toArray[j]) (by simp)
      exact ih _ _ A.in1 s _ _ (List.all_eq_true.mp o1 _ b1) (List.all_eq_true.mp o2 _ b2) a1 a2 (by rw [in1_units]; omega)
    have same_EqAt_tup : ∀ (xs ys : List RV) (a a' : Addr) (its its' : List Value), s.heap.IsTuple a its.toArray → s.heap.IsTuple a' its'.toArray → Dens s.heap xs its → Dens s.heap ys its' → okR (n + 1) (.tup xs) = true → okR (n + 1) (.tup ys) = true → EqAt A s (.ref a) (.ref a') (eqR (RV.tup xs) (RV.tup ys)) := by
      intro xs ys a a' its its' p p' d d' ox oy
      by_cases ha : a = a'
      · subst ha
        obtain rfl := seq_inj p p'
        have e : RV.tup xs = RV.tup ys := den_inj (n + 1) _ _ (.ref a) ox oy (by simp only [Den]; exact ⟨a, its, rfl, p, d⟩) (by simp only [Den]; exact ⟨a, its, rfl, p, d'⟩)
        rw [← e, eqR_refl _ ⟨_, ox⟩]
        exact EqAt.same _
      refine EqAt.of_refs ha ?_
      rw [eqR, ← eqRs_eq, d.length, d'.length]
      have := RcAt.tuples p p' hu0 (item xs ys its its' ox oy d d')
      simpa using this
    have same_EqAt_ls : ∀ (xs ys : List RV) (a a' : Addr) (its its' : List Value), s.heap.IsList a its.toArray → s.heap.IsList a' its'.toArray → Dens s.heap xs its → Dens s.heap ys its' → okR (n + 1) (.ls xs) = true → okR (n + 1) (.ls ys) = true → EqAt A s (.ref a) (.ref a') (eqR (RV.ls xs) (RV.ls ys)) := by
      intro xs ys a a' its its' p p' d d' ox oy
      by_cases ha : a = a'
      · subst ha
        obtain rfl := lst_inj p p'
        have e : RV.ls xs = RV.ls ys := den_inj (n + 1) _ _ (.ref a) ox oy (by simp only [Den]; exact ⟨a, its, rfl, p, d⟩) (by simp only [Den]; exact ⟨a, its, rfl, p, d'⟩)
        rw [← e, eqR_refl _ ⟨_, ox⟩]
        exact EqAt.same _
      refine EqAt.of_refs ha ?_
      rw [eqR]
      by_cases hz : xs.length = ys.length
      · rw [← eqRs_same hz, d.length]
        have := RcAt.lists p p' (by simp [← d.length, ← d'.length, hz]) hu0 (item xs ys its its' ox oy d d')
        simpa using this
      · rw [eqRs_other hz]
        exact RcAt.lists_lengths p p' (by simp [← d.length, ← d'.length, hz]) hu0
    cases x with
    | non =>
      simp only [Den] at dx
      cases y with
      | non =>
        simp only [Den] at dy
        subst dx
        subst dy
        walk_at "e0"
        exact EqAt.same _
      | bl y =>
        simp only [Den] at dy
        subst dx
        subst dy
        walk_at "e0"
        exact EqAt.none_bool _
      | int y =>
        simp only [Den] at dy
        subst dx
        obtain ⟨t2, rfl⟩ := dy
        walk_at "e0"
        exact EqAt.none_int _ _
      | str y =>
        simp only [Den] at dy
        subst dx
        obtain ⟨t2, rfl⟩ := dy
        walk_at "e0"
        exact EqAt.none_str _ _
      | tup y =>
        simp only [Den] at dy
        subst dx
        obtain ⟨a2, its2, rfl, p2, d2⟩ := dy
        walk_at "e0"
        exact EqAt.none_tuple p2 hu0
      | ls y =>
        simp only [Den] at dy
        subst dx
        obtain ⟨a2, its2, rfl, p2, d2⟩ := dy
        walk_at "e0"
        exact EqAt.none_list p2 hu0
      | ref y => exact (by simpa only [Den] using dy : False).elim
      | ty y => exact (by simpa only [Den] using dy : False).elim
    | bl x =>
      simp only [Den] at dx
      cases y with
      | non =>
        simp only [Den] at dy
        subst dx
        subst dy
        walk_at "e0"
        exact EqAt.bool_none _
      | bl y =>
        simp only [Den] at dy
        subst dx
        subst dy
        walk_at "e0"
        exact EqAt.bool_bool _ _
      | int y =>
        simp only [Den] at dy
        subst dx
        obtain ⟨t2, rfl⟩ := dy
        walk_at "e0"
        exact EqAt.bool_int _ _ _
      | str y =>
        simp only [Den] at dy
        subst dx
        obtain ⟨t2, rfl⟩ := dy
        walk_at "e0"
        exact EqAt.bool_str _ _ _
      | tup y =>
        simp only [Den] at dy
        subst dx
        obtain ⟨a2, its2, rfl, p2, d2⟩ := dy
        walk_at "e0"
        exact EqAt.bool_tuple _ p2 hu0
      | ls y =>
        simp only [Den] at dy
        subst dx
        obtain ⟨a2, its2, rfl, p2, d2⟩ := dy
        walk_at "e0"
        exact EqAt.bool_list _ p2 hu0
      | ref y => exact (by simpa only [Den] using dy : False).elim
      | ty y => exact (by simpa only [Den] using dy : False).elim
    | int x =>
      simp only [Den] at dx
      cases y with
      | non =>
        simp only [Den] at dy
        obtain ⟨t1, rfl⟩ := dx
        subst dy
        walk_at "e0"
        exact EqAt.int_none _ _
      | bl y =>
        simp only [Den] at dy
        obtain ⟨t1, rfl⟩ := dx
        subst dy
        walk_at "e0"
        exact EqAt.int_bool _ _ _
      | int y =>
        simp only [Den] at dy
        obtain ⟨t1, rfl⟩ := dx
        obtain ⟨t2, rfl⟩ := dy
        walk_at "e0"
        exact EqAt.int_int _ _ _ _
      | str y =>
        simp only [Den] at dy
        obtain ⟨t1, rfl⟩ := dx
        obtain ⟨t2, rfl⟩ := dy
        walk_at "e0"
        exact EqAt.int_str _ _ _ _
      | tup y =>
        simp only [Den] at dy
        obtain ⟨t1, rfl⟩ := dx
        obtain ⟨a2, its2, rfl, p2, d2⟩ := dy
        walk_at "e0"
        exact EqAt.int_tuple _ _ p2 hu0
      | ls y =>
        simp only [Den] at dy
        obtain ⟨t1, rfl⟩ := dx
        obtain ⟨a2, its2, rfl, p2, d2⟩ := dy
        walk_at "e0"
        exact EqAt.int_list _ _ p2 hu0
      | ref y => exact (by simpa only [Den] using dy : False).elim
      | ty y => exact (by simpa only [Den] using dy : False).elim
    | str x =>
      simp only [Den] at dx
      cases y with
      | non =>
        simp only [Den] at dy
        obtain ⟨t1, rfl⟩ := dx
        subst dy
        walk_at "e0"
        exact EqAt.str_none _ _
      | bl y =>
        simp only [Den] at dy
        obtain ⟨t1, rfl⟩ := dx
        subst dy
        walk_at "e0"
        exact EqAt.str_bool _ _ _
      | int y =>
        simp only [Den] at dy
        obtain ⟨t1, rfl⟩ := dx
        obtain ⟨t2, rfl⟩ := dy
        walk_at "e0"
        exact EqAt.str_int _ _ _ _
      | str y =>
        simp only [Den] at dy
        obtain ⟨t1, rfl⟩ := dx
        obtain ⟨t2, rfl⟩ := dy
        walk_at "e0"
        exact EqAt.str_str _ _ _ _
      | tup y =>
        simp only [Den] at dy
        obtain ⟨t1, rfl⟩ := dx
        obtain ⟨a2, its2, rfl, p2, d2⟩ := dy
        walk_at "e0"
        exact EqAt.str_tuple _ _ p2 hu0
      | ls y =>
        simp only [Den] at dy
        obtain ⟨t1, rfl⟩ := dx
        obtain ⟨a2, its2, rfl, p2, d2⟩ := dy
        walk_at "e0"
        exact EqAt.str_list _ _ p2 hu0
      | ref y => exact (by simpa only [Den] using dy : False).elim
      | ty y => exact (by simpa only [Den] using dy : False).elim
    | tup x =>
      simp only [Den] at dx
      cases y with
      | non =>
        simp only [Den] at dy
        obtain ⟨a1, its1, rfl, p1, d1⟩ := dx
        subst dy
        walk_at "e0"
        exact EqAt.tuple_none p1 hu0
      | bl y =>
        simp only [Den] at dy
        obtain ⟨a1, its1, rfl, p1, d1⟩ := dx
        subst dy
        walk_at "e0"
        exact EqAt.tuple_bool _ p1 hu0
      | int y =>
        simp only [Den] at dy
        obtain ⟨a1, its1, rfl, p1, d1⟩ := dx
        obtain ⟨t2, rfl⟩ := dy
        walk_at "e0"
        exact EqAt.tuple_int _ _ p1 hu0
      | str y =>
        simp only [Den] at dy
        obtain ⟨a1, its1, rfl, p1, d1⟩ := dx
        obtain ⟨t2, rfl⟩ := dy
        walk_at "e0"
        exact EqAt.tuple_str _ _ p1 hu0
      | tup y =>
        simp only [Den] at dy
        obtain ⟨a1, its1, rfl, p1, d1⟩ := dx
        obtain ⟨a2, its2, rfl, p2, d2⟩ := dy
        exact same_EqAt_tup x y _ _ _ _ p1 p2 d1 d2 ox oy
      | ls y =>
        simp only [Den] at dy
        obtain ⟨a1, its1, rfl, p1, d1⟩ := dx
        obtain ⟨a2, its2, rfl, p2, d2⟩ := dy
        walk_at "e0"
        exact EqAt.tuple_list p1 p2 hu0
      | ref y => exact (by simpa only [Den] using dy : False).elim
      | ty y => exact (by simpa only [Den] using dy : False).elim
    | ls x =>
      simp only [Den] at dx
      cases y with
      | non =>
        simp only [Den] at dy
        obtain ⟨a1, its1, rfl, p1, d1⟩ := dx
        subst dy
        walk_at "e0"
        exact EqAt.list_none p1 hu0
      | bl y =>
        simp only [Den] at dy
        obtain ⟨a1, its1, rfl, p1, d1⟩ := dx
        subst dy
        walk_at "e0"
        exact EqAt.list_bool _ p1 hu0
      | int y =>
        simp only [Den] at dy
        obtain ⟨a1, its1, rfl, p1, d1⟩ := dx
        obtain ⟨t2, rfl⟩ := dy
        walk_at "e0"
        exact EqAt.list_int _ _ p1 hu0
      | str y =>
        simp only [Den] at dy
        obtain ⟨a1, its1, rfl, p1, d1⟩ := dx
        obtain ⟨t2, rfl⟩ := dy
        walk_at "e0"
        exact EqAt.list_str _ _ p1 hu0
      | tup y =>
        simp only [Den] at dy
        obtain ⟨a1, its1, rfl, p1, d1⟩ := dx
        obtain ⟨a2, its2, rfl, p2, d2⟩ := dy
        walk_at "e0"
        exact EqAt.list_tuple p1 p2 hu0
      | ls y =>
        simp only [Den] at dy
        obtain ⟨a1, its1, rfl, p1, d1⟩ := dx
        obtain ⟨a2, its2, rfl, p2, d2⟩ := dy
        exact same_EqAt_ls x y _ _ _ _ p1 p2 d1 d2 ox oy
      | ref y => exact (by simpa only [Den] using dy : False).elim
      | ty y => exact (by simpa only [Den] using dy : False).elim
    | ref x => exact (by simpa only [Den] using dx : False).elim
    | ty x => exact (by simpa only [Den] using dx : False).elim
theorem rcNeAt_den (n : Nat) (x y : RV) (A : Around) (s : Shared) (u w : Value) (ox : okR (n + 1) x = true) (oy : okR (n + 1) y = true) (dx : Den s.heap x u) (dy : Den s.heap y w) (hu : A.units + (n + 1) < cLine) : RcNeAt A s u w (!eqR x y) := by
    have hu0 : A.units < cLine := by omega
    have item : ∀ (xs ys : List RV) (us ws : List Value), xs.all (okR n) = true → ys.all (okR n) = true → Dens s.heap xs us → Dens s.heap ys ws →
        ∀ j (j1 : j < us.toArray.size) (j2 : j < ws.toArray.size), EqAt A.in1 s us.toArray[j] ws.toArray[j] (pairR xs ys j) := fun xs ys us ws o1 o2 d1 d2 j j1 j2 => by
      obtain ⟨a1, b1⟩ := d1.get (j := j) (u := us.toArray[j]) (by simp)
      obtain ⟨a2, b2⟩ := d2.get (j := j) (u := ws.toArray[j]) (by simp)
      exact eqAt_den n _ _ A.in1 s _ _ (List.all_eq_true.mp o1 _ b1) (List.all_eq_true.mp o2 _ b2) a1 a2 (by rw [in1_units]; omega)
    have same_RcNeAt_tup : ∀ (xs ys : List RV) (a a' : Addr) (its its' : List Value), s.heap.IsTuple a its.toArray → s.heap.IsTuple a' its'.toArray → Dens s.heap xs its → Dens s.heap ys its' → okR (n + 1) (.tup xs) = true → okR (n + 1) (.tup ys) = true → RcNeAt A s (.ref a) (.ref a') (!eqR (RV.tup xs) (RV.tup ys)) := by
      intro xs ys a a' its its' p p' d d' ox oy
      rw [eqR, ← eqRs_eq, d.length, d'.length]
      have := RcNeAt.tuples p p' hu0 (item xs ys its its' ox oy d d')
      simpa using this
    have same_RcNeAt_ls : ∀ (xs ys : List RV) (a a' : Addr) (its its' : List Value), s.heap.IsList a its.toArray → s.heap.IsList a' its'.toArray → Dens s.heap xs its → Dens s.heap ys its' → okR (n + 1) (.ls xs) = true → okR (n + 1) (.ls ys) = true → RcNeAt A s (.ref a) (.ref a') (!eqR (RV.ls xs) (RV.ls ys)) := by
      intro xs ys a a' its its' p p' d d' ox oy
      rw [eqR]
      by_cases hz : xs.length = ys.length
      · rw [← eqRs_same hz, d.length]
        have := RcNeAt.lists p p' (by simp [← d.length, ← d'.length, hz]) hu0 (item xs ys its its' ox oy d d')
        simpa using this
      · rw [eqRs_other hz]
        exact RcNeAt.lists_lengths p p' (by simp [← d.length, ← d'.length, hz]) hu0
    cases x with
    | non =>
      simp only [Den] at dx
      cases y with
      | non =>
        simp only [Den] at dy
        subst dx
        subst dy
        walk_at "e0"
        exact RcNeAt.none_none
      | bl y =>
        simp only [Den] at dy
        subst dx
        subst dy
        walk_at "e0"
        exact RcNeAt.none_bool _
      | int y =>
        simp only [Den] at dy
        subst dx
        obtain ⟨t2, rfl⟩ := dy
        walk_at "e0"
        exact RcNeAt.none_int _ _
      | str y =>
        simp only [Den] at dy
        subst dx
        obtain ⟨t2, rfl⟩ := dy
        walk_at "e0"
        exact RcNeAt.none_str _ _
      | tup y =>
        simp only [Den] at dy
        subst dx
        obtain ⟨a2, its2, rfl, p2, d2⟩ := dy
        walk_at "e0"
        exact RcNeAt.none_tuple p2 hu0
      | ls y =>
        simp only [Den] at dy
        subst dx
        obtain ⟨a2, its2, rfl, p2, d2⟩ := dy
        walk_at "e0"
        exact RcNeAt.none_list p2 hu0
      | ref y => exact (by simpa only [Den] using dy : False).elim
      | ty y => exact (by simpa only [Den] using dy : False).elim
    | bl x =>
      simp only [Den] at dx
      cases y with
      | non =>
        simp only [Den] at dy
        subst dx
        subst dy
        walk_at "e0"
        exact RcNeAt.bool_none _
      | bl y =>
        simp only [Den] at dy
        subst dx
        subst dy
        walk_at "e0"
        exact RcNeAt.bool_bool _ _
      | int y =>
        simp only [Den] at dy
        subst dx
        obtain ⟨t2, rfl⟩ := dy
        walk_at "e0"
        exact RcNeAt.bool_int _ _ _
      | str y =>
        simp only [Den] at dy
        subst dx
        obtain ⟨t2, rfl⟩ := dy
        walk_at "e0"
        exact RcNeAt.bool_str _ _ _
      | tup y =>
        simp only [Den] at dy
        subst dx
        obtain ⟨a2, its2, rfl, p2, d2⟩ := dy
        walk_at "e0"
        exact RcNeAt.bool_tuple _ p2 hu0
      | ls y =>
        simp only [Den] at dy
        subst dx
        obtain ⟨a2, its2, rfl, p2, d2⟩ := dy
        walk_at "e0"
        exact RcNeAt.bool_list _ p2 hu0
      | ref y => exact (by simpa only [Den] using dy : False).elim
      | ty y => exact (by simpa only [Den] using dy : False).elim
    | int x =>
      simp only [Den] at dx
      cases y with
      | non =>
        simp only [Den] at dy
        obtain ⟨t1, rfl⟩ := dx
        subst dy
        walk_at "e0"
        exact RcNeAt.int_none _ _
      | bl y =>
        simp only [Den] at dy
        obtain ⟨t1, rfl⟩ := dx
        subst dy
        walk_at "e0"
        exact RcNeAt.int_bool _ _ _
      | int y =>
        simp only [Den] at dy
        obtain ⟨t1, rfl⟩ := dx
        obtain ⟨t2, rfl⟩ := dy
        walk_at "e0"
        exact RcNeAt.int_int _ _ _ _
      | str y =>
        simp only [Den] at dy
        obtain ⟨t1, rfl⟩ := dx
        obtain ⟨t2, rfl⟩ := dy
        walk_at "e0"
        exact RcNeAt.int_str _ _ _ _
      | tup y =>
        simp only [Den] at dy
        obtain ⟨t1, rfl⟩ := dx
        obtain ⟨a2, its2, rfl, p2, d2⟩ := dy
        walk_at "e0"
        exact RcNeAt.int_tuple _ _ p2 hu0
      | ls y =>
        simp only [Den] at dy
        obtain ⟨t1, rfl⟩ := dx
        obtain ⟨a2, its2, rfl, p2, d2⟩ := dy
        walk_at "e0"
        exact RcNeAt.int_list _ _ p2 hu0
      | ref y => exact (by simpa only [Den] using dy : False).elim
      | ty y => exact (by simpa only [Den] using dy : False).elim
    | str x =>
      simp only [Den] at dx
      cases y with
      | non =>
        simp only [Den] at dy
        obtain ⟨t1, rfl⟩ := dx
        subst dy
        walk_at "e0"
        exact RcNeAt.str_none _ _
      | bl y =>
        simp only [Den] at dy
        obtain ⟨t1, rfl⟩ := dx
        subst dy
        walk_at "e0"
        exact RcNeAt.str_bool _ _ _
      | int y =>
        simp only [Den] at dy
        obtain ⟨t1, rfl⟩ := dx
        obtain ⟨t2, rfl⟩ := dy
        walk_at "e0"
        exact RcNeAt.str_int _ _ _ _
      | str y =>
        simp only [Den] at dy
        obtain ⟨t1, rfl⟩ := dx
        obtain ⟨t2, rfl⟩ := dy
        walk_at "e0"
        exact RcNeAt.str_str _ _ _ _
      | tup y =>
        simp only [Den] at dy
        obtain ⟨t1, rfl⟩ := dx
        obtain ⟨a2, its2, rfl, p2, d2⟩ := dy
        walk_at "e0"
        exact RcNeAt.str_tuple _ _ p2 hu0
      | ls y =>
        simp only [Den] at dy
        obtain ⟨t1, rfl⟩ := dx
        obtain ⟨a2, its2, rfl, p2, d2⟩ := dy
        walk_at "e0"
        exact RcNeAt.str_list _ _ p2 hu0
      | ref y => exact (by simpa only [Den] using dy : False).elim
      | ty y => exact (by simpa only [Den] using dy : False).elim
    | tup x =>
      simp only [Den] at dx
      cases y with
      | non =>
        simp only [Den] at dy
        obtain ⟨a1, its1, rfl, p1, d1⟩ := dx
        subst dy
        walk_at "e0"
        exact RcNeAt.tuple_none p1 hu0
      | bl y =>
        simp only [Den] at dy
        obtain ⟨a1, its1, rfl, p1, d1⟩ := dx
        subst dy
        walk_at "e0"
        exact RcNeAt.tuple_bool _ p1 hu0
      | int y =>
        simp only [Den] at dy
        obtain ⟨a1, its1, rfl, p1, d1⟩ := dx
        obtain ⟨t2, rfl⟩ := dy
        walk_at "e0"
        exact RcNeAt.tuple_int _ _ p1 hu0
      | str y =>
        simp only [Den] at dy
        obtain ⟨a1, its1, rfl, p1, d1⟩ := dx
        obtain ⟨t2, rfl⟩ := dy
        walk_at "e0"
        exact RcNeAt.tuple_str _ _ p1 hu0
      | tup y =>
        simp only [Den] at dy
        obtain ⟨a1, its1, rfl, p1, d1⟩ := dx
        obtain ⟨a2, its2, rfl, p2, d2⟩ := dy
        exact same_RcNeAt_tup x y _ _ _ _ p1 p2 d1 d2 ox oy
      | ls y =>
        simp only [Den] at dy
        obtain ⟨a1, its1, rfl, p1, d1⟩ := dx
        obtain ⟨a2, its2, rfl, p2, d2⟩ := dy
        walk_at "e0"
        exact RcNeAt.tuple_list p1 p2 hu0
      | ref y => exact (by simpa only [Den] using dy : False).elim
      | ty y => exact (by simpa only [Den] using dy : False).elim
    | ls x =>
      simp only [Den] at dx
      cases y with
      | non =>
        simp only [Den] at dy
        obtain ⟨a1, its1, rfl, p1, d1⟩ := dx
        subst dy
        walk_at "e0"
        exact RcNeAt.list_none p1 hu0
      | bl y =>
        simp only [Den] at dy
        obtain ⟨a1, its1, rfl, p1, d1⟩ := dx
        subst dy
        walk_at "e0"
        exact RcNeAt.list_bool _ p1 hu0
      | int y =>
        simp only [Den] at dy
        obtain ⟨a1, its1, rfl, p1, d1⟩ := dx
        obtain ⟨t2, rfl⟩ := dy
        walk_at "e0"
        exact RcNeAt.list_int _ _ p1 hu0
      | str y =>
        simp only [Den] at dy
        obtain ⟨a1, its1, rfl, p1, d1⟩ := dx
        obtain ⟨t2, rfl⟩ := dy
        walk_at "e0"
        exact RcNeAt.list_str _ _ p1 hu0
      | tup y =>
        simp only [Den] at dy
        obtain ⟨a1, its1, rfl, p1, d1⟩ := dx
        obtain ⟨a2, its2, rfl, p2, d2⟩ := dy
        walk_at "e0"
        exact RcNeAt.list_tuple p1 p2 hu0
      | ls y =>
        simp only [Den] at dy
        obtain ⟨a1, its1, rfl, p1, d1⟩ := dx
        obtain ⟨a2, its2, rfl, p2, d2⟩ := dy
        exact same_RcNeAt_ls x y _ _ _ _ p1 p2 d1 d2 ox oy
      | ref y => exact (by simpa only [Den] using dy : False).elim
      | ty y => exact (by simpa only [Den] using dy : False).elim
    | ref x => exact (by simpa only [Den] using dx : False).elim
    | ty x => exact (by simpa only [Den] using dx : False).elim
theorem rcAt_den (n : Nat) (x y : RV) (A : Around) (s : Shared) (u w : Value) (ox : okR (n + 1) x = true) (oy : okR (n + 1) y = true) (dx : Den s.heap x u) (dy : Den s.heap y w) (hu : A.units + (n + 1) < cLine) : RcAt A s u w (eqR x y) := by
    have hu0 : A.units < cLine := by omega
    have item : ∀ (xs ys : List RV) (us ws : List Value), xs.all (okR n) = true → ys.all (okR n) = true → Dens s.heap xs us → Dens s.heap ys ws →
        ∀ j (j1 : j < us.toArray.size) (j2 : j < ws.toArray.size), EqAt A.in1 s us.toArray[j] ws.toArray[j] (pairR xs ys j) := fun xs ys us ws o1 o2 d1 d2 j j1 j2 => by
      obtain ⟨a1, b1⟩ := d1.get (j := j) (u := us.toArray[j]) (by simp)
      obtain ⟨a2, b2⟩ := d2.get (j := j) (u := ws.toArray[j]) (by simp)
      exact eqAt_den n _ _ A.in1 s _ _ (List.all_eq_true.mp o1 _ b1) (List.all_eq_true.mp o2 _ b2) a1 a2 (by rw [in1_units]; omega)
    have same_RcAt_tup : ∀ (xs ys : List RV) (a a' : Addr) (its its' : List Value), s.heap.IsTuple a its.toArray → s.heap.IsTuple a' its'.toArray → Dens s.heap xs its → Dens s.heap ys its' → okR (n + 1) (.tup xs) = true → okR (n + 1) (.tup ys) = true → RcAt A s (.ref a) (.ref a') (eqR (RV.tup xs) (RV.tup ys)) := by
      intro xs ys a a' its its' p p' d d' ox oy
      rw [eqR, ← eqRs_eq, d.length, d'.length]
      have := RcAt.tuples p p' hu0 (item xs ys its its' ox oy d d')
      simpa using this
    have same_RcAt_ls : ∀ (xs ys : List RV) (a a' : Addr) (its its' : List Value), s.heap.IsList a its.toArray → s.heap.IsList a' its'.toArray → Dens s.heap xs its → Dens s.heap ys its' → okR (n + 1) (.ls xs) = true → okR (n + 1) (.ls ys) = true → RcAt A s (.ref a) (.ref a') (eqR (RV.ls xs) (RV.ls ys)) := by
      intro xs ys a a' its its' p p' d d' ox oy
      rw [eqR]
      by_cases hz : xs.length = ys.length
      · rw [← eqRs_same hz, d.length]
        have := RcAt.lists p p' (by simp [← d.length, ← d'.length, hz]) hu0 (item xs ys its its' ox oy d d')
        simpa using this
      · rw [eqRs_other hz]
        exact RcAt.lists_lengths p p' (by simp [← d.length, ← d'.length, hz]) hu0
    cases x with
    | non =>
      simp only [Den] at dx
      cases y with
      | non =>
        simp only [Den] at dy
        subst dx
        subst dy
        walk_at "e0"
        exact RcAt.none_none
      | bl y =>
        simp only [Den] at dy
        subst dx
        subst dy
        walk_at "e0"
        exact RcAt.none_bool _
      | int y =>
        simp only [Den] at dy
        subst dx
        obtain ⟨t2, rfl⟩ := dy
        walk_at "e0"
        exact RcAt.none_int _ _
      | str y =>
        simp only [Den] at dy
        subst dx
        obtain ⟨t2, rfl⟩ := dy
        walk_at "e0"
        exact RcAt.none_str _ _
      | tup y =>
        simp only [Den] at dy
        subst dx
        obtain ⟨a2, its2, rfl, p2, d2⟩ := dy
        walk_at "e0"
        exact RcAt.none_tuple p2 hu0
      | ls y =>
        simp only [Den] at dy
        subst dx
        obtain ⟨a2, its2, rfl, p2, d2⟩ := dy
        walk_at "e0"
        exact RcAt.none_list p2 hu0
      | ref y => exact (by simpa only [Den] using dy : False).elim
      | ty y => exact (by simpa only [Den] using dy : False).elim
    | bl x =>
      simp only [Den] at dx
      cases y with
      | non =>
        simp only [Den] at dy
        subst dx
        subst dy
        walk_at "e0"
        exact RcAt.bool_none _
      | bl y =>
        simp only [Den] at dy
        subst dx
        subst dy
        walk_at "e0"
        exact RcAt.bool_bool _ _
      | int y =>
        simp only [Den] at dy
        subst dx
        obtain ⟨t2, rfl⟩ := dy
        walk_at "e0"
        exact RcAt.bool_int _ _ _
      | str y =>
        simp only [Den] at dy
        subst dx
        obtain ⟨t2, rfl⟩ := dy
        walk_at "e0"
        exact RcAt.bool_str _ _ _
      | tup y =>
        simp only [Den] at dy
        subst dx
        obtain ⟨a2, its2, rfl, p2, d2⟩ := dy
        walk_at "e0"
        exact RcAt.bool_tuple _ p2 hu0
      | ls y =>
        simp only [Den] at dy
        subst dx
        obtain ⟨a2, its2, rfl, p2, d2⟩ := dy
        walk_at "e0"
        exact RcAt.bool_list _ p2 hu0
      | ref y => exact (by simpa only [Den] using dy : False).elim
      | ty y => exact (by simpa only [Den] using dy : False).elim
    | int x =>
      simp only [Den] at dx
      cases y with
      | non =>
        simp only [Den] at dy
        obtain ⟨t1, rfl⟩ := dx
        subst dy
        walk_at "e0"
        exact RcAt.int_none _ _
      | bl y =>
        simp only [Den] at dy
        obtain ⟨t1, rfl⟩ := dx
        subst dy
        walk_at "e0"
        exact RcAt.int_bool _ _ _
      | int y =>
        simp only [Den] at dy
        obtain ⟨t1, rfl⟩ := dx
        obtain ⟨t2, rfl⟩ := dy
        walk_at "e0"
        exact RcAt.int_int _ _ _ _
      | str y =>
        simp only [Den] at dy
        obtain ⟨t1, rfl⟩ := dx
        obtain ⟨t2, rfl⟩ := dy
        walk_at "e0"
        exact RcAt.int_str _ _ _ _
      | tup y =>
        simp only [Den] at dy
        obtain ⟨t1, rfl⟩ := dx
        obtain ⟨a2, its2, rfl, p2, d2⟩ := dy
        walk_at "e0"
        exact RcAt.int_tuple _ _ p2 hu0
      | ls y =>
        simp only [Den] at dy
        obtain ⟨t1, rfl⟩ := dx
        obtain ⟨a2, its2, rfl, p2, d2⟩ := dy
        walk_at "e0"
        exact RcAt.int_list _ _ p2 hu0
      | ref y => exact (by simpa only [Den] using dy : False).elim
      | ty y => exact (by simpa only [Den] using dy : False).elim
    | str x =>
      simp only [Den] at dx
      cases y with
      | non =>
        simp only [Den] at dy
        obtain ⟨t1, rfl⟩ := dx
        subst dy
        walk_at "e0"
        exact RcAt.str_none _ _
      | bl y =>
        simp only [Den] at dy
        obtain ⟨t1, rfl⟩ := dx
        subst dy
        walk_at "e0"
        exact RcAt.str_bool _ _ _
      | int y =>
        simp only [Den] at dy
        obtain ⟨t1, rfl⟩ := dx
        obtain ⟨t2, rfl⟩ := dy
        walk_at "e0"
        exact RcAt.str_int _ _ _ _
      | str y =>
        simp only [Den] at dy
        obtain ⟨t1, rfl⟩ := dx
        obtain ⟨t2, rfl⟩ := dy
        walk_at "e0"
        exact RcAt.str_str _ _ _ _
      | tup y =>
        simp only [Den] at dy
        obtain ⟨t1, rfl⟩ := dx
        obtain ⟨a2, its2, rfl, p2, d2⟩ := dy
        walk_at "e0"
        exact RcAt.str_tuple _ _ p2 hu0
      | ls y =>
        simp only [Den] at dy
        obtain ⟨t1, rfl⟩ := dx
        obtain ⟨a2, its2, rfl, p2, d2⟩ := dy
        walk_at "e0"
        exact RcAt.str_list _ _ p2 hu0
      | ref y => exact (by simpa only [Den] using dy : False).elim
      | ty y => exact (by simpa only [Den] using dy : False).elim
    | tup x =>
      simp only [Den] at dx
      cases y with
      | non =>
        simp only [Den] at dy
        obtain ⟨a1, its1, rfl, p1, d1⟩ := dx
        subst dy
        walk_at "e0"
        exact RcAt.tuple_none p1 hu0
      | bl y =>
        simp only [Den] at dy
        obtain ⟨a1, its1, rfl, p1, d1⟩ := dx
        subst dy
        walk_at "e0"
        exact RcAt.tuple_bool _ p1 hu0
      | int y =>
        simp only [Den] at dy
        obtain ⟨a1, its1, rfl, p1, d1⟩ := dx
        obtain ⟨t2, rfl⟩ := dy
        walk_at "e0"
        exact RcAt.tuple_int _ _ p1 hu0
      | str y =>
        simp only [Den] at dy
        obtain ⟨a1, its1, rfl, p1, d1⟩ := dx
        obtain ⟨t2, rfl⟩ := dy
        walk_at "e0"
        exact RcAt.tuple_str _ _ p1 hu0
      | tup y =>
        simp only [Den] at dy
        obtain ⟨a1, its1, rfl, p1, d1⟩ := dx
        obtain ⟨a2, its2, rfl, p2, d2⟩ := dy
        exact same_RcAt_tup x y _ _ _ _ p1 p2 d1 d2 ox oy
      | ls y =>
        simp only [Den] at dy
        obtain ⟨a1, its1, rfl, p1, d1⟩ := dx
        obtain ⟨a2, its2, rfl, p2, d2⟩ := dy
        walk_at "e0"
        exact RcAt.tuple_list p1 p2 hu0
      | ref y => exact (by simpa only [Den] using dy : False).elim
      | ty y => exact (by simpa only [Den] using dy : False).elim
    | ls x =>
      simp only [Den] at dx
      cases y with
      | non =>
        simp only [Den] at dy
        obtain ⟨a1, its1, rfl, p1, d1⟩ := dx
        subst dy
        walk_at "e0"
        exact RcAt.list_none p1 hu0
      | bl y =>
        simp only [Den] at dy
        obtain ⟨a1, its1, rfl, p1, d1⟩ := dx
        subst dy
        walk_at "e0"
        exact RcAt.list_bool _ p1 hu0
      | int y =>
        simp only [Den] at dy
        obtain ⟨a1, its1, rfl, p1, d1⟩ := dx
        obtain ⟨t2, rfl⟩ := dy
        walk_at "e0"
        exact RcAt.list_int _ _ p1 hu0
      | str y =>
        simp only [Den] at dy
        obtain ⟨a1, its1, rfl, p1, d1⟩ := dx
        obtain ⟨t2, rfl⟩ := dy
        walk_at "e0"
        exact RcAt.list_str _ _ p1 hu0
      | tup y =>
        simp only [Den] at dy
        obtain ⟨a1, its1, rfl, p1, d1⟩ := dx
        obtain ⟨a2, its2, rfl, p2, d2⟩ := dy
        walk_at "e0"
        exact RcAt.list_tuple p1 p2 hu0
      | ls y =>
        simp only [Den] at dy
        obtain ⟨a1, its1, rfl, p1, d1⟩ := dx
        obtain ⟨a2, its2, rfl, p2, d2⟩ := dy
        exact same_RcAt_ls x y _ _ _ _ p1 p2 d1 d2 ox oy
      | ref y => exact (by simpa only [Den] using dy : False).elim
      | ty y => exact (by simpa only [Den] using dy : False).elim
    | ref x => exact (by simpa only [Den] using dx : False).elim
    | ty x => exact (by simpa only [Den] using dx : False).elim
end R
namespace R
open PySem PySem.Spec PyProof.Rows L2
section
variable {X : Cx}
theorem ropI {f : Value → Value → Sem Value} {r : R2} {rr : RR2} (h : OpR X f r) (ri : ∀ (i j : Int) M Q (H : Hp) (Q0 : VK), rr (.int i) (.int j) M Q → (∀ z : RV, Q z M → ∀ v, Rep X.K H z v → Q0 v H) → r (.int i) (.int j) H Q0)
    (no : ∀ x y M Q, rr x y M Q → ∃ i j, x = .int i ∧ y = .int j) : ROp X f rr := by
  intro pins s σ H x y v u Q0 I rx ry h'
  obtain ⟨a, b, M, Q, ra, rb, hv, hq, hk⟩ := h'
  obtain ⟨i, j, rfl, rfl⟩ := no a b M Q hq
  simp only [Rep] at ra rb
  subst ra; subst rb
  exact h pins s σ H _ _ v u Q0 I rx ry (ri i j M Q H Q0 hq fun z q v' rz => hk z M v' H q (.refl H) hv rz)
def rInt2 (C : Int → Int → Prop) (g : Int → Int → RV) : RR2 := fun x y M Q => match x, y with | .int i, .int j => C i j ∧ Q (g i j) M | _, _ => False
def rInt0 (g : Int → Int → RV) : RR2 := fun x y M Q => match x, y with | .int i, .int j => Q (g i j) M | _, _ => False
theorem rInt2_no {C : Int → Int → Prop} {g : Int → Int → RV} (x y : RV) (M : RM) (Q : RVK) (h : rInt2 C g x y M Q) : ∃ i j, x = .int i ∧ y = .int j := by
  unfold rInt2 at h
  split at h
  · exact ⟨_, _, rfl, rfl⟩
  · exact h.elim
theorem rInt0_no {g : Int → Int → RV} (x y : RV) (M : RM) (Q : RVK) (h : rInt0 g x y M Q) : ∃ i j, x = .int i ∧ y = .int j := by
  unfold rInt0 at h
  split at h
  · exact ⟨_, _, rfl, rfl⟩
  · exact h.elim
abbrev rSub : RR2 := rInt0 fun i j => .int (i - j)
theorem osub : ROp X (binaryOp .Sub) rSub := ropI op_sub (fun i j M Q H Q0 h k => ⟨i, j, rfl, rfl, k _ h _ (by simp only [Rep])⟩) rInt0_no
abbrev rMod : RR2 := rInt2 (fun _ j => 0 < j) fun i j => .int (i % j)
theorem omod : ROp X (binaryOp .Mod) rMod := ropI op_mod (fun i j M Q H Q0 h k => ⟨i, j, rfl, rfl, h.1, k _ h.2 _ (by simp only [Rep])⟩) rInt2_no
abbrev rDiv : RR2 := rInt2 (fun _ j => 0 < j ∧ j < 1073741824) fun i j => .int (i / j)
theorem odiv : ROp X (binaryOp .FloorDiv) rDiv := ropI op_fdiv (fun i j M Q H Q0 h k => ⟨i, j, rfl, rfl, h.1, k _ h.2 _ (by simp only [Rep])⟩) rInt2_no
abbrev rPow : RR2 := rInt2 (fun i j => 0 ≤ j ∧ j ≤ 1000000 ∧ i.natAbs < 2 ^ 64) fun i j => .int (i ^ j.toNat)
theorem opow : ROp X (binaryOp .Pow) rPow := ropI op_pow (fun i j M Q H Q0 h k => ⟨i, j, rfl, rfl, h.1, k _ h.2 _ (by simp only [Rep])⟩) rInt2_no
abbrev rShr : RR2 := rInt2 (fun _ j => 0 ≤ j) fun i j => .int (i / 2 ^ j.toNat)
abbrev rBand : RR2 := rInt0 fun i j => .int (Builtin.bitAnd i j)
abbrev rLt : RR2 := rInt0 fun i j => .bl (decide (i < j))
theorem olt : ROp X (compareOp .Lt) rLt := ropI op_lt (fun i j M Q H Q0 h k => ⟨i, j, rfl, rfl, k _ h _ (by simp only [Rep])⟩) rInt0_no
abbrev rLe : RR2 := rInt0 fun i j => .bl (decide (i ≤ j))
theorem ole : ROp X (compareOp .LtE) rLe := ropI op_le (fun i j M Q H Q0 h k => ⟨i, j, rfl, rfl, k _ h _ (by simp only [Rep])⟩) rInt0_no
abbrev rGt : RR2 := rInt0 fun i j => .bl (decide (j < i))
theorem ogt : ROp X (compareOp .Gt) rGt := ropI op_gt (fun i j M Q H Q0 h k => ⟨i, j, rfl, rfl, k _ h _ (by simp only [Rep])⟩) rInt0_no
abbrev rGe : RR2 := rInt0 fun i j => .bl (decide (j ≤ i))
theorem oge : ROp X (compareOp .GtE) rGe := ropI op_ge (fun i j M Q H Q0 h k => ⟨i, j, rfl, rfl, k _ h _ (by simp only [Rep])⟩) rInt0_no
def rgNeg : RV → RM → RVK → Prop := fun x M Q => match x with | .int i => Q (.int (-i)) M | _ => False
theorem oneg : UnR X (unaryOp .USub) (upU X.K rgNeg) := by
  intro pins s σ H x v Q0 I rx h
  obtain ⟨a, M, Q, ra, hv, hq, hk⟩ := h
  cases a with
  | int i => simp only [Rep] at ra; exact un_neg pins s σ H x v Q0 I rx ⟨i, ra, hk _ M _ H hq (.refl H) hv (by simp only [Rep])⟩
  | _ => exact (show False from hq).elim
def rMul : RR2 := fun x y M Q => match x, y with
  | .int i, .int j => CMul i j ∧ Q (.int (i * j)) M
  | .ref a, .int k => ∃ xs, M a = some (.lst xs) ∧ -(2 ^ 63) ≤ k ∧ k < 2 ^ 63 ∧ xs.length * k.toNat ≤ sizeLine ∧ Q (.ls (List.replicate k.toNat xs).flatten) M
  | _, _ => False
theorem reps_flat {K : PySem.W.Frag} {H : Hp} {xs : List RV} {vs : List V} (r : Reps K H xs vs) : ∀ n : Nat, Reps K H (List.replicate n xs).flatten (List.replicate n vs).flatten
  | 0 => by simpa using Reps.nil
  | n + 1 => by
    rw [List.replicate_succ, List.flatten_cons, List.replicate_succ, List.flatten_cons]
    exact r.append (reps_flat r n)
theorem omul : ROp X (binaryOp .Mult) rMul := by
  intro pins s σ H x y v u Q0 I rx ry h
  obtain ⟨a, b, M, Q, ra, rb, hv, hq, hk⟩ := h
  cases a with
  | int i =>
    cases b with
    | int j => simp only [Rep] at ra rb; exact op_mul pins s σ H x y v u Q0 I rx ry ⟨i, j, ra, rb, hq.1, hk _ M _ H hq.2 (.refl H) hv (by simp only [Rep])⟩
    | _ => exact (show False from hq).elim
  | ref p =>
    cases b with
    | int k =>
      simp only [Rep] at ra rb
      obtain ⟨xs, hm, h1, h2, h3, h4⟩ := hq
      obtain ⟨ho, e, r⟩ := hv p _ hm
      obtain ⟨vs, rfl, rr⟩ := r
      refine thn (op_rep pins s σ H x y v u (fun v H' => ∃ H1 p xs, v = .ref p ∧ H1 p = none ∧ H' = upd H1 p (.lst xs) ∧ ∀ o, Q0 (.ref p) (upd H1 p (.frz o (.lst xs)))) I rx ry ⟨p, k, vs, ra, rb, e, h1, h2, by rw [← rr.length]; exact h3, fun q hq => ⟨H, q, _, rfl, hq, rfl, fun o => ?_⟩⟩) fun _ _ e => frozen e
      exact hk _ M _ _ h4 (Ext.new hq) (hv.new hq) (rep_ls hq (reps_flat rr _))
    | _ => exact (show False from hq).elim
  | _ => cases b <;> exact (show False from hq).elim
def rAdd : RR2 := fun x y M Q => match x, y with
  | .int i, .int j => Q (.int (i + j)) M
  | .str i, .str j => i.length + j.length ≤ sizeLine ∧ Q (.str (i ++ j)) M
  | .tup xs, .tup ys => xs.length + ys.length ≤ sizeLine ∧ Q (.tup (xs ++ ys)) M
  | .ls xs, .ls ys => xs.length + ys.length ≤ sizeLine ∧ Q (.ls (xs ++ ys)) M
  | _, _ => False
theorem cat_tup0 {prog : Program} {w : World} {A : Around} {E : Value → Shared → Prop} {s : Shared} {t b : Addr} {ws : List Value} {Q : Value → Shared → Prop} (ht : IsTup s.heap t ([] : List Value).toArray) (hb : IsTup s.heap b ws.toArray) (h : Q (.ref b) s) :
    wpAny (model prog w) A (binaryOp .Add (.ref t) (.ref b)) Q E s := by
  obtain ⟨⟨cls, dd, data, sl⟩, ho, hc, n, hd⟩ := id ht
  obtain ⟨⟨cls2, dd2, data2, sl2⟩, ho2, hc2, n2, hd2⟩ := id hb
  simp only at hc hd hc2 hd2
  subst hc hd hc2 hd2
  exact concat_meets ⟨_, ho, rfl⟩ ⟨_, ho2, rfl⟩ noFill_tuple_add seq_tuple_add PySem.F.slot_tuple_add PySem.F.entry_tuple_add (PySem.F.args_tuple_add_2 _ _)
      (tuple_addW0 t b [].toArray ws.toArray n n2 dd dd2 sl sl2 (by simp)) ⟨ho, ho2, h⟩
theorem cat_lst {prog : Program} {w : World} {A : Around} {E : Value → Shared → Prop} {s : Shared} {l b : Addr} {vs ws : List Value} {Q : Value → Shared → Prop} (hl : s.heap.IsList l vs.toArray) (hb : s.heap.IsList b ws.toArray)
    (h : Q (.ref s.heap.objs.size) { s with heap := s.heap.push { cls := .type "list", data := .seq (vs ++ ws).toArray } }) (hsz : vs.length + ws.length ≤ sizeLine) :
    wpAny (model prog w) A (binaryOp .Add (.ref l) (.ref b)) Q E s := by
  obtain ⟨⟨cls, dd, data, sl⟩, ho, hc, n, hd⟩ := id hl
  obtain ⟨⟨cls2, dd2, data2, sl2⟩, ho2, hc2, n2, hd2⟩ := id hb
  simp only at hc hd hc2 hd2
  subst hc hd hc2 hd2
  have e : vs.toArray ++ ws.toArray = (vs ++ ws).toArray := by simp
  refine concat_meets ⟨_, ho, rfl⟩ ⟨_, ho2, rfl⟩ noFill_list_add seq_list_add PySem.F.slot_list_add PySem.F.entry_list_add (PySem.F.args_list_add_2 _ _) (list_addW l b vs.toArray ws.toArray n n2 dd dd2 sl sl2 (by simpa using hsz)) ⟨ho, ho2, ?_⟩
  rw [e]
  exact h
theorem oadd : ROp X (binaryOp .Add) rAdd := by
  intro pins s σ H x y v u Q0 I rx ry h
  obtain ⟨a, b, M, Q, ra, rb, hv, hq, hk⟩ := h
  cases a with
  | int i =>
    cases b with
    | int j => simp only [Rep] at ra rb; exact op_add pins s σ H x y v u Q0 I rx ry ⟨i, j, ra, rb, hk _ M _ H hq (.refl H) hv (by simp only [Rep])⟩
    | _ => exact (show False from hq).elim
  | str i =>
    cases b with
    | str j => simp only [Rep] at ra rb; exact op_add_str pins s σ H x y v u Q0 I rx ry ⟨i, j, ra, rb, hq.1, hk _ M _ H hq.2 (.refl H) hv (by simp only [Rep])⟩
    | _ => exact (show False from hq).elim
  | tup xs =>
    cases b with
    | tup ys =>
      obtain ⟨hz, hq⟩ := hq
      simp only [Rep] at ra rb
      obtain ⟨p, vs, rfl, hp, hr⟩ := ra
      obtain ⟨q, ws, rfl, hp2, hr2⟩ := rb
      by_cases hn : vs = []
      · subst hn
        have hx : xs = [] := by have := hr.length; simpa using this
        subst hx
        cases rx; cases ry
        obtain ⟨its, r1, p1, _⟩ := I.tuple hp
        obtain ⟨its2, r2, p2, _⟩ := I.tuple hp2
        cases r1
        exact cat_tup0 p1 p2 ⟨.ref q, H, I, rfl, hk _ M _ H hq (.refl H) hv (by simp only [Rep, List.nil_append]; exact ⟨q, ws, rfl, hp2, hr2⟩)⟩
      · refine op_catT pins s σ H _ _ v u Q0 I rx ry ⟨p, q, vs, ws, rfl, rfl, hp, hp2, hn, by rw [← hr.length, ← hr2.length]; exact hz, fun e => ?_, fun e l hl => ?_⟩
        · subst e
          have hy : ys = [] := by have := hr2.length; simpa using this
          subst hy
          exact hk _ M _ H hq (.refl H) hv (by simp only [Rep, List.append_nil]; exact ⟨p, vs, rfl, hp, hr⟩)
        · exact hk _ M _ _ hq (Ext.new hl) (hv.new hl) (rep_tup hl (hr.append hr2))
    | _ => exact (show False from hq).elim
  | ls xs =>
    cases b with
    | ls ys =>
      obtain ⟨hz, hq⟩ := hq
      simp only [Rep] at ra rb
      obtain ⟨p, vs, rfl, hp, hr⟩ := ra
      obtain ⟨q, ws, rfl, hp2, hr2⟩ := rb
      cases rx; cases ry
      obtain ⟨its, r1, p1, z1⟩ := I.list hp.sq
      obtain ⟨its2, r2, p2, z2⟩ := I.list hp2.sq
      have hz' : vs.length + ws.length ≤ sizeLine := by rw [← hr.length, ← hr2.length]; exact hz
      refine thn (cat_lst (Q := EP X pins σ (fun v H' => ∃ H1 p xs, v = .ref p ∧ H1 p = none ∧ H' = upd H1 p (.lst xs) ∧ ∀ o, Q0 (.ref p) (upd H1 p (.frz o (.lst xs))))) p1.isList p2.isList ?_ (by rw [← r1.length, ← r2.length]; exact hz')) fun _ _ e => frozen e
      have hf := I.hok.fresh (Nat.le_refl s.heap.objs.size)
      refine ⟨.ref s.heap.objs.size, upd H s.heap.objs.size (.lst (vs ++ ws)), I.laid (t' := s.toks) (fun b ob q => Heap.get?_push_of_some _ q) (Nat.le_refl _) ?_, rfl, H, _, _, rfl, hf, rfl, fun o => ?_⟩
      · exact ⟨by rw [List.length_append]; exact hz', _, 0, r1.append r2, Heap.get?_push_size _ rfl⟩
      · exact hk _ M _ _ hq (Ext.new hf) (hv.new hf) (rep_ls hf (hr.append hr2))
    | _ => exact (show False from hq).elim
  | _ => cases b <;> exact (show False from hq).elim
def rEqq : RR2 := fun x y M Q => okR 16 x = true ∧ okR 16 y = true ∧ Q (.bl (eqR x y)) M
def rNeq : RR2 := fun x y M Q => okR 16 x = true ∧ okR 16 y = true ∧ Q (.bl (!eqR x y)) M
theorem oeq (hu : X.A.units + 64 < cLine) : ROp X (compareOp .Eq) rEqq := by
  intro pins s σ H x y v u Q0 I rx ry h
  obtain ⟨a, b, M, Q, ra, rb, hv, ⟨o1, o2, hq⟩, hk⟩ := h
  exact rcAt_den 15 a b X.A s v u o1 o2 (den_of I 16 a x v o1 ra rx) (den_of I 16 b y u o2 rb ry) (by omega) _ _ _ _ ⟨.bl (eqR a b), H, I, rfl, hk _ M _ H hq (.refl H) hv (by simp only [Rep])⟩
theorem one (hu : X.A.units + 64 < cLine) : ROp X (compareOp .NotEq) rNeq := by
  intro pins s σ H x y v u Q0 I rx ry h
  obtain ⟨a, b, M, Q, ra, rb, hv, ⟨o1, o2, hq⟩, hk⟩ := h
  exact rcNeAt_den 15 a b X.A s v u o1 o2 (den_of I 16 a x v o1 ra rx) (den_of I 16 b y u o2 rb ry) (by omega) _ _ _ _ ⟨.bl (!eqR a b), H, I, rfl, hk _ M _ H hq (.refl H) hv (by simp only [Rep])⟩
def isN : RV → Bool
  | .non => true
  | _ => false
def rIs : RR2 := fun x y M Q => match y with | .non => Q (.bl (isN x)) M | _ => False
def rIsNot : RR2 := fun x y M Q => match y with | .non => Q (.bl (!isN x)) M | _ => False
def rIx : RR2 := fun x y M Q => match x, y with
  | .tup xs, .int i => match atI xs i with | some v => Q v M | none => False
  | .ls xs, .int i => match atI xs i with | some v => Q v M | none => False
  | .ref a, .int i => match M a with
    | some (.lst xs) => match atI xs i with | some v => Q v M | none => False
    | _ => False
  | .str z, .int i => z.length ≤ sizeLine ∧ match atI z.cps.toList i with | some c => Q (.str ⟨#[c]⟩) M | none => False
  | _, _ => False
theorem oix : IxR X (upO X.K rIx) := by
  intro value slice pins s σ H x y v u Q0 I rx ry h hs
  obtain ⟨a, b, M, Q, ra, rb, hv, hq, hk⟩ := h
  cases b with
  | int i =>
    simp only [Rep] at rb
    cases a with
    | tup xs =>
      simp only [Rep] at ra
      obtain ⟨p, vs, rfl, hp, hr⟩ := ra
      simp only [rIx] at hq
      cases e : atI xs i with
      | none => rw [e] at hq; exact hq.elim
      | some z =>
        rw [e] at hq
        obtain ⟨w, e1, r1⟩ := hr.atI e
        exact ix_tup value slice pins s σ H _ y v u Q0 I rx ry ⟨p, vs, i, w, rfl, rb, hp, e1, hk _ M _ H hq (.refl H) hv r1⟩ hs
    | ls xs =>
      simp only [Rep] at ra
      obtain ⟨p, vs, rfl, hp, hr⟩ := ra
      simp only [rIx] at hq
      cases e : atI xs i with
      | none => rw [e] at hq; exact hq.elim
      | some z =>
        rw [e] at hq
        obtain ⟨w, e1, r1⟩ := hr.atI e
        exact ix_list value slice pins s σ H _ y v u Q0 I rx ry ⟨p, vs, i, w, rfl, rb, hp.sq, e1, hk _ M _ H hq (.refl H) hv r1⟩ hs
    | ref p =>
      simp only [Rep] at ra
      simp only [rIx] at hq
      split at hq
      · rename_i xs em
        obtain ⟨ho, e, r⟩ := hv p _ em
        obtain ⟨vs, rfl, hr⟩ := r
        cases e2 : atI xs i with
        | none => rw [e2] at hq; exact hq.elim
        | some z =>
          rw [e2] at hq
          obtain ⟨w, e1, r1⟩ := hr.atI e2
          exact ix_list value slice pins s σ H x y v u Q0 I rx ry ⟨p, vs, i, w, ra, rb, SqL.of e, e1, hk _ M _ H hq (.refl H) hv r1⟩ hs
      · exact hq.elim
    | str z =>
      simp only [Rep] at ra
      simp only [rIx] at hq
      obtain ⟨hz, hq⟩ := hq
      cases e : atI z.cps.toList i with
      | none => rw [e] at hq; exact hq.elim
      | some c =>
        rw [e] at hq
        exact ix_str value slice pins s σ H x y v u Q0 I rx ry ⟨z, i, c, ra, rb, hz, e, hk _ M _ H hq (.refl H) hv (by simp only [Rep])⟩ hs
    | _ => exact (show False from hq).elim
  | _ => cases a <;> exact (show False from hq).elim
theorem rix {a b : Expr} {ta tb : RTE} {pos : Pos} (ha : RPE X a ta) (hb : RPE X b tb) (hs : PlainIx b := by intro _ _; rfl) : RPE X (.Subscript a b pos) (rOp rIx ta tb) := PE.imp (pe_ix oix ha hb hs) fun _ _ _ h => rop_imp h
def rSetL : RTSet := fun o i v M Q => match o, i with
  | .ref p, .int k => match M p with
    | some (.lst xs) => match ixN xs.length k with | some j => Q (put M p (.lst (xs.set j v))) | none => False
    | _ => False
  | _, _ => False
theorem osetl : PSet X (upSet X.K rSetL) := by
  intro pins s σ H o i v ov iv u Q0 I ro ri rv h
  obtain ⟨a, b, c, M, Q, ra, rb, rc, hv, hq, hk⟩ := h
  cases a with
  | ref p =>
    cases b with
    | int k =>
      simp only [Rep] at ra rb
      simp only [rSetL] at hq
      split at hq
      · rename_i xs em
        obtain ⟨ho, e, r⟩ := hv p _ em
        obtain ⟨vs, rfl, hr⟩ := r
        cases e2 : ixN xs.length k with
        | none => rw [e2] at hq; exact hq.elim
        | some j =>
          rw [e2] at hq
          have ex : Ext H (upd H p (.lst (vs.set j v))) := Ext.write e rfl
          exact set_list pins s σ H o i v ov iv u Q0 I ro ri rv ⟨p, vs, k, j, ra, rb, e, by rw [← hr.length]; exact e2, hk _ _ hq ex (hv.write em ⟨_, rfl, Reps.ext ex _ _ (hr.set rc j)⟩)⟩
      · exact hq.elim
    | _ => exact (show False from hq).elim
  | _ => cases b <;> exact (show False from hq).elim
def upC (K : PySem.W.Frag) (r : List RV → RM → RVK → Prop) : List V → Hp → VK → Prop := fun vs H Q0 => ∃ rs M Q, Reps K H rs vs ∧ View K H M ∧ r rs M Q ∧ UpK K H Q Q0
def rCall (r : List RV → RM → RVK → Prop) (t : RTA) : RTE := fun σ M Q => t σ M fun rs M1 => r rs M1 Q
theorem rcall_imp {K : PySem.W.Frag} {r : List RV → RM → RVK → Prop} {t : RTA} {σ0 : L2.St} {H : Hp} {Q0 : VK} (h : up K (rCall r t) σ0 H Q0) : tCB (upC K r) (upA K t) σ0 H Q0 := by
  obtain ⟨σ, M, Q, hs, hv, ht, hk⟩ := h
  exact ⟨σ, M, _, hs, hv, ht, fun rs M1 vs H1 q e1 v1 r1 => ⟨rs, M1, Q, r1, v1, q, hk.ext e1⟩⟩
variable {x : Str} {p pos : Pos} {e : Expr} {es : List Expr} {t : RTA} {id T : String} {r : List RV → RM → RVK → Prop}
theorem rcallB (hc : CallR X (.builtin id) (upC X.K r)) (hm : X.mg x = none) (hv : bootBuiltins x = some (.builtin id)) (ha : RPA X (e :: es) t) (hg : Gl X x := by rfl) (hn : x ≠ "__name__" := by decide) (hdb : (x == ("__debug__" : Str)) = false := by decide)
    (he : starEach (e :: es) X.env = (false, eval e X.env) :: starEach es X.env := by rfl) (hpl : (backTo pos (starEach es X.env)).any (·.1) = false := by rfl) : RPE X (.Call (.Name x p) (e :: es) [] pos) (rCall r t) :=
  PE.imp (pe_callB hc hg hm hv ha hn hdb he hpl) fun _ _ _ h => rcall_imp h
theorem rcallT (hc : CallR X (.type T) (upC X.K r)) (hm : X.mg x = none) (hv : bootBuiltins x = some (.type T)) (ha : RPA X (e :: es) t) (hg : Gl X x := by rfl) (hn : x ≠ "__name__" := by decide) (hdb : (x == ("__debug__" : Str)) = false := by decide)
    (he : starEach (e :: es) X.env = (false, eval e X.env) :: starEach es X.env := by rfl) (hpl : (backTo pos (starEach es X.env)).any (·.1) = false := by rfl) : RPE X (.Call (.Name x p) (e :: es) [] pos) (rCall r t) :=
  PE.imp (pe_callTy hc hg hm hv ha hn hdb he hpl) fun _ _ _ h => rcall_imp h
theorem Reps.one {K : PySem.W.Frag} {H : Hp} {x : RV} {vs : List V} (h : Reps K H [x] vs) : ∃ v, vs = [v] ∧ Rep K H x v := by
  simp only [Reps] at h
  obtain ⟨v, r, rfl, h1, rfl⟩ := h
  exact ⟨v, rfl, h1⟩
theorem Reps.two {K : PySem.W.Frag} {H : Hp} {x y : RV} {vs : List V} (h : Reps K H [x, y] vs) : ∃ v w, vs = [v, w] ∧ Rep K H x v ∧ Rep K H y w := by
  simp only [Reps] at h
  obtain ⟨v, r, rfl, h1, w, r', rfl, h2, rfl⟩ := h
  exact ⟨v, w, rfl, h1, h2⟩
def rLen : List RV → RM → RVK → Prop := fun rs M Q => match rs with
  | [.tup xs] => Q (.int xs.length) M
  | [.ls xs] => Q (.int xs.length) M
  | [.str z] => z.length ≤ sizeLine ∧ Q (.int z.length) M
  | [.ref a] => match M a with | some (.lst xs) => Q (.int xs.length) M | _ => False
  | _ => False
theorem clen : CallR X (.builtin "len") (upC X.K rLen) := by
  intro pins s σ H xs us Q0 I rl h
  obtain ⟨rs, M, Q, rr, hv, hq, hk⟩ := h
  unfold rLen at hq
  split at hq
  · rename_i ys
    obtain ⟨v, rfl, r1⟩ := rr.one
    simp only [Rep] at r1
    obtain ⟨q, vs, rfl, hp, hr⟩ := r1
    exact call_len_seq pins s σ H _ us Q0 I rl ⟨q, vs, rfl, .inr hp, by rw [← hr.length]; exact hk _ M _ H hq (.refl H) hv (by simp only [Rep])⟩
  · rename_i ys
    obtain ⟨v, rfl, r1⟩ := rr.one
    simp only [Rep] at r1
    obtain ⟨q, vs, rfl, hp, hr⟩ := r1
    exact call_len_seq pins s σ H _ us Q0 I rl ⟨q, vs, rfl, .inl hp.sq, by rw [← hr.length]; exact hk _ M _ H hq (.refl H) hv (by simp only [Rep])⟩
  · rename_i z
    obtain ⟨v, rfl, r1⟩ := rr.one
    simp only [Rep] at r1
    subst r1
    exact call_len_str pins s σ H _ us Q0 I rl ⟨z, rfl, hq.1, hk _ M _ H hq.2 (.refl H) hv (by simp only [Rep])⟩
  · rename_i a
    obtain ⟨v, rfl, r1⟩ := rr.one
    simp only [Rep] at r1
    subst r1
    split at hq
    · rename_i ys em
      obtain ⟨ho, e, r⟩ := hv a _ em
      obtain ⟨vs, rfl, hr⟩ := r
      exact call_len_seq pins s σ H _ us Q0 I rl ⟨a, vs, rfl, .inl (SqL.of e), by rw [← hr.length]; exact hk _ M _ H hq (.refl H) hv (by simp only [Rep])⟩
    · exact hq.elim
  · exact hq.elim
def rTuple : List RV → RM → RVK → Prop := fun rs M Q => match rs with
  | [.tup xs] => Q (.tup xs) M
  | [.ls xs] => Q (.tup xs) M
  | [.ref a] => match M a with | some (.lst xs) => Q (.tup xs) M | _ => False
  | _ => False
theorem ctuple : CallR X (.type "tuple") (upC X.K rTuple) := by
  intro pins s σ H xs us Q0 I rl h
  obtain ⟨rs, M, Q, rr, hv, hq, hk⟩ := h
  unfold rTuple at hq
  split at hq
  · rename_i ys
    obtain ⟨v, rfl, r1⟩ := rr.one
    simp only [Rep] at r1
    obtain ⟨q, vs, rfl, hp, hr⟩ := r1
    exact call_tuple_of pins s σ H _ us Q0 I rl ⟨q, vs, rfl, .inr ⟨hp, hk _ M _ H hq (.refl H) hv (by simp only [Rep]; exact ⟨q, vs, rfl, hp, hr⟩)⟩⟩
  · rename_i ys
    obtain ⟨v, rfl, r1⟩ := rr.one
    simp only [Rep] at r1
    obtain ⟨q, vs, rfl, hp, hr⟩ := r1
    exact call_tuple_of pins s σ H _ us Q0 I rl ⟨q, vs, rfl, .inl ⟨hp.sq, fun l hl => hk _ M _ _ hq (Ext.new hl) (hv.new hl) (rep_tup hl hr)⟩⟩
  · rename_i a
    obtain ⟨v, rfl, r1⟩ := rr.one
    simp only [Rep] at r1
    subst r1
    split at hq
    · rename_i ys em
      obtain ⟨ho, e, r⟩ := hv a _ em
      obtain ⟨vs, rfl, hr⟩ := r
      exact call_tuple_of pins s σ H _ us Q0 I rl ⟨a, vs, rfl, .inl ⟨SqL.of e, fun l hl => hk _ M _ _ hq (Ext.new hl) (hv.new hl) (rep_tup hl hr)⟩⟩
    · exact hq.elim
  · exact hq.elim
end
end R
namespace R
open PySem PySem.Spec PyProof.Rows L2 HT
section
variable {prog : Program} {w : World} {A : Around} {E : Value → Shared → Prop} {s : Shared}
theorem getItem_tuple_whole {t sl : Addr} {items : Array Value} {vl vu : Value} {lo hi : Option Int} {Q : Value → Shared → Prop} (ht : IsTup s.heap t items) (hs : s.heap.IsSliceOf sl vl vu .none) (pl : IsPart vl lo) (pu : IsPart vu hi)
    (h0 : sIx items.size 0 lo = 0) (h1 : sIx items.size items.size hi = items.size)
    (h : Q (.ref t) s) : wpAny (model prog w) A (getItem (.ref t) (.ref sl)) Q E s := by
  obtain ⟨os, hos, hcs, hds⟩ := id hs
  have hTs : s.TypeIs (.ref sl) "slice" := ⟨os, hos, hcs⟩
  unfold getItem
  try with_reducible refine wpAny_holding ?_
  first | refine wpAny_bind (wpAny_pure ?_) | skip
  refine wpAny_bind (wpAny_sequenceKey ht.typeIs (by decide) ?_)
  refine wpAny_bind (wpAny_callSpecial?_slot (name := Str.ofString "__getitem__") ht.typeIs PyProof.Rows.slot_tuple_getitem
    (wpAny_call_entry PyProof.Rows.slot_tuple_getitem ht.typeIs entry_tuple_getitem ?_ (args_tuple_getitem _ _)))
  show wpAny _ _ (Builtin.Tuple.tupleItemsOf (.ref t) >>= _) _ _ s
  refine wpAny_bind (tupleItemsOf_ ht ?_)
  refine wpAny_bind (wpAny_typeOf hTs ?_)
  rw [if_pos (by decide)]
  refine wpAny_bind (sliceApplied_gen hs pl pu ?_)
  have hyes : (((sIx items.size 0 lo : Nat) : Int) == 0 && (1 : Int) == 1 && (sIx items.size items.size hi - sIx items.size 0 lo) == items.size) = true := by
    rw [h0, h1]; simp
  show wpAny _ _ (if (((sIx items.size 0 lo : Nat) : Int) == 0 && (1 : Int) == 1 && (sIx items.size items.size hi - sIx items.size 0 lo) == items.size) = true then _ else _) _ _ s
  rw [if_pos hyes]
  show wpAny _ _ (Builtin.Tuple.tupleIsExact (.ref t) >>= _) _ _ s
  unfold Builtin.Tuple.tupleIsExact
  refine wpAny_bind (wpAny_bind (wpAny_typeOf ht.typeIs (wpAny_pure ?_)))
  rw [if_pos (by decide)]
  refine wpAny_bind (wpAny_rule ?_)
  refine wpAny_bind (wpAny_pure ?_)
  exact wpAny_pure ⟨_, rfl, wpAny_pure h⟩
end
section
variable {X : Cx}
abbrev RTO := RSt → RM → (Option Int → RM → Prop) → Prop
def upP (K : PySem.W.Frag) (t : RTO) : TO := fun σ0 H Q0 => ∃ σ M Q, RepSt K H σ σ0 ∧ View K H M ∧ t σ M Q ∧ ∀ o M' H', Q o M' → Ext H H' → View K H' M' → Q0 o H'
def RPO (X : Cx) (e : Option Expr) (t : RTO) : Prop := PO X e (upP X.K t)
def rNoP : RTO := fun _ M Q => Q none M
def rPart (t : RTE) : RTO := fun σ M Q => t σ M fun x M1 => match x with | .int i => Q (some i) M1 | _ => False
theorem PO.imp {e : Option Expr} {t t' : TO} (h : PO X e t) (i : ∀ σ H Q, t' σ H Q → t σ H Q) : PO X e t' := fun pins s σ H Q I w => h pins s σ H Q I (i σ H Q w)
theorem pnone : RPO X none rNoP := PO.imp po_none fun σ0 H Q0 h => by
  obtain ⟨σ, M, Q, hs, hv, ht, hk⟩ := h
  exact hk none M H ht (.refl H) hv
theorem psome {e : Expr} {te : RTE} (h : RPE X e te) : RPO X (some e) (rPart te) := PO.imp (po_some h) fun σ0 H Q0 h => by
  obtain ⟨σ, M, Q, hs, hv, ht, hk⟩ := h
  refine ⟨σ, M, _, hs, hv, ht, fun rx M1 x H1 q e1 v1 r1 => ?_⟩
  cases rx with
  | int i => simp only [Rep] at r1; exact ⟨i, r1, hk _ M1 H1 q e1 v1⟩
  | _ => exact (show False from q).elim
def cutR (xs : List RV) (lo hi : Option Int) : List RV := (xs.drop (sIx xs.length 0 lo)).take (sIx xs.length xs.length hi - sIx xs.length 0 lo)
theorem reps_cut {K : PySem.W.Frag} {H : Hp} {xs : List RV} {vs : List V} (r : Reps K H xs vs) (lo hi : Option Int) : Reps K H (cutR xs lo hi) (cutV vs lo hi) := by
  unfold cutR cutV
  rw [r.length]
  exact (r.drop _).take _
def rSlc : RV → Option Int → Option Int → RM → RVK → Prop := fun x lo hi M Q => match x with
  | .tup xs => Q (.tup (cutR xs lo hi)) M
  | .ls xs => Q (.ls (cutR xs lo hi)) M
  | .ref a => match M a with | some (.lst xs) => Q (.ls (cutR xs lo hi)) M | _ => False
  | _ => False
def upL (K : PySem.W.Frag) (r : RV → Option Int → Option Int → RM → RVK → Prop) : V → Option Int → Option Int → Hp → VK → Prop := fun x lo hi H Q0 => ∃ rx M Q, Rep K H rx x ∧ View K H M ∧ r rx lo hi M Q ∧ UpK K H Q Q0
theorem oslc : SlR X (upL X.K rSlc) := by
  intro pins s σ H x v vl vu lo hi sl Q0 I rx hs pl pu h
  obtain ⟨a, M, Q, ra, hv, hq, hk⟩ := h
  have lstcase : ∀ (p : Addr) (xs : List RV) (vs : List V), x = .ref p → SqL X.K H p vs → Reps X.K H xs vs → Q (.ls (cutR xs lo hi)) M →
      ∃ T id, typeLookup (.type T) "__getitem__" = pure (some (.builtin id)) ∧ s.TypeIs v T ∧ wpAny (model X.prog X.w) X.A (getItem v (.ref sl)) (EP X pins σ Q0) X.xe s := by
    intro p xs vs ex hp hr hq
    obtain ⟨T, id, h1, h2, h3⟩ := sl_list pins s σ H x v vl vu lo hi sl (fun v H' => ∃ H1 p xs, v = .ref p ∧ H1 p = none ∧ H' = upd H1 p (.lst xs) ∧ ∀ o, Q0 (.ref p) (upd H1 p (.frz o (.lst xs)))) I rx hs pl pu
      ⟨p, vs, ex, hp, fun q hq' => ⟨H, q, _, rfl, hq', rfl, fun o => hk _ M _ _ hq (Ext.new hq') (hv.new hq') (rep_ls hq' (reps_cut hr lo hi))⟩⟩
    exact ⟨T, id, h1, h2, thn h3 fun _ _ e => frozen e⟩
  cases a with
  | tup xs =>
    simp only [rSlc] at hq
    simp only [Rep] at ra
    obtain ⟨p, vs, rfl, hp, hr⟩ := ra
    by_cases hw : sIx vs.length 0 lo = 0 ∧ sIx vs.length vs.length hi = vs.length
    · cases rx
      obtain ⟨its, r, ht, hz⟩ := I.tuple hp
      have hlen : its.toArray.size = vs.length := by rw [List.size_toArray]; exact r.length.symm
      refine ⟨"tuple", _, PyProof.Rows.slot_tuple_getitem.lookup, ht.typeIs, ?_⟩
      refine getItem_tuple_whole ht hs pl pu (by rw [hlen]; exact hw.1) (by rw [hlen]; exact hw.2) ⟨.ref p, H, I, rfl, ?_⟩
      have e : cutR xs lo hi = xs := by
        unfold cutR
        rw [hr.length, hw.1, hw.2, List.drop_zero, Nat.sub_zero, ← hr.length, List.take_length]
      rw [e] at hq
      exact hk _ M _ H hq (.refl H) hv (by simp only [Rep]; exact ⟨p, vs, rfl, hp, hr⟩)
    · exact sl_tup pins s σ H _ v vl vu lo hi sl Q0 I rx hs pl pu ⟨p, vs, rfl, hp, hw, fun q hq' => hk _ M _ _ hq (Ext.new hq') (hv.new hq') (rep_tup hq' (reps_cut hr lo hi))⟩
  | ls xs =>
    simp only [rSlc] at hq
    simp only [Rep] at ra
    obtain ⟨p, vs, rfl, hp, hr⟩ := ra
    exact lstcase p xs vs rfl hp.sq hr hq
  | ref p =>
    simp only [rSlc] at hq
    simp only [Rep] at ra
    split at hq
    · rename_i xs em
      obtain ⟨ho, e, r⟩ := hv p _ em
      obtain ⟨vs, rfl, hr⟩ := r
      exact lstcase p xs vs ra (SqL.of e) hr hq
    · exact hq.elim
  | _ => exact (show False from hq).elim
def rSl (te : RTE) (tl th : RTO) : RTE := fun σ M Q => te σ M fun x M1 => tl σ M1 fun l M2 => th σ M2 fun u M3 => rSlc x l u M3 Q
theorem rsl {e : Expr} {te : RTE} {lo hi : Option Expr} {tl th : RTO} {pos p2 : Pos} (he : RPE X e te) (hl : RPO X lo tl) (hu : RPO X hi th) : RPE X (.Subscript e (.Slice lo hi none p2) pos) (rSl te tl th) := PE.imp (pe_slice oslc he hl hu) fun σ0 H Q0 h => by
  obtain ⟨σ, M, Q, hs, hv, ht, hk⟩ := h
  refine ⟨σ, M, _, hs, hv, ht, fun rx M1 x H1 q e1 v1 r1 => ?_⟩
  refine ⟨σ, M1, _, hs.ext e1, v1, q, fun l M2 H2 q2 e2 v2 => ?_⟩
  refine ⟨σ, M2, _, hs.ext (e1.trans e2), v2, q2, fun u M3 H3 q3 e3 v3 => ?_⟩
  exact ⟨rx, M3, Q, Rep.ext (e2.trans e3) rx x r1, v3, q3, hk.ext ((e1.trans e2).trans e3)⟩
theorem kit_non_int (K : PySem.W.Frag) : PySem.W.kitOne K (.type "NoneType") (.type "int") = some false := by kernel_rfl
theorem kit_bl_int (K : PySem.W.Frag) : PySem.W.kitOne K (.type "bool") (.type "int") = some true := by kernel_rfl
theorem kit_int_int (K : PySem.W.Frag) : PySem.W.kitOne K (.type "int") (.type "int") = some true := by kernel_rfl
theorem kit_str_int (K : PySem.W.Frag) : PySem.W.kitOne K (.type "str") (.type "int") = some false := by kernel_rfl
theorem kit_tup_int (K : PySem.W.Frag) : PySem.W.kitOne K (.type "tuple") (.type "int") = some false := by kernel_rfl
theorem kit_ls_int (K : PySem.W.Frag) : PySem.W.kitOne K (.type "list") (.type "int") = some false := by kernel_rfl
def is_int : RV → Option Bool
  | .non => some false
  | .bl _ => some true
  | .int _ => some true
  | .str _ => some false
  | .tup _ => some false
  | .ls _ => some false
  | _ => none
theorem kit_non_bool (K : PySem.W.Frag) : PySem.W.kitOne K (.type "NoneType") (.type "bool") = some false := by kernel_rfl
theorem kit_bl_bool (K : PySem.W.Frag) : PySem.W.kitOne K (.type "bool") (.type "bool") = some true := by kernel_rfl
theorem kit_int_bool (K : PySem.W.Frag) : PySem.W.kitOne K (.type "int") (.type "bool") = some false := by kernel_rfl
theorem kit_str_bool (K : PySem.W.Frag) : PySem.W.kitOne K (.type "str") (.type "bool") = some false := by kernel_rfl
theorem kit_tup_bool (K : PySem.W.Frag) : PySem.W.kitOne K (.type "tuple") (.type "bool") = some false := by kernel_rfl
theorem kit_ls_bool (K : PySem.W.Frag) : PySem.W.kitOne K (.type "list") (.type "bool") = some false := by kernel_rfl
def is_bool : RV → Option Bool
  | .non => some false
  | .bl _ => some true
  | .int _ => some false
  | .str _ => some false
  | .tup _ => some false
  | .ls _ => some false
  | _ => none
theorem kit_non_str (K : PySem.W.Frag) : PySem.W.kitOne K (.type "NoneType") (.type "str") = some false := by kernel_rfl
theorem kit_bl_str (K : PySem.W.Frag) : PySem.W.kitOne K (.type "bool") (.type "str") = some false := by kernel_rfl
theorem kit_int_str (K : PySem.W.Frag) : PySem.W.kitOne K (.type "int") (.type "str") = some false := by kernel_rfl
theorem kit_str_str (K : PySem.W.Frag) : PySem.W.kitOne K (.type "str") (.type "str") = some true := by kernel_rfl
theorem kit_tup_str (K : PySem.W.Frag) : PySem.W.kitOne K (.type "tuple") (.type "str") = some false := by kernel_rfl
theorem kit_ls_str (K : PySem.W.Frag) : PySem.W.kitOne K (.type "list") (.type "str") = some false := by kernel_rfl
def is_str : RV → Option Bool
  | .non => some false
  | .bl _ => some false
  | .int _ => some false
  | .str _ => some true
  | .tup _ => some false
  | .ls _ => some false
  | _ => none
theorem kit_non_tuple (K : PySem.W.Frag) : PySem.W.kitOne K (.type "NoneType") (.type "tuple") = some false := by kernel_rfl
theorem kit_bl_tuple (K : PySem.W.Frag) : PySem.W.kitOne K (.type "bool") (.type "tuple") = some false := by kernel_rfl
theorem kit_int_tuple (K : PySem.W.Frag) : PySem.W.kitOne K (.type "int") (.type "tuple") = some false := by kernel_rfl
theorem kit_str_tuple (K : PySem.W.Frag) : PySem.W.kitOne K (.type "str") (.type "tuple") = some false := by kernel_rfl
theorem kit_tup_tuple (K : PySem.W.Frag) : PySem.W.kitOne K (.type "tuple") (.type "tuple") = some true := by kernel_rfl
theorem kit_ls_tuple (K : PySem.W.Frag) : PySem.W.kitOne K (.type "list") (.type "tuple") = some false := by kernel_rfl
def is_tuple : RV → Option Bool
  | .non => some false
  | .bl _ => some false
  | .int _ => some false
  | .str _ => some false
  | .tup _ => some true
  | .ls _ => some false
  | _ => none
def is_list : RV → Option Bool
  | .non => some false
  | .bl _ => some false
  | .int _ => some false
  | .str _ => some false
  | .tup _ => some false
  | .ls _ => some true
  | _ => none
def tyN : RV → Option String
  | .non => some "NoneType"
  | .bl _ => some "bool"
  | .int _ => some "int"
  | .str _ => some "str"
  | .tup _ => some "tuple"
  | .ls _ => some "list"
  | _ => none
def rIsi (T : String) (test : RV → Option Bool) : List RV → RM → RVK → Prop := fun rs M Q => match rs with
  | [x, .ty T'] => T' = T ∧ (match test x with | some b => Q (.bl b) M | none => False)
  | _ => False
theorem cisi {T : String} {test : RV → Option Bool} (ht : ∀ a b, test a = some b → ∃ n, tyN a = some n ∧ PySem.W.kitOne X.K (.type n) (.type T) = some b) : CallR X (.builtin "isinstance") (upC X.K (rIsi T test)) := by
  intro pins s σ H xs us Q0 I rl h
  obtain ⟨rs, M, Q, rr, hv, hq, hk⟩ := h
  unfold rIsi at hq
  split at hq
  · rename_i a T'
    obtain ⟨rfl, hq⟩ := hq
    obtain ⟨v, w, rfl, r1, r2⟩ := rr.two
    obtain ⟨u, u', rfl, w1, w2⟩ := vals2 rl
    simp only [Rep] at r2
    subst r2
    obtain rfl : u' = Value.type T' := w2
    cases e : test a with
    | none => rw [e] at hq; exact hq.elim
    | some b =>
      rw [e] at hq
      obtain ⟨n, en, ek⟩ := ht a b e
      have fin : ∀ tk, EP X pins σ Q0 (.bool b) { s with toks := tk } := fun tk => ⟨.bl b, H, I.tok tk, rfl, hk _ M _ H hq (.refl H) hv (by simp only [Rep])⟩
      cases a with
      | non => cases en; simp only [Rep] at r1; subst r1; cases (show u = Value.none from w1); exact PySem.W.kia_one PySem.W.kitx_none I.kIn True.intro ek (fun z => nomatch z) fin
      | bl y => cases en; simp only [Rep] at r1; subst r1; cases (show u = Value.bool y from w1); exact PySem.W.kia_one PySem.W.kitx_bool I.kIn True.intro ek (fun z => nomatch z) fin
      | int y => cases en; simp only [Rep] at r1; subst r1; obtain ⟨t, q⟩ := (show ∃ t, u = Value.int y t from w1); cases q; exact PySem.W.kia_one PySem.W.kitx_int I.kIn True.intro ek (fun z => nomatch z) fin
      | str y => cases en; simp only [Rep] at r1; subst r1; obtain ⟨t, q⟩ := (show ∃ t, u = Value.str y t from w1); cases q; exact PySem.W.kia_one PySem.W.kitx_str I.kIn True.intro ek (fun z => nomatch z) fin
      | tup ys =>
        cases en; simp only [Rep] at r1
        obtain ⟨p, vs, rfl, hp, hr⟩ := r1
        cases (show u = Value.ref p from w1)
        obtain ⟨its, _, pt, _⟩ := I.tuple hp
        obtain ⟨o, h1, h2, _⟩ := pt
        exact PySem.W.kia_one PySem.W.kitx_tuple I.kIn ⟨o, h1, h2⟩ ek (fun z => nomatch z) fin
      | ls ys =>
        cases en; simp only [Rep] at r1
        obtain ⟨p, vs, rfl, hp, hr⟩ := r1
        cases (show u = Value.ref p from w1)
        obtain ⟨its, _, pt, _⟩ := I.list hp.sq
        obtain ⟨o, h1, h2, _⟩ := pt.isList
        exact PySem.W.kia_one PySem.W.kitx_list I.kIn ⟨o, h1, h2⟩ ek (fun z => nomatch z) fin
      | _ => cases en
  · exact hq.elim
theorem cisi_int : CallR X (.builtin "isinstance") (upC X.K (rIsi "int" is_int)) := cisi fun a b e => by
  cases a with
  | non => cases e; exact ⟨_, rfl, kit_non_int X.K⟩
  | bl _ => cases e; exact ⟨_, rfl, kit_bl_int X.K⟩
  | int _ => cases e; exact ⟨_, rfl, kit_int_int X.K⟩
  | str _ => cases e; exact ⟨_, rfl, kit_str_int X.K⟩
  | tup _ => cases e; exact ⟨_, rfl, kit_tup_int X.K⟩
  | ls _ => cases e; exact ⟨_, rfl, kit_ls_int X.K⟩
  | _ => cases e
theorem cisi_bool : CallR X (.builtin "isinstance") (upC X.K (rIsi "bool" is_bool)) := cisi fun a b e => by
  cases a with
  | non => cases e; exact ⟨_, rfl, kit_non_bool X.K⟩
  | bl _ => cases e; exact ⟨_, rfl, kit_bl_bool X.K⟩
  | int _ => cases e; exact ⟨_, rfl, kit_int_bool X.K⟩
  | str _ => cases e; exact ⟨_, rfl, kit_str_bool X.K⟩
  | tup _ => cases e; exact ⟨_, rfl, kit_tup_bool X.K⟩
  | ls _ => cases e; exact ⟨_, rfl, kit_ls_bool X.K⟩
  | _ => cases e
theorem cisi_str : CallR X (.builtin "isinstance") (upC X.K (rIsi "str" is_str)) := cisi fun a b e => by
  cases a with
  | non => cases e; exact ⟨_, rfl, kit_non_str X.K⟩
  | bl _ => cases e; exact ⟨_, rfl, kit_bl_str X.K⟩
  | int _ => cases e; exact ⟨_, rfl, kit_int_str X.K⟩
  | str _ => cases e; exact ⟨_, rfl, kit_str_str X.K⟩
  | tup _ => cases e; exact ⟨_, rfl, kit_tup_str X.K⟩
  | ls _ => cases e; exact ⟨_, rfl, kit_ls_str X.K⟩
  | _ => cases e
theorem cisi_tuple : CallR X (.builtin "isinstance") (upC X.K (rIsi "tuple" is_tuple)) := cisi fun a b e => by
  cases a with
  | non => cases e; exact ⟨_, rfl, kit_non_tuple X.K⟩
  | bl _ => cases e; exact ⟨_, rfl, kit_bl_tuple X.K⟩
  | int _ => cases e; exact ⟨_, rfl, kit_int_tuple X.K⟩
  | str _ => cases e; exact ⟨_, rfl, kit_str_tuple X.K⟩
  | tup _ => cases e; exact ⟨_, rfl, kit_tup_tuple X.K⟩
  | ls _ => cases e; exact ⟨_, rfl, kit_ls_tuple X.K⟩
  | _ => cases e
abbrev RSp := List RV → RM → RVK → Prop
def upSp (K : PySem.W.Frag) (sp : RSp) : Sp := fun vs H Q0 _ => ∃ rs M Q, Reps K H rs vs ∧ View K H M ∧ sp rs M Q ∧ UpK K H Q Q0
end
structure RFn (P : Program) (w : World) (K : PySem.W.Frag) (mg : Str → Option Value) (base : Heap) (k : Nat) (x : Str) (ps : List Str) (sp : RSp) : Prop where
  ex : ∃ (f : Addr) (fd : FuncData), mg x = some (.ref f) ∧ PySem.W.keepIn K (.ref f) = true ∧ Binds K fd ps [] ∧ FnOk P w K mg base CX0 k f fd ps (upSp K sp)
section
variable {X : Cx} {x : Str} {p pos : Pos} {e : Expr} {es : List Expr} {t : RTA} {k : Nat} {ps : List Str} {sp : RSp}
theorem rcallF (F : RFn X.prog X.w X.K X.mg X.base k x ps sp) (hr : Room k X.A) (ha : RPA X (e :: es) t) (hg : Gl X x := by rfl) (hdb : (x == ("__debug__" : Str)) = false := by decide)
    (he : starEach (e :: es) X.env = (false, eval e X.env) :: starEach es X.env := by rfl) (hpl : (backTo pos (starEach es X.env)).any (·.1) = false := by rfl) : RPE X (.Call (.Name x p) (e :: es) [] pos) (rCall sp t) := by
  obtain ⟨f, fd, hm, hk, hb, F⟩ := F.ex
  refine PE.imp (pe_call F hr hg hm hk hb .nil pass0 ha hdb he hpl) fun σ0 H Q0 h => ?_
  obtain ⟨σ, M, Q, hs, hv, ht, hk⟩ := h
  exact ⟨σ, M, _, hs, hv, ht, fun rs M1 vs H1 q e1 v1 r1 => ⟨rs, M1, Q, by rw [List.append_nil]; exact r1, v1, q, hk.ext e1⟩⟩
def rstart (N : List Str) (rs : List RV) : RSt := rs.map some ++ List.replicate (N.length - rs.length) none
theorem start_rep {K : PySem.W.Frag} {H : Hp} {N : List Str} {rs : List RV} {vs : List V} (r : Reps K H rs vs) : RepSt K H (rstart N rs) (L2.start N vs) := by
  unfold rstart L2.start
  refine ⟨by simp [r.length], fun i z e => ?_⟩
  have hi : i < rs.length := by
    by_cases hi : i < rs.length
    · exact hi
    · rw [List.getElem?_append_right (by simpa using hi), List.getElem?_replicate] at e
      split at e <;> cases e
  rw [List.getElem?_append_left (by simpa using hi), List.getElem?_map] at e
  cases q : rs[i]? with
  | none => rw [q] at e; cases e
  | some y =>
    rw [q] at e; cases e
    obtain ⟨v, e1, r1⟩ := r.get q
    exact ⟨v, by rw [List.getElem?_append_left (by rw [List.length_map, ← r.length]; exact hi), List.getElem?_map, e1]; rfl, r1⟩
def nums (n : Nat) : List RV := (List.range n).map fun (i : Nat) => RV.int (i : Int)
theorem nums_len (n : Nat) : (nums n).length = n := by simp [nums]
end
section
variable {X : Cx}
end
end R
namespace R
open PySem PySem.Spec PyProof.Rows L2
structure ItOf (K : PySem.W.Frag) (J : It) (xs : List RV) (H1 : Hp) : Prop where
  turn : ∀ i H, Ext H1 H → ∀ x, xs[i]? = some x → J.go i H ∧ ∀ v H', J.yld i H v H' → Ext H H' ∧ (∀ M, View K H M → View K H' M) ∧ Rep K H' x v
  stop : ∀ i H, Ext H1 H → xs.length ≤ i → J.stop i H
abbrev RTI := RSt → RM → (List RV → RM → Prop) → Prop
def upI (K : PySem.W.Frag) (ti : RTI) : TI := fun σ0 H R => ∃ σ M Q, RepSt K H σ σ0 ∧ View K H M ∧ ti σ M Q ∧ ∀ xs M' J H', Q xs M' → Ext H H' → View K H' M' → ItOf K J xs H' → R J H'
def RPI (X : Cx) (tg iter : Expr) (ti : RTI) : Prop := PI X tg iter (upI X.K ti)
section
variable {X : Cx} {tg : Expr}
def rItS (te : RTE) : RTI := fun σ M Q => te σ M fun v M1 => match v with
  | .tup xs => Q xs M1
  | .ls xs => Q xs M1
  | _ => False
theorem itl_of {K : PySem.W.Frag} {H1 : Hp} {a : Addr} {rs : List RV} {vs : List V} (h : Fz K H1 a vs) (r : Reps K H1 rs vs) : ItOf K (Itl K a) rs H1 where
  turn := fun i H e x hx => by
    obtain ⟨v, e1, r1⟩ := r.get hx
    refine ⟨⟨vs, v, (h.ext e).sq, e1⟩, fun v' H' y => ?_⟩
    obtain ⟨rfl, y⟩ := y
    have := y vs (h.ext e).sq
    rw [e1] at this; cases this
    exact ⟨.refl _, fun _ w => w, Rep.ext e x v r1⟩
  stop := fun i H e hi => ⟨vs, (h.ext e).sq, by rw [← r.length]; exact hi⟩
theorem itt_of {K : PySem.W.Frag} {H1 : Hp} {a : Addr} {rs : List RV} {vs : List V} (h : SqT K H1 a vs) (r : Reps K H1 rs vs) : ItOf K (Itt K a) rs H1 where
  turn := fun i H e x hx => by
    obtain ⟨v, e1, r1⟩ := r.get hx
    refine ⟨⟨vs, v, SqT.ext e h, e1⟩, fun v' H' y => ?_⟩
    obtain ⟨rfl, y⟩ := y
    have := y vs (SqT.ext e h)
    rw [e1] at this; cases this
    exact ⟨.refl _, fun _ w => w, Rep.ext e x v r1⟩
  stop := fun i H e hi => ⟨vs, SqT.ext e h, by rw [← r.length]; exact hi⟩
theorem itr_of {K : PySem.W.Frag} {H1 : Hp} (n : Nat) : ItOf K (Itr 0 n) (nums n) H1 where
  turn := fun i H e x hx => by
    have hi : i < n := by have := (List.getElem?_eq_some_iff.mp hx).1; rw [nums_len] at this; exact this
    have hx' : x = .int (i : Int) := by simp [nums, hi] at hx; exact hx.symm
    subst hx'
    refine ⟨hi, fun v' H' y => ?_⟩
    obtain ⟨rfl, rfl⟩ := y
    exact ⟨.refl _, fun _ w => w, by simp only [Rep]; simp⟩
  stop := fun i H e hi => by rw [nums_len] at hi; exact hi
theorem iseq {l : Expr} {te : RTE} (hl : RPE X l te) : RPI X tg l (rItS te) := by
  intro pins s σ0 H R I h
  obtain ⟨σ, M, Q, hs, hv, ht, hk⟩ := h
  refine thn (hl pins s σ0 H (fun x H1 => (∃ a vs rs M1, x = .ref a ∧ Fz X.K H1 a vs ∧ Reps X.K H1 rs vs ∧ Q rs M1 ∧ Ext H H1 ∧ View X.K H1 M1) ∨ ∃ a vs rs M1, x = .ref a ∧ SqT X.K H1 a vs ∧ Reps X.K H1 rs vs ∧ Q rs M1 ∧ Ext H H1 ∧ View X.K H1 M1) I ⟨σ, M, _, hs, hv, ht, fun rv M1 v H1 q e1 v1 r1 => ?_⟩) fun v s1 ⟨x, H1, I1, r1, q1⟩ => ?_
  · cases rv with
    | ls xs => simp only [Rep] at r1; obtain ⟨a, vs, rfl, h1, h2⟩ := r1; exact .inl ⟨a, vs, xs, M1, rfl, h1, h2, q, e1, v1⟩
    | tup xs => simp only [Rep] at r1; obtain ⟨a, vs, rfl, h1, h2⟩ := r1; exact .inr ⟨a, vs, xs, M1, rfl, h1, h2, q, e1, v1⟩
    | _ => exact (show False from q).elim
  · rcases q1 with ⟨a, vs, rs, M1, rfl, h1, h2, q, e1, v1⟩ | ⟨a, vs, rs, M1, rfl, h1, h2, q, e1, v1⟩
    · cases r1
      obtain ⟨its, rv, p, hz⟩ := I1.list h1.sq
      refine wpAny_pyIter_list p.isList ?_
      refine ⟨s1.heap.objs.size, [s1.heap.objs.size], _, _, H1, rfl, I1.kept (t' := s1.toks) fun b o e => Heap.get?_push_of_some _ e, turn_list a _, ⟨_, Heap.get?_push_size _ rfl, rfl, rfl⟩, fun b hb => ?_, hk rs M1 _ H1 q e1 v1 (itl_of h1 h2)⟩
      have e : b = s1.heap.objs.size := by simpa using hb
      subst e
      exact I1.fpOk (Nat.le_refl _) (I1.hok.fresh (Nat.le_refl _))
    · cases r1
      obtain ⟨its, rv, p, hz⟩ := I1.tuple h1
      refine wpAny_pyIter_tuple (show s1.heap.IsTuple a its.toArray from p) ?_
      refine ⟨s1.heap.objs.size, [s1.heap.objs.size], _, _, H1, rfl, I1.kept (t' := s1.toks) fun b o e => Heap.get?_push_of_some _ e, turn_tuple a _, ⟨_, Heap.get?_push_size _ rfl, rfl, rfl⟩, fun b hb => ?_, hk rs M1 _ H1 q e1 v1 (itt_of h1 h2)⟩
      have e : b = s1.heap.objs.size := by simpa using hb
      subst e
      exact I1.fpOk (Nat.le_refl _) (I1.hok.fresh (Nat.le_refl _))
def rRngI (Q : List RV → RM → Prop) : List RV → RM → Prop := fun rs M => match rs with
  | [.int n] => -(2 ^ 62) ≤ n ∧ n < 2 ^ 62 ∧ Q (nums n.toNat) M
  | _ => False
def rItR (te : RTE) : RTI := fun σ M Q => te σ M fun v M1 => rRngI Q [v] M1
theorem PI.imp {iter : Expr} {t t' : TI} (h : PI X tg iter t) (i : ∀ σ H R, t' σ H R → t σ H R) : PI X tg iter t' := fun pins s σ H R I w => h pins s σ H R I (i σ H R w)
theorem irange {a : Expr} {te : RTE} {p pos : Pos} (hm : X.mg "range" = none) (ha : RPE X a te) (hgl : Gl X "range" := by rfl) (hst : starEach [a] X.env = [(false, eval a X.env)] := by rfl) (hsc : starEach (a :: []) X.env = (false, eval a X.env) :: starEach [] X.env := by rfl) :
    RPI X tg (.Call (.Name "range" p) [a] [] pos) (rItR te) := PI.imp (pi_range1 hgl hm (acons ha anil hsc) hst) fun σ0 H R h => by
  obtain ⟨σ, M, Q, hs, hv, ht, hk⟩ := h
  refine ⟨σ, M, rRngI Q, hs, hv, ht, fun rs M1 vs H1 q e1 v1 r1 => ?_⟩
  unfold rRngI at q
  split at q
  · rename_i n
    obtain ⟨q1, q2, q⟩ := q
    obtain ⟨v, rfl, r2⟩ := r1.one
    simp only [Rep] at r2
    subst r2
    exact ⟨n, rfl, q1, q2, hk _ M1 _ H1 q e1 v1 (itr_of _)⟩
  · exact q.elim
def rForI (ti : RTI) (g : RTG) (tb : RTS) : RTS := fun D σ M => ti σ M fun xs M1 => rForL g tb D xs σ M1
theorem sfor {iter : Expr} {body : List Stmt} {ti : RTI} {g : RTG} {tb : RTS} {pos : Pos} (hp : PassesOwn (model X.prog X.w) X.A X.env X.xe) (hc : X.calm = true) (hi : RPI X tg iter ti) (hg : RPG X tg g) (hb : RPSs X body tb)
    (hs : ∀ x, foldedSetIterable iter X.env x = pure x := by intro _; rfl) : RPS X (.For tg iter body [] pos) (rForI ti g tb) := PS.imp (ps_for hp hc hi hg hb hs) fun D0 σ0 H h => by
  obtain ⟨σ, M, D, hs, hv, ht, hd⟩ := h
  refine ⟨σ, M, _, hs, hv, ht, fun xs M1 J H1 q e1 v1 hJ => ?_⟩
  refine ⟨fun i m σ0 H => m = xs.length - i ∧ i ≤ xs.length ∧ ∃ σ M, RepSt X.K H σ σ0 ∧ View X.K H M ∧ rForL g tb D (xs.drop i) σ M ∧ Ext H1 H, ⟨_, rfl, Nat.zero_le _, σ, M1, hs.ext e1, v1, by simpa using q, .refl _⟩, ?_⟩
  rintro i m σ0 H ⟨rfl, hi, σ, M, hs, hv, hf, e⟩
  by_cases hlt : i < xs.length
  · have ed : xs.drop i = xs[i] :: xs.drop (i + 1) := by simp
    rw [ed] at hf
    obtain ⟨hgo, hy⟩ := hJ.turn i H e xs[i] (by simp)
    refine .inr ⟨hgo, fun σ0 H => ∃ σ M, RepSt X.K H σ σ0 ∧ View X.K H M ∧ rForL g tb D (xs.drop (i + 1)) σ M ∧ Ext H1 H, fun σ' H' h => ⟨_, by omega, rfl, hlt, h⟩, fun x H' y => ?_⟩
    obtain ⟨e2, w2, r2⟩ := hy x H' y
    refine ⟨xs[i], σ, M, _, r2, hs.ext e2, w2 M hv, hf, fun σ' M' σ0' H'' q e3 v3 r3 => ?_⟩
    have e13 := (e.trans e2).trans e3
    refine ⟨σ', M', _, r3, v3, q, ⟨fun σ4 M4 σ04 H4 q4 e4 v4 r4 => ⟨σ4, M4, r4, v4, q4, e13.trans e4⟩, (hd.ext (e1.trans e13)).rt, (hd.ext (e1.trans e13)).nx, fun σ4 M4 σ04 H4 q4 e4 v4 r4 => ⟨σ4, M4, r4, v4, q4, e13.trans e4⟩⟩⟩
  · have ei : i = xs.length := by omega
    subst ei
    rw [List.drop_length] at hf
    exact .inl ⟨hJ.stop _ H e (Nat.le_refl _), hd.nx σ M σ0 H hf (e1.trans e) hv hs⟩
end
theorem closure_ok {env : Env} : ∀ (scope : Scope), (∀ y ∈ scope.names, y.2 = .free → ∃ c, env.cells.lookup y.1 = some c) → ∃ cl, closureFor scope env = pure cl ∧ (∀ y c, cl.lookup y = some c → env.cells.lookup y = some c) ∧ ∀ y ∈ scope.names, y.2 = .free → ∃ c, cl.lookup y.1 = some c := by
  intro scope h
  have all : ∀ (l : List (Str × NameKind)) (cs : List (Str × Addr)), (∀ y ∈ l, y.2 = .free → ∃ c, env.cells.lookup y.1 = some c) → (∀ y c, cs.lookup y = some c → env.cells.lookup y = some c) →
      ∃ cl, (forIn l cs fun (x : Str × NameKind) (r : List (Str × Addr)) => (match x with | (name, kind) => if (kind == NameKind.free) = true then do let c ← cellOf env name; pure (ForInStep.yield ((name, c) :: r)) else pure (ForInStep.yield r) : Sem (ForInStep (List (Str × Addr))))) = (pure cl : Sem _) ∧
        (∀ y c, cl.lookup y = some c → env.cells.lookup y = some c) ∧ (∀ y c, cs.lookup y = some c → ∃ c', cl.lookup y = some c') ∧ ∀ y ∈ l, y.2 = .free → ∃ c, cl.lookup y.1 = some c := by
    intro l
    induction l with
    | nil => intro cs _ h2; exact ⟨cs, by simp, h2, fun y c e => ⟨c, e⟩, fun y hy => by cases hy⟩
    | cons x l ih =>
      intro cs h1 h2
      obtain ⟨n, k⟩ := x
      by_cases hk : k = .free
      · subst hk
        obtain ⟨c, ec⟩ := h1 (n, .free) List.mem_cons_self rfl
        have e0 : cellOf env n = pure c := by unfold cellOf; rw [ec]
        obtain ⟨cl, e1, e2, e3, e4⟩ := ih ((n, c) :: cs) (fun y hy => h1 y (List.mem_cons_of_mem _ hy)) (fun y d e => by
          rw [List.lookup_cons] at e
          split at e
          · rename_i z; cases e; rw [eq_of_beq z]; exact ec
          · exact h2 y d e)
        refine ⟨cl, ?_, e2, fun y d e => ?_, fun y hy hf => ?_⟩
        · rw [List.forIn_cons]
          simp only [beq_self_eq_true, if_true, e0, pure_bind]
          exact e1
        · by_cases hy : y = n
          · subst hy; exact e3 y c (by simp)
          · exact e3 y d (by rw [List.lookup_cons, beq_eq_false_iff_ne.mpr hy]; exact e)
        · rcases List.mem_cons.mp hy with rfl | hy
          · exact e3 n c (by simp)
          · exact e4 y hy hf
      · obtain ⟨cl, e1, e2, e3, e4⟩ := ih cs (fun y hy => h1 y (List.mem_cons_of_mem _ hy)) h2
        have hb : (k == NameKind.free) = false := by simpa using hk
        refine ⟨cl, ?_, e2, e3, fun y hy hf => ?_⟩
        · rw [List.forIn_cons]
          simp only [hb, Bool.false_eq_true, if_false, pure_bind]
          exact e1
        · rcases List.mem_cons.mp hy with rfl | hy
          · exact absurd hf hk
          · exact e4 y hy hf
  obtain ⟨cl, e1, e2, _, e4⟩ := all scope.names [] h (fun y c e => by simp at e)
  refine ⟨cl, ?_, e2, e4⟩
  unfold closureFor
  have e5 := congrArg (fun m => m >>= fun r => (pure r : Sem (List (Str × Addr)))) e1
  simp only [pure_bind] at e5
  rw [← e5]
def relF (env : Env) (p : Str × NameKind) : Str × NameKind := if (p.2 == NameKind.free && env.scope.kind == .function && env.kindOf p.1 == some .cell) then (p.1, NameKind.cell) else (p.1, p.2)
theorem relF_fst (env : Env) (p : Str × NameKind) : (relF env p).1 = p.1 := by unfold relF; split <;> rfl
theorem relF_snd (env : Env) (p : Str × NameKind) : (relF env p).2 = p.2 ∨ ((relF env p).2 = .cell ∧ p.2 = .free) := by
  unfold relF
  split
  · rename_i h
    rw [Bool.and_eq_true, Bool.and_eq_true] at h
    exact .inr ⟨rfl, eq_of_beq h.1.1⟩
  · exact .inl rfl
theorem lookup_relF {env : Env} {x : Str} : ∀ {names : List (Str × NameKind)}, (names.map (relF env)).lookup x = (names.find? fun p => x == p.1).map fun p => (relF env p).2
  | [] => rfl
  | p :: r => by
    rw [List.map_cons, List.find?_cons]
    obtain ⟨n, k⟩ := p
    have e : relF env (n, k) = (n, (relF env (n, k)).2) := Prod.ext (relF_fst env (n, k)) rfl
    rw [e, List.lookup_cons]
    cases hx : x == n with
    | true => rfl
    | false => exact lookup_relF
theorem lookup_find {x : Str} : ∀ {names : List (Str × NameKind)}, names.lookup x = (names.find? fun p => x == p.1).map fun p => p.2
  | [] => rfl
  | (n, k) :: r => by
    rw [List.lookup_cons, List.find?_cons]
    cases hx : x == n with
    | true => rfl
    | false => exact lookup_find
theorem relabel_back {env : Env} {names : List (Str × NameKind)} {x : Str} {k : NameKind} (hc : ∀ y ∈ names, y.2 ≠ .cell) (hk : k = .cell ∨ k = .free)
    (h : (names.map (relF env)).lookup x = some k) : names.lookup x = some .free := by
  rw [lookup_relF] at h
  rw [lookup_find]
  cases e : names.find? fun p => x == p.1 with
  | none => rw [e] at h; cases h
  | some p =>
    rw [e] at h
    have h' : (relF env p).2 = k := Option.some.inj h
    have hp := List.mem_of_find?_eq_some e
    show some p.2 = some .free
    rcases relF_snd env p with z | z
    · rcases hk with rfl | rfl
      · exact absurd (z.symm.trans h') (hc p hp)
      · rw [← h', z]
    · rw [z.2]
theorem relabel_free {env : Env} {names : List (Str × NameKind)} {x : Str} (h : names.lookup x = some .free) : (names.map (relF env)).lookup x = some .cell ∨ (names.map (relF env)).lookup x = some .free := by
  rw [lookup_find] at h
  rw [lookup_relF]
  cases e : names.find? fun p => x == p.1 with
  | none => rw [e] at h; cases h
  | some p =>
    rw [e] at h
    have h' : p.2 = .free := Option.some.inj h
    show some (relF env p).2 = some .cell ∨ some (relF env p).2 = some .free
    rcases relF_snd env p with z | z
    · right; rw [z, h']
    · left; rw [z.1]
def blk (X : Cx) (scope : Scope) (cl : List (Str × Addr)) (C : Addr) (Nc : List Str) (s : Shared) (H : Hp) (fp : List Addr) : Cx :=
  { X with N := Nc, s₀ := s, H₀ := H, env := compEnvC scope cl C X.env, outer := X.stack, ex := fp, fn := fun _ => false, pn := [], xe := fun _ _ => False }
theorem blk_ok {X : Cx} {pins : List (Addr × Obj)} {σ : L2.St} {H : Hp} {s : Shared} {scope : Scope} {cl : List (Str × Addr)} {C : Addr} {Nc : List Str} {fp : List Addr} (I : Inv X pins σ H s) (hf : ∀ b ∈ fp, FpOk X pins H b) (hlt : ∀ b ∈ fp, b < s.heap.objs.size)
    (hkind : scope.kind = .function) (hC : s.heap.objs.size ≤ C) (h1 : ∀ y c, cl.lookup y = some c → X.env.cells.lookup y = some c) (h2 : ∀ y ∈ scope.names, y.2 = .free → ∃ c, cl.lookup y.1 = some c) (hcell : ∀ y ∈ scope.names, y.2 ≠ .cell) :
    (blk X scope cl C Nc s H fp).Ok where
  mod := I.ok.mod
  kind := hkind
  glob := I.ok.glob
  blt := I.ok.blt
  above := hC
  inj := fun x y c e1 e2 => I.ok.inj x y c (h1 x c e1) (h1 y c e2)
  has := fun x hx => by
    have e : scope.names.lookup x = some .free := by
      rcases hx with hx | hx
      · exact relabel_back hcell (.inl rfl) hx
      · exact relabel_back hcell (.inr rfl) hx
    exact h2 (x, .free) (PySem.mem_of_lookup e) rfl
  cab := fun x c z => by cases z
  hd := I.ok.hd
  frames := I.ok.frames
  stk := .inl rfl
  exf := fun b hb => ⟨fun z => absurd (Nat.lt_of_lt_of_le (hlt b hb) hC) (by rw [show b = C from z]; exact Nat.lt_irrefl _), fun x c e => (hf b hb).2.2.2.2.1 x c (h1 x c e)⟩
  bs := fun b o e => I.bs b o e
  bsz := Nat.le_trans I.ok.bsz I.sz
  noex := fun b o e hb => by
    rcases (hf b hb).2.2.2.1 with z | z
    · exact I.ok.noex b o e z
    · exact absurd (Nat.lt_of_lt_of_le (Heap.lt_size e) (Nat.le_trans I.ok.bsz z)) (Nat.lt_irrefl _)
  exfs := fun b hb z => by
    rcases List.mem_cons.mp (I.stkSub b z) with e | e
    · exact (hf b hb).2.1 e
    · exact (hf b hb).2.2.1 e
  funs := I.stack
  frf := I.stkFree
end R
namespace R
open PySem PySem.Spec PyProof.Rows L2
section
variable {prog : Program} {w : World} {A : Around} {R : Result → Shared → Prop} {s : Shared}
abbrev Nv : Value → Shared → Prop := fun _ _ => False
abbrev testsOf (ifs : List Expr) (env : Env) : Sem Bool := forIn ifs true fun c r => if r = true then do let ok ← isTrue c env (eval c env); pure (ForInStep.yield ok) else pure (ForInStep.yield r)
theorem comp_loop {elt target iter : Expr} {ifs : List Expr} {scope : Scope} {pos : Pos} {it acc : Value} {env : Env} (I : Nat → Shared → Prop)
    (turn : ∀ n s, I n s → wpAny (model prog w) A (pyNext it) (fun r s₁ => (r = none ∧ R (.ok .next) s₁) ∨ ∃ v, r = some v ∧ wpAny (model prog w) A (letOwnedTupleGo target it v) (fun _ s₁' => wpAny (model prog w) A (assign target env v) (fun _ s₂ =>
          wpAny (model prog w) A (testsOf ifs env) (fun ok s₃ =>
            if ok = true then wpAny (model prog w) A (eval elt env) (fun x s₄ =>
              wpAny (model prog w) A (call (.builtin "list.append") [acc, x]) (fun _ s₅ => ∃ m, m < n ∧ I m s₅) Nv s₄) Nv s₃
            else ∃ m, m < n ∧ I m s₃) Nv s₂) Nv s₁') Nv s₁) Nv s)
    (n : Nat) (h : I n s) :
    codeAny (model prog w) A (.compLoop (.ListComp elt [⟨target, iter, ifs, 0⟩] scope pos) 0 it acc env) R s := by
  refine codeAny_loop rfl I (fun n s hI => ?_) n h
  show wpAny _ A ((compTurn (.ListComp elt [⟨target, iter, ifs, 0⟩] scope pos) 0 it acc env).onRaise (fun x => do noteFrame x env; theTreesLotGoes x)) _ _ s
  refine wpAny_noted ?_
  rw [compTurn_list]
  refine wpAny_bind (wpAny_standAt (wpAny_bind (wpAny_mono (turn n s hI) (fun r s₁ h₁ => ?_) fun _ _ h' => h'.elim)))
  rcases h₁ with ⟨rfl, h₁⟩ | ⟨v, rfl, h₁⟩
  · exact wpAny_pure h₁
  · refine wpAny_bind (wpAny_mono h₁ (fun _ s₁' h₁' => ?_) fun _ _ h' => h'.elim)
    refine wpAny_bind (wpAny_mono h₁' (fun _ s₂ h₂ => wpAny_bind (wpAny_mono h₂ (fun ok s₃ h₃ => ?_) fun _ _ h' => h'.elim)) fun _ _ h' => h'.elim)
    cases ok with
    | false => exact wpAny_pure ⟨rfl, h₃⟩
    | true =>
      exact wpAny_bind (wpAny_bind (wpAny_mono h₃ (fun x s₄ h₄ => wpAny_bind (wpAny_mono h₄ (fun _ s₅ h₅ => wpAny_pure (wpAny_pure ⟨rfl, h₅⟩)) fun _ _ h' => h'.elim)) fun _ _ h' => h'.elim))
end
def RPTs (X : Cx) (ifs : List Expr) (t : RTT) : Prop :=
  ∀ (pins : List (Addr × Obj)) (s : Shared) (σ : L2.St) (H : Hp) (Q : Bool → Hp → Prop), Inv X pins σ H s → upT X.K t σ H Q → wpAny (model X.prog X.w) X.A (testsOf ifs X.env) (TP X pins σ Q) X.xe s
def rYes : RTT := fun _ M Q => Q true M
theorem tnil {X : Cx} : RPTs X [] rYes := by
  intro pins s σ0 H Q0 I h
  obtain ⟨σ, M, Q, hs, hv, ht, hk⟩ := h
  exact wpAny_pure ⟨H, I, hk true M H ht (.refl H) hv⟩
theorem tone {X : Cx} {c : Expr} {t : RTT} (h : RPT X c t) : RPTs X [c] t := by
  intro pins s σ0 H Q0 I hw
  have := h pins s σ0 H Q0 I hw
  unfold testsOf
  rw [List.forIn_cons]
  simp only [if_true, bind_assoc, pure_bind]
  refine wpAny_bind (thn this fun b s' q => ?_)
  simp only [List.forIn_nil]
  exact wpAny_pure q
def rCompL (tt : RTT) (te : RTE) (base : List (Option RV)) : List RV → List RV → RM → RVK → Prop
  | [], acc, M, Q => Q (.ls acc) M
  | x :: r, acc, M, Q => tt (some x :: base) M fun ok M1 => (ok = true → te (some x :: base) M1 fun v M2 => rCompL tt te base r (acc ++ [v]) M2 Q) ∧ (ok = false → rCompL tt te base r acc M1 Q)
def rComp (ti : RTI) (cap : List Nat) (tt : RTT) (te : RTE) : RTE := fun σ M Q => ti σ M fun xs M1 => xs.length < sizeLine ∧ rCompL tt te (cap.map fun i => (σ[i]?).join) xs [] M1 Q
section
variable {X : Cx}
theorem rcomp {elt iter : Expr} {x : Str} {px : Pos} {scope : Scope} {pos : Pos} {ti : RTI} {tt : RTT} {te : RTE} {ifs : List Expr} (caps : List (Nat × Str)) {osc : Scope} {oN : List Str}
    (hc : X.calm = true) (hi : RPI X (.Name x px) iter ti)
    (hif : ∀ cl C s H fp, RPTs (blk X scope cl C (x :: caps.map Prod.snd) s H fp) ifs tt)
    (hel : ∀ cl C s H fp, RPE (blk X scope cl C (x :: caps.map Prod.snd) s H fp) elt te)
    (hX : X.env.scope = osc) (hN : X.N = oN)
    (hcaps : ∀ p ∈ caps, oN[p.1]? = some p.2 ∧ scope.names.lookup p.2 = some .free ∧ (osc.names.lookup p.2 = some .cell ∨ osc.names.lookup p.2 = some .free))
    (hfr : ∀ y ∈ scope.names, y.2 = .free → (osc.names.lookup y.1 = some .cell ∨ osc.names.lookup y.1 = some .free))
    (hcell : ∀ y ∈ scope.names, y.2 ≠ .cell) (hkind : scope.kind = .function) (hnames : ∀ y ∈ scope.names, y.2 = .local → scope.names.lookup y.1 = some .local) (hx : scope.names.lookup x = some .local) (hnd : (x :: caps.map Prod.snd).Nodup)
    (hs : ∀ v, foldedSetIterable iter X.env v = pure v := by intro _; rfl) :
    RPE X (.ListComp elt [⟨.Name x px, iter, ifs, 0⟩] scope pos) (rComp ti (caps.map Prod.fst) tt te) := by
  subst hX; subst hN
  intro pins s σ0 H Q0 I hw
  obtain ⟨σ, M, Q, hst, hv, ht, hk⟩ := hw
  obtain ⟨cl, hclos, hcl1, hcl2⟩ := closure_ok scope fun y hy hf => I.ok.has y.1 (hfr y hy hf)
  rw [eval_ListComp]
  refine wpAny_comprehension_free (use := none) (cl := cl) rfl hs hclos hkind hnames ?_
  refine wpAny_mono (hi pins s σ0 H (fun J H1 => ∃ xs M1, Ext H H1 ∧ View X.K H1 M1 ∧ ItOf X.K J xs H1 ∧ xs.length < sizeLine ∧ rCompL tt te ((caps.map Prod.fst).map fun i => (σ[i]?).join) xs [] M1 Q) I ⟨σ, M, _, hst, hv, ht, fun xs M' J H' q e w hJ => ⟨xs, M', e, w, hJ, q.1, q.2⟩⟩)
    (fun v s1 h1 => wpAny_mono h1 (fun itv s2 h2 => ?_) fun _ _ e => e) fun _ _ e => e
  obtain ⟨it, fp, tn, J, H2, rfl, I2, T, st2, f2, xs, M1, e2, w2, hJ, hz, hq⟩ := h2
  have flt : ∀ b ∈ fp, b < s2.heap.objs.size := fun b hb => by obtain ⟨o, e, _⟩ := T.obj _ _ st2 b hb; exact Heap.lt_size e
  refine wpAny_newObj_type (wpAny_newFunctionEnv hcell (by intro y hy; simp at hy) (fun h₁ hns₁ hsb₁ => ?_) hkind)
  dsimp only at hns₁ hsb₁ ⊢
  generalize hH2 : s2.heap.push { cls := .type "list", dict := none, data := .seq ([] : List Value).toArray } = hp2 at hns₁ hsb₁ ⊢
  have hCs : hp2.objs.size = s2.heap.objs.size + 1 := by rw [← hH2, Heap.size_push]
  have hDC : s2.heap.objs.size ≠ hp2.objs.size := by rw [hCs]; exact Nat.ne_of_lt (Nat.lt_succ_self _)
  have hCle : s2.heap.objs.size ≤ hp2.objs.size := by rw [hCs]; exact Nat.le_succ _
  have old : ∀ b o, s2.heap.get? b = some o → h₁.get? b = some o := fun b o e => hsb₁.extBut b o (Nat.ne_of_lt (by rw [hCs]; exact Nat.lt_succ_of_lt (Heap.lt_size e))) (Heap.get?_push_of_some _ (hH2 ▸ Heap.get?_push_of_some _ e))
  have hacc : h₁.get? s2.heap.objs.size = some { cls := .type "list", data := .seq ([] : List Value).toArray } := hsb₁.extBut _ _ hDC (Heap.get?_push_of_some _ (hH2 ▸ Heap.get?_push_size _ rfl))
  generalize hD : s2.heap.objs.size = D at *
  generalize hCg : hp2.objs.size = C at *
  have hDfp : ∀ b ∈ fp, b ≠ D := fun b hb => Nat.ne_of_lt (flt b hb)
  have okB : (blk X scope cl C (x :: caps.map Prod.snd) s2 H2 fp).Ok := blk_ok I2 f2 (by rw [hD]; exact flt) hkind (by rw [hD]; exact hCle) hcl1 hcl2 hcell
  have fr : ∀ b, D ≤ b → H2 b = none := fun b hb => I2.hok.fresh (by rw [hD]; exact hb)
  have capsV : ∃ cv : List (Option V), cv.length = caps.length ∧ (∀ (j : Nat) v, cv[j]? = some (some v) → ∃ p, caps[j]? = some p ∧ σ0[p.1]? = some (some v)) ∧
      ∀ (j : Nat) r, ((caps.map Prod.fst).map fun i => (σ[i]?).join)[j]? = some (some r) → ∃ v, cv[j]? = some (some v) ∧ Rep X.K H2 r v := by
    refine ⟨caps.map fun p => (σ0[p.1]?).join, by simp, fun j v e => ?_, fun j r e => ?_⟩
    · rw [List.getElem?_map] at e
      cases q : caps[j]? with
      | none => rw [q] at e; cases e
      | some p =>
        rw [q] at e
        have e' : (σ0[p.1]?).join = some v := Option.some.inj e
        refine ⟨p, rfl, ?_⟩
        cases z : σ0[p.1]? with
        | none => rw [z] at e'; cases e'
        | some o => rw [z] at e'; have : o = some v := e'; rw [this]
    · rw [List.getElem?_map, List.getElem?_map] at e
      cases q : caps[j]? with
      | none => rw [q] at e; cases e
      | some p =>
        rw [q] at e
        have e' : (σ[p.1]?).join = some r := Option.some.inj e
        have e'' : σ[p.1]? = some (some r) := by
          cases z : σ[p.1]? with
          | none => rw [z] at e'; cases e'
          | some o => rw [z] at e'; have : o = some r := e'; rw [this]
        obtain ⟨v, h1, h2⟩ := hst.2 p.1 r e''
        refine ⟨v, ?_, Rep.ext e2 r v h2⟩
        rw [List.getElem?_map, q]
        show some ((σ0[p.1]?).join) = _
        rw [h1]; rfl
  obtain ⟨cv, cvl, cv1, cv2⟩ := capsV
  have I3 : Inv (blk X scope cl C (x :: caps.map Prod.snd) s2 H2 fp) [(D, { cls := .type "list", data := .seq ([] : List Value).toArray })] (none :: cv) H2 { s2 with heap := h₁, toks := s2.toks + ([] : List (Str × Value)).length } := by
    refine ⟨okB, rfl, I2.bare, Un.kept old, ⟨_, hns₁, fun i y v a b c => ?_⟩, fun y c e => ?_, fr C hCle, fun y c e => I2.freeC y c (hcl1 y c e), fun p hp => ?_, I2.hok.kept old, ?_⟩
    · cases i with
      | zero => cases b
      | succ j =>
        obtain ⟨p, q1, q2⟩ := cv1 j v b
        have hy : p.2 = y := by
          have a' : (caps.map Prod.snd)[j]? = some y := a
          rw [List.getElem?_map, q1] at a'
          exact Option.some.inj a'
        subst hy
        obtain ⟨z1, z2, z3⟩ := hcaps p (List.mem_of_getElem? q1)
        obtain ⟨m, hn, hl⟩ := I2.loc
        have vis : Vis X.env.scope p.2 := by rcases z3 with z | z; exact .inr (.inl z); exact .inr (.inr z)
        obtain ⟨u, ru, lk⟩ := hl p.1 p.2 v z1 q2 vis
        refine ⟨u, ru, .inr ⟨relabel_free z2, ?_⟩⟩
        obtain ⟨c, ec⟩ := hcl2 (p.2, .free) (PySem.mem_of_lookup z2) rfl
        have ec' := hcl1 p.2 c ec
        rcases lk with ⟨k, _⟩ | ⟨_, c', e', ic⟩
        · have k' : X.env.scope.names.lookup p.2 = some .local := k
          rcases z3 with z | z <;> (rw [z] at k'; cases k')
        · rw [ec'] at e'; cases e'
          obtain ⟨o, ho, hd⟩ := ic
          exact ⟨c, ec, o, old c o ho, hd⟩
    · obtain ⟨v, o, ho, hd⟩ := I2.cell y c (hcl1 y c e)
      exact ⟨v, o, old c o ho, hd⟩
    · have hp' : p = (D, { cls := .type "list", data := .seq ([] : List Value).toArray }) := by simpa [blk] using hp
      subst hp'
      refine ⟨hacc, fr D (Nat.le_refl _), hDC, fun z => ?_, fun v => by simp⟩
      have := I2.stkFree D z
      rcases List.mem_cons.mp (I2.stkSub D z) with e | e
      · exact absurd I2.lt (by rw [← e, hD]; exact Nat.lt_irrefl _)
      · exact I2.nofs (by rw [hD]; exact Nat.le_refl _) e
    · show (none :: cv).length = (x :: caps.map Prod.snd).length
      simp [cvl]
  have W : ∀ s3 : Shared, s3 = { s2 with heap := h₁, toks := s2.toks + ([] : List (Str × Value)).length } → codeAny (model X.prog X.w) X.A (.compLoop (.ListComp elt [⟨.Name x px, iter, ifs, 0⟩] scope pos) 0 (.ref it) (.ref D) (compEnvC scope cl C X.env))
      (compPost (model X.prog X.w) X.A X.xe none (EP X pins σ0 Q0) (.ref D) C) s3 := by
    rintro s3 rfl
    refine comp_loop (fun n s' => ∃ (i : Nat) (v0 : Option V) (H' : Hp) (M' : RM) (accR : List RV) (accV : List V) (its : List Value) (k : Nat), n = xs.length - i ∧ i ≤ xs.length ∧ accR.length ≤ i ∧
        Inv (blk X scope cl C (x :: caps.map Prod.snd) s2 H2 fp) [(D, { cls := .type "list", data := .seq its.toArray k })] (v0 :: cv) H' s' ∧ View X.K H' M' ∧ Ext H2 H' ∧ Reps X.K H' accR accV ∧ Vals accV its ∧ tn i s'.heap ∧ (∀ b ∈ fp, H' b = none) ∧
        rCompL tt te ((caps.map Prod.fst).map fun i => (σ[i]?).join) (xs.drop i) accR M' Q) ?_ xs.length ⟨0, none, H2, M1, [], [], [], 0, rfl, Nat.zero_le _, Nat.le_refl _, I3, w2, .refl _, Reps.nil, .nil, T.keep _ _ _ st2 fun b _ o e => old b o e, fun b hb => (f2 b hb).1, by simpa using hq⟩
    rintro n s' ⟨i, v0, H', M', accR, accV, its, k, rfl, hi, hal, I4, w4, e4, ra, rl, st4, f4, hq4⟩
    have fpB : ∀ (pins' : List (Addr × Obj)) (H'' : Hp), (∀ b ∈ fp, H'' b = none) → (∀ p ∈ pins', ∀ b ∈ fp, p.1 ≠ b) → ∀ b ∈ fp, FpOk (blk X scope cl C (x :: caps.map Prod.snd) s2 H2 fp) pins' H'' b := fun pins' H'' h1 h2 b hb =>
      ⟨h1 b hb, (okB.exf b hb).1, okB.exfs b hb, .inl hb, (okB.exf b hb).2, fun p hp => h2 p (by simpa [blk] using hp) b hb⟩
    have pD : ∀ (o : Obj), ∀ p ∈ [(D, o)], ∀ b ∈ fp, p.1 ≠ b := fun o p hp b hb => by
      have : p = (D, o) := by simpa using hp
      subst this
      exact (hDfp b hb).symm
    by_cases hlt : i < xs.length
    · obtain ⟨hgo, hy⟩ := hJ.turn i H' e4 xs[i] (by simp)
      refine thn (T.item (blk X scope cl C (x :: caps.map Prod.snd) s2 H2 fp) rfl rfl rfl hc i _ s' _ H' Nv I4 (fpB _ _ f4 (pD _)) st4 hgo) fun r s5 ⟨u, hr, h5⟩ => .inr ⟨u, hr, ?_⟩
      refine thn h5 fun _ s6 ⟨xv, H6, I6, r6, y6, st6, f6⟩ => ?_
      obtain ⟨e6, w6, rr6⟩ := hy xv H6 y6
      have I6' := I6.pinned (fpB _ _ f6 (pD _)) (T.obj _ _ st6)
      refine thn (pg_name (X := blk X scope cl C (x :: caps.map Prod.snd) s2 H2 fp) (i := 0) hnd rfl (.inl (lookup_relabel_local hx)) (.inr (lookup_relabel_local hx)) _ s6 _ H6 xv u (fun σ' H' => σ' = (some xv :: cv) ∧ H' = H6) I6' r6 ⟨rfl, rfl⟩) fun _ s7 ⟨σ7, H7, I7, q7, q7'⟩ => ?_
      obtain rfl := q7
      subst q7'
      have ed : xs.drop i = xs[i] :: xs.drop (i + 1) := by simp
      rw [ed] at hq4
      have base : ∀ {Hx : Hp}, Ext H7 Hx → RepSt X.K Hx (some xs[i] :: (caps.map Prod.fst).map fun i => (σ[i]?).join) (some xv :: cv) := fun {Hx} ex => by
        refine ⟨by simp [cvl], fun j r e => ?_⟩
        cases j with
        | zero =>
          have e' : xs[i] = r := by simpa using e
          subst e'
          exact ⟨xv, rfl, Rep.ext ex _ _ rr6⟩
        | succ j =>
          obtain ⟨v, a, b⟩ := cv2 j r (by simpa using e)
          exact ⟨v, by simpa using a, Rep.ext (e4.trans (e6.trans ex)) r v b⟩
      have next : ∀ (M8 : RM) (H8 : Hp) (s8 : Shared) (accR' : List RV) (accV' : List V) (its' : List Value) (k' : Nat), accR'.length ≤ i + 1 →
          Inv (blk X scope cl C (x :: caps.map Prod.snd) s2 H2 fp) ([(D, { cls := .type "list", data := .seq its'.toArray k' })] ++ pinsAt fp s6.heap) (some xv :: cv) H8 s8 → View X.K H8 M8 → Ext H7 H8 → Reps X.K H8 accR' accV' → Vals accV' its' →
          rCompL tt te ((caps.map Prod.fst).map fun i => (σ[i]?).join) (xs.drop (i + 1)) accR' M8 Q → ∃ m, m < xs.length - i ∧ ∃ (i : Nat) (v0 : Option V) (H' : Hp) (M' : RM) (accR : List RV) (accV : List V) (its : List Value) (k : Nat), m = xs.length - i ∧ i ≤ xs.length ∧ accR.length ≤ i ∧
        Inv (blk X scope cl C (x :: caps.map Prod.snd) s2 H2 fp) [(D, { cls := .type "list", data := .seq its.toArray k })] (v0 :: cv) H' s8 ∧ View X.K H' M' ∧ Ext H2 H' ∧ Reps X.K H' accR accV ∧ Vals accV its ∧ tn i s8.heap ∧ (∀ b ∈ fp, H' b = none) ∧
        rCompL tt te ((caps.map Prod.fst).map fun i => (σ[i]?).join) (xs.drop i) accR M' Q := by
        intro M8 H8 s8 accR' accV' its' k' hl' I8 w8 e8 ra' rl' hq8
        have keep8 : ∀ b ∈ fp, ∀ o, s6.heap.get? b = some o → s8.heap.get? b = some o ∧ H8 b = none := fun b hb o e => by
          have := I8.pin (b, o) (List.mem_append_right _ (List.mem_append_right _ (mem_pinsAt hb e)))
          exact ⟨this.1, this.2.1⟩
        refine ⟨xs.length - (i + 1), by omega, i + 1, some xv, H8, M8, accR', accV', its', k', rfl, hlt, hl', I8.unpinned, w8, e4.trans (e6.trans e8), ra', rl', T.keep _ _ _ st6 fun b hb o e => (keep8 b hb o e).1, fun b hb => ?_, hq8⟩
        obtain ⟨o, e, _⟩ := T.obj _ _ st6 b hb
        exact (keep8 b hb o e).2
      refine thn (hif cl C s2 H2 fp _ s7 _ H7 (fun ok H8 => ∃ M8, View X.K H8 M8 ∧ Ext H7 H8 ∧ (ok = true → te (some xs[i] :: (caps.map Prod.fst).map fun i => (σ[i]?).join) M8 fun v M2 => rCompL tt te ((caps.map Prod.fst).map fun i => (σ[i]?).join) (xs.drop (i + 1)) (accR ++ [v]) M2 Q) ∧
        (ok = false → rCompL tt te ((caps.map Prod.fst).map fun i => (σ[i]?).join) (xs.drop (i + 1)) accR M8 Q)) I7 ⟨_, M', _, base (.refl _), w6 M' w4, hq4, fun b M8 H8 q e w => ⟨M8, w, e, q.1, q.2⟩⟩) fun ok s8 ⟨H8, I8, M8, w8, e8, qt, qf⟩ => ?_
      cases ok with
      | false =>
        exact next M8 H8 s8 accR accV its k (by omega) I8 w8 e8 (Reps.ext (e6.trans e8) _ _ ra) rl (qf rfl)
      | true =>
        refine thn (hel cl C s2 H2 fp _ s8 _ H8 (fun v H9 => ∃ rv M9, View X.K H9 M9 ∧ Ext H8 H9 ∧ Rep X.K H9 rv v ∧ rCompL tt te ((caps.map Prod.fst).map fun i => (σ[i]?).join) (xs.drop (i + 1)) (accR ++ [rv]) M9 Q) I8 ⟨_, M8, _, base e8, w8, qt rfl, fun rv M9 v H9 q e w r => ⟨rv, M9, w, e, r, q⟩⟩) fun y s9 ⟨yv, H9, I9, r9, rv, M9, w9, e9, rr9, hq9⟩ => ?_
        have pD9 := I9.pin (D, { cls := .type "list", data := .seq its.toArray k }) (List.mem_append_right _ (List.mem_append_left _ List.mem_cons_self))
        have hlen : its.length ≤ i := by rw [← rl.length, ← ra.length]; exact hal
        refine call_meets F.slot_list_append ⟨_, pD9.1, rfl⟩ F.entry_list_append (F.args_list_append_2 _ _) (PySem.list_append D its.toArray k y (by rw [List.size_toArray]; omega)) ⟨pD9.1, ?_⟩
        have q := PySem.IsL.update pD9.1 (fun x_1 => x_1.push y)
        have hpush : its.toArray.push y = (its ++ [y]).toArray := by simp
        rw [hpush] at q
        obtain ⟨k', q⟩ : ∃ k', (s9.heap.update D (Obj.mapSeq fun x_1 => x_1.push y)).get? D = some { cls := .type "list", data := .seq (its ++ [y]).toArray k' } := ⟨_, q⟩
        have I10 : Inv (blk X scope cl C (x :: caps.map Prod.snd) s2 H2 fp) (pinsAt fp s6.heap) (some xv :: cv) H9 { s9 with heap := s9.heap.update D (Obj.mapSeq fun x_1 => x_1.push y), toks := s9.toks } := by
          refine Inv.turned (it := D) (I9.pins_of fun p hp => I9.pin p (List.mem_append_right _ (List.mem_append_right _ hp))) (fun b o hb e => (Heap.get?_update_other _ _ (Ne.symm hb)).trans e) pD9.2.1 pD9.2.2.1 (.inr (by show s2.heap.objs.size ≤ D; rw [hD]; exact Nat.le_refl _)) (fun z c e => ?_) fun p hp => ?_
          · obtain ⟨v, o, ho, hd⟩ := I2.cell z c (hcl1 z c e)
            exact Nat.ne_of_lt (by have := Heap.lt_size ho; rw [hD] at this; exact this)
          · have hp' : p ∈ pinsAt fp s6.heap := by simpa [blk] using hp
            exact hDfp p.1 (of_pinsAt hp').1
        have I11 : Inv (blk X scope cl C (x :: caps.map Prod.snd) s2 H2 fp) ([(D, { cls := .type "list", data := .seq (its ++ [y]).toArray k' })] ++ pinsAt fp s6.heap) (some xv :: cv) H9 { s9 with heap := s9.heap.update D (Obj.mapSeq fun x_1 => x_1.push y), toks := s9.toks } := by
          refine I10.pins_of fun p hp => ?_
          rcases List.mem_append.mp hp with hp | hp
          · have : p = (D, { cls := .type "list", data := .seq (its ++ [y]).toArray k' }) := by simpa using hp
            subst this
            exact ⟨q, pD9.2.1, pD9.2.2.1, pD9.2.2.2.1, fun v => by simp⟩
          · exact I10.pin p (List.mem_append_right _ hp)
        exact next M9 H9 _ (accR ++ [rv]) (accV ++ [yv]) (its ++ [y]) k' (by rw [List.length_append, List.length_singleton]; omega) I11 w9 (e8.trans e9) ((Reps.ext (e6.trans (e8.trans e9)) _ _ ra).append (Reps.cons rr9 Reps.nil)) (rl.append (.cons r9 .nil)) hq9
    · have ei : i = xs.length := by omega
      subst ei
      refine thn (T.done (blk X scope cl C (x :: caps.map Prod.snd) s2 H2 fp) rfl rfl rfl hc _ _ s' _ H' Nv I4 (fpB _ _ f4 (pD _)) st4 (hJ.stop _ H' e4 (Nat.le_refl _))) fun r s5 ⟨hr, I5⟩ => .inl ⟨hr, ?_⟩
      rw [List.drop_length] at hq4
      obtain ⟨m5, hn5, _⟩ := I5.loc
      refine ⟨m5, hn5, fun h' sb => ?_⟩
      have pD5 := I5.pin (D, { cls := .type "list", data := .seq its.toArray k }) (List.mem_append_right _ List.mem_cons_self)
      have hDh : h'.get? D = some { cls := .type "list", data := .seq its.toArray k } := sb.extBut _ _ hDC pD5.1
      have hC5 : H' C = none := I5.free
      have hz' : accV.length ≤ sizeLine := by rw [← ra.length]; omega
      have hok5 : HOk X.prog X.w (upd H' D (.frz { cls := .type "list", data := .seq its.toArray k } (.lst accV))) h' := fun b u q => by
        by_cases hb : b = D
        · subst hb; rw [upd_same] at q; cases q
          exact ⟨hDh, hz', its, k, rl, hDh⟩
        · rw [upd_ne hb] at q
          refine (I5.hok b u q).stay (fun c v hcb e => sb.extBut c v ?_ e) (fun c e => ?_) fun c ys e => ?_
          · rcases hcb with rfl | e'
            · exact ne_of_none q hC5
            · exact ne_of_none e' hC5
          · rw [upd_ne (ne_of_none e pD5.2.1)]; exact e
          · rw [upd_ne (ne_of_none e pD5.2.1)]; exact e
      have un5 : Un (frs X.stack) fp H2 (upd H' D (.frz { cls := .type "list", data := .seq its.toArray k } (.lst accV))) s2.heap h' := by
        have B : Un (frs X.stack) fp H2 H' s2.heap s5.heap := I5.base
        have nC : ∀ b o, s2.heap.get? b = some o → b ≠ C := fun b o e => Nat.ne_of_lt (Nat.lt_of_lt_of_le (Heap.lt_size e) (by rw [hD]; exact hCle))
        have nD : ∀ b o, s2.heap.get? b = some o → b ≠ D := fun b o e => Nat.ne_of_lt (by have := Heap.lt_size e; rw [hD] at this; exact this)
        refine ⟨fun b o a1 a2 a3 a4 => sb.extBut b o (nC b o a1) (B.keep b o a1 a2 a3 a4), fun b o a1 a2 a3 a4 => ?_, fun b o a1 a2 a4 => ?_, fun b o a1 a4 => ?_, fun b ys a => ?_, fun b o u a => ?_, fun b ps a => ?_⟩
        · obtain ⟨sl, e⟩ := B.slot b o a1 a2 a3 a4
          exact ⟨sl, sb.extBut b _ (nC b o a1) e⟩
        · rw [upd_ne (nD b o a1)]; exact B.free b o a1 a2 a4
        · obtain ⟨o', e⟩ := B.there b o a1 a4
          exact ⟨o', sb.extBut b o' (nC b o a1) e⟩
        · have e := B.tups b ys a; rw [upd_ne (ne_of_none e pD5.2.1)]; exact e
        · have e := B.frzs b o u a; rw [upd_ne (ne_of_none e pD5.2.1)]; exact e
        · obtain ⟨more, e⟩ := B.tbls b ps a; exact ⟨more, by rw [upd_ne (ne_of_none e pD5.2.1)]; exact e⟩
      have I6 : Inv X pins σ0 (upd H' D (.frz { cls := .type "list", data := .seq its.toArray k } (.lst accV))) { s5 with heap := h' } := I2.call' (ch := fp) I5.os un5 hok5 I5.bare fun b hb => ⟨(f2 b hb).2.2.2.1, (f2 b hb).2.1, (f2 b hb).2.2.2.2.1, (f2 b hb).2.2.2.2.2⟩
      refine ⟨.ref D, _, I6, rfl, hk _ M' _ _ hq4 ((e2.trans e4).trans (Ext.new pD5.2.1)) (w4.new pD5.2.1) (rep_ls pD5.2.1 ra)⟩
  exact codeAny_compStart_list (W _ rfl) (T.self X.A 0 _ _ _ (T.keep _ _ _ st2 fun b _ o e => old b o e) (W _ rfl))
end
end R
namespace R
open PySem PySem.Spec PyProof.Rows L2
def keyR : RV → Option Key
  | .int i => some (.inl i)
  | .str x => some (.inr x)
  | _ => none
def lookK {α : Type} (kvs : List (Key × α)) (k : Key) : Option α := (kvs.find? fun p => decide (p.1 = k)).map (·.2)
structure KTab (P : Program) (w : World) (K : PySem.W.Frag) (mg : Str → Option Value) (x : Str) (kvs : List (Key × RV)) : Prop where
  ex : ∃ (a : Addr) (vs : List (Key × Value)) (ws : List (Key × V)), mg x = some (.ref a) ∧ (a == sysModules) = false ∧ (∀ h : Heap, K.In h → h.DictOf (mixKind P w) a vs) ∧ KV ws vs ∧ ∀ H, RepP K H kvs ws
section
variable {X : Cx}
def rTab (kvs : List (Key × RV)) (te : RTE) : RTE := fun σ M Q => te σ M fun k M1 => match keyR k with
  | some key => (match lookK kvs key with | some v => Q v M1 | none => False)
  | none => False
def drop (M : RM) (p : Addr) : RM := fun b => if b = p then none else M b
theorem View.drop {K : PySem.W.Frag} {H : Hp} {M : RM} (w : View K H M) (p : Addr) : View K H (drop M p) := fun a o e => by
  unfold R.drop at e
  split at e
  · cases e
  · exact w a o e
def rDispGet (kvs : List (Key × RV)) (te : RTE) : RTE := fun σ M Q => ∀ p, M p = none → te σ (put M p (.dk kvs)) fun k M1 => M1 p = some (.dk kvs) ∧ (match keyR k with
  | some key => (match lookK kvs key with | some v => Q v (drop M1 p) | none => False)
  | none => False)
end
end R
namespace R
open PySem PySem.Spec PyProof.Rows L2
theorem rfnok {P : Program} {w : World} {K : PySem.W.Frag} {mg : Str → Option Value} {base : Heap} {x qual : Str} {st : Stmt} {f : Addr} {fd : FuncData} {N ps : List Str} {k : Nat} {sp : RSp} {t : RTS} (F : Fun K x qual st f fd) (S : FnScope N ps (defScope st))
    (len : ∀ rs M Q, sp rs M Q → rs.length = ps.length)
    (term : ∀ (cdv : Value) (A : Around) (outer : List Env) (s : Shared) (H : Hp) (E : XK), Room k (A.deeper (envOfC qual (defScope st) s.heap.objs.size f cdv)) → RPSs (cxOf CX0 P w K mg base N qual (defScope st) f cdv A outer s H E).nox (defBody st) t)
    (body : ∀ rs M Q, sp rs M Q → t { nx := fun _ M' => Q .non M', rt := Q } (rstart N rs) M) : FnOk P w K mg base CX0 (k + 1) f fd ps (upSp K sp) := by
  refine F.ok S (fun vs H Q0 E h => ?_) fun cdv A outer s H vs Q0 E hr h => ?_
  · obtain ⟨rs, M, Q, rr, hv, hq, hk⟩ := h
    rw [← rr.length]; exact len rs M Q hq
  · obtain ⟨rs, M, Q, rr, hv, hq, hk⟩ := h
    refine ⟨_, term cdv A outer s H E hr, rstart N rs, M, { nx := fun _ M' => Q .non M', rt := Q }, start_rep rr, hv, body rs M Q hq, ⟨fun σ M' σ0 H' q e w r => hk .non M' .non H' q e w (by simp only [Rep]), hk, fun _ _ _ _ z => z.elim, fun _ _ _ _ z => z.elim⟩⟩
theorem bt_len : bootBuiltins "len" = some (.builtin "len") := by decide +kernel
theorem bt_isinstance : bootBuiltins "isinstance" = some (.builtin "isinstance") := by decide +kernel
theorem bt_all : bootBuiltins "all" = some (.builtin "all") := by decide +kernel
theorem bt_tuple : bootBuiltins "tuple" = some (.type "tuple") := by decide +kernel
theorem bt_list : bootBuiltins "list" = some (.type "list") := by decide +kernel
theorem bt_int : bootBuiltins "int" = some (.type "int") := by decide +kernel
theorem bt_bool : bootBuiltins "bool" = some (.type "bool") := by decide +kernel
theorem bt_str : bootBuiltins "str" = some (.type "str") := by decide +kernel
section
variable {X : Cx} {pos : Pos}
theorem rty_int (hm : X.mg "int" = none) (hg : Gl X "int" := by rfl) : RPE X (.Name "int" pos) (rC (.ty "int")) := rbltn hm bt_int (v := .ty "int") rfl (fun H => by simp only [Rep]) hg
theorem rty_bool (hm : X.mg "bool" = none) (hg : Gl X "bool" := by rfl) : RPE X (.Name "bool" pos) (rC (.ty "bool")) := rbltn hm bt_bool (v := .ty "bool") rfl (fun H => by simp only [Rep]) hg
theorem rty_str (hm : X.mg "str" = none) (hg : Gl X "str" := by rfl) : RPE X (.Name "str" pos) (rC (.ty "str")) := rbltn hm bt_str (v := .ty "str") rfl (fun H => by simp only [Rep]) hg
theorem rty_tuple (hm : X.mg "tuple" = none) (hg : Gl X "tuple" := by rfl) : RPE X (.Name "tuple" pos) (rC (.ty "tuple")) := rbltn hm bt_tuple (v := .ty "tuple") rfl (fun H => by simp only [Rep]) hg
def IntC (mg : Str → Option Value) (x : Str) (i : Int) : Prop := ∃ t, mg x = some (.int i t)
theorem rgi {x : Str} {i : Int} (h : IntC X.mg x i) (hg : Gl X x := by rfl) (hd : (x == ("__debug__" : Str)) = false := by decide) : RPE X (.Name x pos) (rC (.int i)) := by
  obtain ⟨t, hm⟩ := h
  exact rglob hm (v := .int i) ⟨t, rfl⟩ (fun H => by simp only [Rep]) hg hd
def TupC (K : PySem.W.Frag) (mg : Str → Option Value) (x : Str) (ss : List Str) : Prop := ∃ a, mg x = some (.ref a) ∧ ∀ H, Rep K H (.tup (ss.map RV.str)) (.ref a)
theorem rgt {x : Str} {ss : List Str} (h : TupC X.K X.mg x ss) (hg : Gl X x := by rfl) (hd : (x == ("__debug__" : Str)) = false := by decide) : RPE X (.Name x pos) (rC (.tup (ss.map RV.str))) := by
  obtain ⟨a, hm, hr⟩ := h
  exact rglob hm (v := .ref a) rfl hr hg hd
end
theorem tupc_mk {K : PySem.W.Frag} {mg : Str → Option Value} {x : Str} {a : Addr} {ss : List Str} {its : Array Value} {n : Nat} {d : Option Addr} {sl : Array (Option Value)} (hm : mg x = some (.ref a)) (l : K.lookup a = some ⟨.type "tuple", d, .seq its n, sl⟩) (hz : its.size ≤ sizeLine)
    (hv : Vals (ss.map V.str) its.toList) : TupC K mg x ss := by
  refine ⟨a, hm, fun H => ?_⟩
  simp only [Rep]
  refine ⟨a, ss.map V.str, rfl, .inr ⟨_, its, n, l, rfl, rfl, hz, hv⟩, ?_⟩
  clear hv
  induction ss with
  | nil => exact Reps.nil
  | cons s r ih => exact Reps.cons (by simp only [Rep]) ih
theorem law_in {K : PySem.W.Frag} {sp : RSp} {H : Hp} {a : Addr} {ns : List Int} (hO : Only H) (hS : SqL K H a (ns.map V.int)) (h : sp [.ls (ns.map RV.int)] (fun _ => none) (fun v _ => v = .bl true)) : upSp K sp [.ref a] H (fun v _ => v = .bl true) (fun _ _ _ => False) := by
  have hr : ∀ l : List Int, Reps K H (l.map RV.int) (l.map V.int) := fun l => by
    induction l with
    | nil => exact Reps.nil
    | cons s r ih => exact Reps.cons (by simp only [Rep]) ih
  have hf : Fz K H a (ns.map V.int) := by
    rcases hS with (e | ⟨o, e⟩) | e
    · rcases hO a with z | ⟨o, xs, z⟩
      · rw [e] at z; cases z
      · rw [e] at z; cases z
    · exact .inl ⟨o, e⟩
    · exact .inr e
  refine ⟨[.ls (ns.map RV.int)], fun _ => none, fun v _ => v = .bl true, Reps.cons (by simp only [Rep]; exact ⟨a, _, rfl, hf, hr ns⟩) Reps.nil, fun _ _ z => (by cases z), h, fun rv M' v H' q _ _ r => ?_⟩
  have q' : rv = .bl true := q
  subst q'
  simpa only [Rep] using r
end R
namespace R
open PySem PySem.Spec PyProof.Rows L2
structure NameOk (N : List Str) (sc : Scope) : Prop where
  nd : N.Nodup
  loc : ∀ x ∈ N, sc.names.lookup x = some .local ∨ sc.names.lookup x = some .cell
  dbg : ∀ x ∈ N, (x == ("__debug__" : Str)) = false ∧ (x == ("__classdict__" : Str)) = false
section
variable {X : Cx} {x : Str} {pos pos' : Pos}
theorem rvN (i : Nat) (S : NameOk X.N X.env.scope) (hN : X.N[i]? = some x := by rfl) : RPE X (.Name x pos) (rVar i) :=
  have m := List.mem_of_getElem? hN
  rv i hN ((S.loc x m).elim .inl fun z => .inr (.inl z)) (S.dbg x m).1 (S.dbg x m).2
theorem ssetN {e : Expr} {te : RTE} (i : Nat) (S : NameOk X.N X.env.scope) (he : RPE X e te) (hN : X.N[i]? = some x := by rfl) (hs : swapsWith e (some (.Name x pos')) pos.line X.env = pure false := by rfl) (hf : X.fn x = true := by rfl) :
    RPS X (.Assign [.Name x pos'] e pos) (rSet i te) := sset i he S.nd hN (S.loc x (List.mem_of_getElem? hN)) hs (.inl hf)
theorem gnameN (i : Nat) (S : NameOk X.N X.env.scope) (hN : X.N[i]? = some x := by rfl) (hf : X.fn x = true := by rfl) : RPG X (.Name x pos) (rgN i) := gname i S.nd hN (S.loc x (List.mem_of_getElem? hN)) (.inl hf)
theorem pgN (i : Nat) (S : NameOk X.N X.env.scope) (hN : X.N[i]? = some x := by rfl) (hf : X.fn x = true := by rfl) : PG X (.Name x pos) (gName i) := pg_name S.nd hN (S.loc x (List.mem_of_getElem? hN)) (.inl hf)
structure VisB (X : Cx) : Prop where
  vis : ∀ x ∈ X.N, Vis X.env.scope x
  dbg : ∀ x ∈ X.N, (x == ("__debug__" : Str)) = false ∧ (x == ("__classdict__" : Str)) = false
theorem rvB (i : Nat) (S : VisB X) (hN : X.N[i]? = some x := by rfl) : RPE X (.Name x pos) (rVar i) :=
  have m := List.mem_of_getElem? hN
  rv i hN (S.vis x m) (S.dbg x m).1 (S.dbg x m).2
theorem glB {scope : Scope} {cl : List (Str × Addr)} {C : Addr} {Nc : List Str} {s : Shared} {H : Hp} {fp : List Addr} (h : scope.names.lookup x = some .globalImplicit) : Gl (blk X scope cl C Nc s H fp) x := by
  show (scope.names.map (relF X.env)).lookup x = _
  rw [lookup_relF]
  rw [lookup_find] at h
  cases e : scope.names.find? fun p => x == p.1 with
  | none => rw [e] at h; cases h
  | some p =>
    rw [e] at h
    have h' : p.2 = .globalImplicit := Option.some.inj h
    show some (relF X.env p).2 = _
    rcases relF_snd X.env p with z | z
    · rw [z, h']
    · rw [h'] at z; cases z.2
theorem rcompN {elt iter : Expr} {px : Pos} {scope : Scope} {ti : RTI} {tt : RTT} {te : RTE} {ifs : List Expr} (caps : List (Nat × Str)) {osc : Scope} {oN : List Str}
    (hc : X.calm = true) (hi : RPI X (.Name x px) iter ti)
    (hif : ∀ cl C s H fp, VisB (blk X scope cl C (x :: caps.map Prod.snd) s H fp) → RPTs (blk X scope cl C (x :: caps.map Prod.snd) s H fp) ifs tt)
    (hel : ∀ cl C s H fp, VisB (blk X scope cl C (x :: caps.map Prod.snd) s H fp) → RPE (blk X scope cl C (x :: caps.map Prod.snd) s H fp) elt te)
    (hX : X.env.scope = osc) (hN : X.N = oN)
    (hcaps : ∀ p ∈ caps, oN[p.1]? = some p.2 ∧ scope.names.lookup p.2 = some .free ∧ (osc.names.lookup p.2 = some .cell ∨ osc.names.lookup p.2 = some .free))
    (hfr : ∀ y ∈ scope.names, y.2 = .free → (osc.names.lookup y.1 = some .cell ∨ osc.names.lookup y.1 = some .free))
    (hcell : ∀ y ∈ scope.names, y.2 ≠ .cell) (hkind : scope.kind = .function) (hnames : ∀ y ∈ scope.names, y.2 = .local → scope.names.lookup y.1 = some .local) (hx : scope.names.lookup x = some .local) (hnd : (x :: caps.map Prod.snd).Nodup)
    (hdb : ∀ y ∈ x :: caps.map Prod.snd, (y == ("__debug__" : Str)) = false ∧ (y == ("__classdict__" : Str)) = false)
    (hs : ∀ v, foldedSetIterable iter X.env v = pure v := by intro _; rfl) :
    RPE X (.ListComp elt [⟨.Name x px, iter, ifs, 0⟩] scope pos) (rComp ti (caps.map Prod.fst) tt te) := by
  have vb : ∀ cl C s H fp, VisB (blk X scope cl C (x :: caps.map Prod.snd) s H fp) := fun cl C s H fp => ⟨fun y hy => by
    rcases List.mem_cons.mp hy with rfl | hy
    · exact .inl (lookup_relabel_local hx)
    · obtain ⟨p, hp, rfl⟩ := List.mem_map.mp hy
      exact .inr (relabel_free (hcaps p hp).2.1), hdb⟩
  exact rcomp caps hc hi (fun cl C s H fp => hif cl C s H fp (vb cl C s H fp)) (fun cl C s H fp => hel cl C s H fp (vb cl C s H fp)) hX hN hcaps hfr hcell hkind hnames hx hnd hs
end
end R
namespace R
open PySem PySem.Spec PyProof.Rows L2
section
variable {σ : RSt} {M : RM} {Q : RVK} {QT : Bool → RM → Prop} {QA : List RV → RM → Prop} {QO : Option Int → RM → Prop} {n b c : RSt → RM → Prop} {r : RVK} {ta tb tc : RTE} {tA tB : RTT} {t u : RTS} {tr : RTA} {rr rr' : RR2} {N : RSt → RM → Prop}
def kTest (Q : Bool → RM → Prop) : RVK := fun v M' => match v with | .bl k => Q k M' | _ => False
def kIf (A B : RM → Prop) : Bool → RM → Prop := fun c M1 => (c = true → A M1) ∧ (c = false → B M1)
def kPart (Q : Option Int → RM → Prop) : RVK := fun x M1 => match x with | .int i => Q (some i) M1 | _ => False
def kAt (Q : RVK) (M : RM) : Option RV → Prop := fun o => match o with | some v => Q v M | none => False
def kItS (Q : List RV → RM → Prop) : RVK := fun v M1 => match v with | .tup xs => Q xs M1 | .ls xs => Q xs M1 | _ => False
def kCh (rr' : RR2) (tc : RTE) (σ : RSt) (y : RV) (Q : RVK) : RVK := fun z M3 => match z with
  | .bl k => (k = true → tc σ M3 fun w M4 => rr' y w M4 Q) ∧ (k = false → Q (.bl false) M3)
  | _ => False
theorem do_var {i : Nat} {v : RV} (e : σ[i]? = some (some v)) (h : Q v M) : rVar i σ M Q := by unfold rVar; rw [e]; exact h
theorem do_c {v : RV} (h : Q v M) : rC v σ M Q := h
theorem do_op (h : ta σ M fun x M1 => tb σ M1 fun y M2 => rr x y M2 Q) : rOp rr ta tb σ M Q := h
theorem do_un {g : RV → RM → RVK → Prop} (h : ta σ M fun x M1 => g x M1 Q) : rUn g ta σ M Q := h
theorem do_chain (h : ta σ M fun x M1 => tb σ M1 fun y M2 => rr x y M2 (kCh rr' tc σ y Q)) : rChain rr rr' ta tb tc σ M Q := h
theorem do_test (h : ta σ M (kTest QT)) : rTest ta σ M QT := h
theorem do_ktest {k : Bool} (h : QT k M) : kTest QT (.bl k) M := h
theorem do_and (h : tA σ M (kIf (fun M1 => tB σ M1 QT) (fun M1 => QT false M1))) : rAnd tA tB σ M QT := h
theorem do_or (h : tA σ M (kIf (fun M1 => QT true M1) (fun M1 => tB σ M1 QT))) : rOr tA tB σ M QT := h
theorem do_not (h : tA σ M fun c M1 => QT (!c) M1) : rNot tA σ M QT := h
theorem do_if (h : tA σ M (kIf (fun M1 => ta σ M1 Q) (fun M1 => tb σ M1 Q))) : rIf tA ta tb σ M Q := h
theorem do_ifs {D : RD} (h : tA σ M (kIf (fun M1 => t D σ M1) (fun M1 => u D σ M1))) : rIfS tA t u D σ M := h
theorem do_kT {A B : RM → Prop} (h : A M) : kIf A B true M := ⟨fun _ => h, fun z => (by cases z)⟩
theorem do_kF {A B : RM → Prop} (h : B M) : kIf A B false M := ⟨fun z => (by cases z), fun _ => h⟩
theorem do_kT' {A B : RM → Prop} {x : Bool} (e : x = true) (h : A M) : kIf A B x M := by subst e; exact do_kT h
theorem do_kF' {A B : RM → Prop} {x : Bool} (e : x = false) (h : B M) : kIf A B x M := by subst e; exact do_kF h
theorem do_kB {A B : RM → Prop} {x : Bool} (h1 : x = true → A M) (h2 : x = false → B M) : kIf A B x M := ⟨h1, h2⟩
theorem do_norm {P : RSt → RM → Prop} {l : RSt} {i : Nat} {v : Option RV} {σ' : RSt} (e : l.set i v = σ') (h : P σ' M) : P (l.set i v) M := by subst e; exact h
theorem do_normU {P : RSt → RM → Prop} {l : RSt} {is : List Nat} {vs : List RV} {σ' : RSt} (e : setAll l is vs = σ') (h : P σ' M) : P (setAll l is vs) M := by subst e; exact h
theorem do_knT {A B : RM → Prop} (h : B M) : kIf A B (!true) M := do_kF h
theorem do_knF {A B : RM → Prop} (h : A M) : kIf A B (!false) M := do_kT h
theorem do_nil (h : QA [] M) : rNil σ M QA := h
theorem do_cons (h : ta σ M fun x M1 => tr σ M1 fun xs M2 => QA (x :: xs) M2) : rCons ta tr σ M QA := h
theorem do_tup (h : tr σ M fun rs M1 => rs.length ≤ sizeLine ∧ Q (.tup rs) M1) : rTup tr σ M Q := h
theorem do_lsf (h : tr σ M fun rs M1 => rs.length ≤ sizeLine ∧ Q (.ls rs) M1) : rLsF tr σ M Q := h
theorem do_lst (h : tr σ M fun rs M1 => rs.length ≤ sizeLine ∧ ∀ p, M1 p = none → Q (.ref p) (put M1 p (.lst rs))) : rLst tr σ M Q := h
theorem do_size {rs : List RV} {P : Prop} (e : Nat.ble rs.length 1000 = true) (h : P) : rs.length ≤ sizeLine ∧ P := ⟨Nat.le_trans (Nat.le_of_ble_eq_true e) (by decide), h⟩
theorem do_call {f : List RV → RM → RVK → Prop} (h : tr σ M fun rs M1 => f rs M1 Q) : rCall f tr σ M Q := h
theorem do_next : n σ M → rNext ⟨n, r, b, c⟩ σ M := fun h => h
theorem do_seq (h : t ⟨u ⟨n, r, b, c⟩, r, b, c⟩ σ M) : rSeq t u ⟨n, r, b, c⟩ σ M := h
theorem do_set {i : Nat} (h : ta σ M fun x M1 => n (σ.set i (some x)) M1) : rSet i ta ⟨n, r, b, c⟩ σ M := h
theorem do_ret (h : ta σ M r) : rRet ta ⟨n, r, b, c⟩ σ M := h
theorem do_drop (h : ta σ M fun _ M1 => n σ M1) : rDrop ta ⟨n, r, b, c⟩ σ M := h
theorem do_asg {g : RTG} (h : ta σ M fun x M1 => g x σ M1 n) : rAsg ta g ⟨n, r, b, c⟩ σ M := h
theorem do_gN {i : Nat} {x : RV} (h : N (σ.set i (some x)) M) : rgN i x σ M N := h
theorem do_gU {is : List Nat} {xs : List RV} (e : xs.length = is.length) (h : N (setAll σ is xs) M) : rgU is (.tup xs) σ M N := ⟨e, h⟩
theorem do_forI {ti : RTI} {g : RTG} (h : ti σ M fun xs M1 => rForL g t ⟨n, r, b, c⟩ xs σ M1) : rForI ti g t ⟨n, r, b, c⟩ σ M := h
theorem do_itS (h : ta σ M (kItS QA)) : rItS ta σ M QA := h
theorem do_kits_t {xs : List RV} (h : QA xs M) : kItS QA (.tup xs) M := h
theorem do_kits_l {xs : List RV} (h : QA xs M) : kItS QA (.ls xs) M := h
theorem do_itR (h : ta σ M fun v M1 => rRngI QA [v] M1) : rItR ta σ M QA := h
theorem do_rng {k : Int} (h0 : -(2 ^ 62) ≤ k) (h1 : k < 2 ^ 62) (h : QA (nums k.toNat) M) : rRngI QA [.int k] M := ⟨h0, h1, h⟩
theorem do_forNil {g : RTG} (h : n σ M) : rForL g t ⟨n, r, b, c⟩ [] σ M := h
theorem do_forCons {g : RTG} {x : RV} {xs : List RV} (h : g x σ M fun σ2 M2 => t ⟨rForL g t ⟨n, r, b, c⟩ xs, r, n, rForL g t ⟨n, r, b, c⟩ xs⟩ σ2 M2) : rForL g t ⟨n, r, b, c⟩ (x :: xs) σ M := h
theorem do_comp {ti : RTI} {cap : List Nat} (h : ti σ M fun xs M1 => xs.length < sizeLine ∧ rCompL tA ta (cap.map fun i => (σ[i]?).join) xs [] M1 Q) : rComp ti cap tA ta σ M Q := h
theorem do_compNil {base : List (Option RV)} {acc : List RV} (h : Q (.ls acc) M) : rCompL tA ta base [] acc M Q := h
theorem do_compYes {base : List (Option RV)} {acc : List RV} {x : RV} {xs : List RV} (h : ta (some x :: base) M fun v M2 => rCompL rYes ta base xs (acc ++ [v]) M2 Q) : rCompL rYes ta base (x :: xs) acc M Q := ⟨fun _ => h, fun z => (by cases z)⟩
theorem do_compT {base : List (Option RV)} {acc : List RV} {x : RV} {xs : List RV} (h : tA (some x :: base) M (kIf (fun M1 => ta (some x :: base) M1 fun v M2 => rCompL tA ta base xs (acc ++ [v]) M2 Q) (fun M1 => rCompL tA ta base xs acc M1 Q))) : rCompL tA ta base (x :: xs) acc M Q := h
theorem do_sl {tl th : RTO} (h : ta σ M fun x M1 => tl σ M1 fun l M2 => th σ M2 fun u M3 => rSlc x l u M3 Q) : rSl ta tl th σ M Q := h
theorem do_noP (h : QO none M) : rNoP σ M QO := h
theorem do_part (h : ta σ M (kPart QO)) : rPart ta σ M QO := h
theorem do_kpart {i : Int} (h : QO (some i) M) : kPart QO (.int i) M := h
theorem do_slT {xs : List RV} {lo hi : Option Int} (h : Q (.tup (cutR xs lo hi)) M) : rSlc (.tup xs) lo hi M Q := h
theorem do_slL {xs : List RV} {lo hi : Option Int} (h : Q (.ls (cutR xs lo hi)) M) : rSlc (.ls xs) lo hi M Q := h
theorem do_int0 {g : Int → Int → RV} {i j : Int} (h : Q (g i j) M) : rInt0 g (.int i) (.int j) M Q := h
theorem do_int2 {C : Int → Int → Prop} {g : Int → Int → RV} {i j : Int} (e : C i j) (h : Q (g i j) M) : rInt2 C g (.int i) (.int j) M Q := ⟨e, h⟩
theorem do_addI {i j : Int} (h : Q (.int (i + j)) M) : R.rAdd (.int i) (.int j) M Q := h
theorem do_addT {xs ys : List RV} (e : Nat.ble (xs.length + ys.length) 1000 = true) (h : Q (.tup (xs ++ ys)) M) : R.rAdd (.tup xs) (.tup ys) M Q := ⟨Nat.le_trans (Nat.le_of_ble_eq_true e) (by decide), h⟩
theorem do_addL {xs ys : List RV} (e : Nat.ble (xs.length + ys.length) 1000 = true) (h : Q (.ls (xs ++ ys)) M) : R.rAdd (.ls xs) (.ls ys) M Q := ⟨Nat.le_trans (Nat.le_of_ble_eq_true e) (by decide), h⟩
theorem do_eq {x y : RV} (e1 : okR 16 x = true) (e2 : okR 16 y = true) (h : Q (.bl (eqR x y)) M) : rEqq x y M Q := ⟨e1, e2, h⟩
theorem do_ne {x y : RV} (e1 : okR 16 x = true) (e2 : okR 16 y = true) (h : Q (.bl (!eqR x y)) M) : rNeq x y M Q := ⟨e1, e2, h⟩
theorem do_ixT {xs : List RV} {i : Int} (h : kAt Q M (atI xs i)) : R.rIx (.tup xs) (.int i) M Q := h
theorem do_ixL {xs : List RV} {i : Int} (h : kAt Q M (atI xs i)) : R.rIx (.ls xs) (.int i) M Q := h
theorem do_kat {o : Option RV} {v : RV} (e : o = some v) (h : Q v M) : kAt Q M o := by subst e; exact h
theorem do_len_t {xs : List RV} (h : Q (.int xs.length) M) : rLen [.tup xs] M Q := h
theorem do_len_l {xs : List RV} (h : Q (.int xs.length) M) : rLen [.ls xs] M Q := h
theorem do_tuple_l {xs : List RV} (h : Q (.tup xs) M) : rTuple [.ls xs] M Q := h
theorem do_isi {T : String} {test : RV → Option Bool} {x : RV} {b : Bool} (e : test x = some b) (h : Q (.bl b) M) : rIsi T test [x, .ty T] M Q := by
  refine ⟨rfl, ?_⟩; rw [e]; exact h
end
end R
namespace R
open PySem PySem.Spec PyProof.Rows L2
theorem any_den {h : Heap} {e : Value → Bool} {p : RV → Bool} : ∀ {xs : List RV} {us : List Value}, Dens h xs us → (∀ x ∈ xs, ∀ u, Den h x u → e u = p x) → us.any e = xs.any p
  | [], us, d, _ => by simp only [Dens] at d; subst d; rfl
  | x :: xs, us, d, k => by
    simp only [Dens] at d
    obtain ⟨u, r, rfl, d1, d2⟩ := d
    rw [List.any_cons, List.any_cons, k x List.mem_cons_self u d1, any_den d2 fun y hy => k y (List.mem_cons_of_mem _ hy)]
theorem mem_den {h : Heap} : ∀ {xs : List RV} {us : List Value}, Dens h xs us → ∀ u ∈ us, ∃ x ∈ xs, Den h x u
  | [], us, d, u, hu => by simp only [Dens] at d; subst d; cases hu
  | x :: xs, us, d, u, hu => by
    simp only [Dens] at d
    obtain ⟨w, r, rfl, d1, d2⟩ := d
    rcases List.mem_cons.mp hu with rfl | hu
    · exact ⟨x, List.mem_cons_self, d1⟩
    · obtain ⟨y, hy, dy⟩ := mem_den d2 u hu
      exact ⟨y, List.mem_cons_of_mem _ hy, dy⟩
open Classical in
noncomputable def eqD (h : Heap) (a : RV) (w : Value) : Bool := if q : ∃ r, okR 15 r = true ∧ Den h r w then eqR (choose q) a else false
theorem eqD_of {h : Heap} {a x : RV} {u : Value} (o : okR 15 x = true) (d : Den h x u) : eqD h a u = eqR x a := by
  have q : ∃ r, okR 15 r = true ∧ Den h r u := ⟨x, o, d⟩
  unfold eqD
  rw [dif_pos q]
  have e := den_inj 15 _ x u (Classical.choose_spec q).1 o (Classical.choose_spec q).2 d
  rw [e]
def inR (x : RV) (xs : List RV) : Bool := xs.any fun y => eqR y x
def rIn2 (neg : Bool) : RR2 := fun x y M Q => match y with
  | .tup xs => okR 15 x = true ∧ xs.all (okR 15) = true ∧ Q (.bl (if neg then !inR x xs else inR x xs)) M
  | .ls xs => okR 15 x = true ∧ xs.all (okR 15) = true ∧ Q (.bl (if neg then !inR x xs else inR x xs)) M
  | _ => False
section
variable {X : Cx}
theorem den_items {s : Shared} {A : Around} {xs : List RV} {its : List Value} {a : RV} {v : Value} (hu : A.units + 15 < cLine) (os : xs.all (okR 15) = true) (oa : okR 15 a = true) (d : Dens s.heap xs its) (da : Den s.heap a v) :
    (∀ w, w ∈ its.toArray → SeqAt.EqAt A s w v (eqD s.heap a w)) ∧ its.toArray.any (eqD s.heap a) = inR a xs := by
  have os' : ∀ x ∈ xs, okR 15 x = true := by simpa [List.all_eq_true] using os
  refine ⟨fun w hw => ?_, ?_⟩
  · obtain ⟨x, hx, dx⟩ := mem_den d w (by simpa using hw)
    rw [eqD_of (os' x hx) dx]
    exact eqAt_den 15 x a A s w v (os' x hx) oa dx da hu
  · rw [show its.toArray.any (eqD s.heap a) = its.any (eqD s.heap a) by simp]
    exact any_den d fun x hx u du => eqD_of (os' x hx) du
theorem ok_up {xs : List RV} (os : xs.all (okR 15) = true) : okR 16 (.tup xs) = true ∧ okR 16 (.ls xs) = true := ⟨os, os⟩
theorem oin (hu : X.A.units + 64 < cLine) : ROp X (compareOp .In) (rIn2 false) := by
  intro pins s σ H x y v u Q0 I rx ry h
  obtain ⟨a, b, M, Q, ra, rb, hv, hq, hk⟩ := h
  cases b with
  | tup xs =>
    obtain ⟨oa, os, hq⟩ := hq
    have d := den_of I 16 (.tup xs) y u (ok_up os).1 rb ry
    simp only [Den] at d
    obtain ⟨p, its, rfl, ht, ds⟩ := d
    have z := den_items (A := X.A.in1) (by rw [in1_units]; omega) os oa ds (den_of I 15 a x v oa ra rx)
    refine SeqAt.in_tupleAt _ ht z.1 ⟨.bl (inR a xs), H, I, by rw [z.2]; rfl, hk _ M _ H hq (.refl H) hv (by simp only [Rep]; rfl)⟩
  | ls xs =>
    obtain ⟨oa, os, hq⟩ := hq
    have d := den_of I 16 (.ls xs) y u (ok_up os).2 rb ry
    simp only [Den] at d
    obtain ⟨p, its, rfl, ht, ds⟩ := d
    have z := den_items (A := X.A.in1) (by rw [in1_units]; omega) os oa ds (den_of I 15 a x v oa ra rx)
    refine SeqAt.in_listAt _ ht z.1 ⟨.bl (inR a xs), H, I, by rw [z.2]; rfl, hk _ M _ H hq (.refl H) hv (by simp only [Rep]; rfl)⟩
  | _ => exact (show False from hq).elim
theorem onotin (hu : X.A.units + 64 < cLine) : ROp X (compareOp .NotIn) (rIn2 true) := by
  intro pins s σ H x y v u Q0 I rx ry h
  obtain ⟨a, b, M, Q, ra, rb, hv, hq, hk⟩ := h
  cases b with
  | tup xs =>
    obtain ⟨oa, os, hq⟩ := hq
    have d := den_of I 16 (.tup xs) y u (ok_up os).1 rb ry
    simp only [Den] at d
    obtain ⟨p, its, rfl, ht, ds⟩ := d
    have z := den_items (A := X.A.in1) (by rw [in1_units]; omega) os oa ds (den_of I 15 a x v oa ra rx)
    refine SeqAt.notIn_tupleAt _ ht z.1 ⟨.bl (!inR a xs), H, I, by rw [z.2]; rfl, hk _ M _ H hq (.refl H) hv (by simp only [Rep]; rfl)⟩
  | ls xs =>
    obtain ⟨oa, os, hq⟩ := hq
    have d := den_of I 16 (.ls xs) y u (ok_up os).2 rb ry
    simp only [Den] at d
    obtain ⟨p, its, rfl, ht, ds⟩ := d
    have z := den_items (A := X.A.in1) (by rw [in1_units]; omega) os oa ds (den_of I 15 a x v oa ra rx)
    refine SeqAt.notIn_listAt _ ht z.1 ⟨.bl (!inR a xs), H, I, by rw [z.2]; rfl, hk _ M _ H hq (.refl H) hv (by simp only [Rep]; rfl)⟩
  | _ => exact (show False from hq).elim
end
end R
namespace R
open PySem PySem.Spec PyProof.Rows L2
section
variable {X : Cx}
def rAll : List RV → RM → RVK → Prop := fun rs M Q => ∃ bs : List Bool, rs = [.ls (bs.map RV.bl)] ∧ Q (.bl (bs.all id)) M
theorem reps_bl {K : PySem.W.Frag} {H : Hp} : ∀ {bs : List Bool} {vs : List V}, Reps K H (bs.map RV.bl) vs → vs = bs.map V.bl
  | [], vs, h => by simpa only [List.map_nil, Reps] using h
  | b :: bs, vs, h => by
    simp only [List.map_cons, Reps, Rep] at h
    obtain ⟨v, r, rfl, rfl, h2⟩ := h
    rw [reps_bl h2]; rfl
theorem vals_bl : ∀ {bs : List Bool} {us : List Value}, Vals (bs.map V.bl) us → us = bs.map Value.bool
  | [], us, h => by cases h; rfl
  | b :: bs, us, h => by
    obtain ⟨u, r, rfl, h1, h2⟩ := Vals.cons_inv h
    cases h1
    rw [vals_bl h2]; rfl
theorem range_all (bs : List Bool) : (List.range bs.length).all (fun i => bs.getD i true) = bs.all id := by
  induction bs with
  | nil => rfl
  | cons b bs ih =>
    rw [List.length_cons, List.range_succ_eq_map, List.all_cons, List.all_map, List.all_cons]
    have : ((fun i => (b :: bs).getD i true) ∘ Nat.succ) = fun i => bs.getD i true := by funext i; rfl
    rw [this, ih]; rfl
theorem call_all (hc : X.calm = true) : CallR X (.builtin "all") (upC X.K rAll) := by
  intro pins s σ H xs us Q0 I rl h
  obtain ⟨rs, M, Q, rr, hv, ⟨bs, rfl, hq⟩, hk⟩ := h
  obtain ⟨v, rfl, r1⟩ := rr.one
  simp only [Rep] at r1
  obtain ⟨a, vs, rfl, h1, h2⟩ := r1
  have := reps_bl h2
  subst this
  obtain ⟨u, rfl, ru⟩ := rl.one
  cases ru
  obtain ⟨its, rv, p, hz⟩ := I.list h1.sq
  have := vals_bl rv
  subst this
  have hlt : a < s.heap.objs.size := by obtain ⟨o, n, e, _⟩ := p; exact Heap.lt_size e
  refine call_all_walk (wpAny_pyIter_list p.isList ?_)
  have hd : X.A.in1.handled = none := I.ok.hd hc
  refine ⟨s.heap.objs.size, _, _, _, _, _, fun i => bs.getD i true, rfl, Walks.list hd s.heap.objs.size a (Nat.ne_of_lt hlt) (bs.map Value.bool).toArray, ⟨⟨_, Heap.get?_push_size _ rfl, rfl, rfl⟩, p.isList.push _⟩, ?_, ?_⟩
  · intro i v s' Q' E' hP hQ'
    have hP' : (bs.map Value.bool)[i]? = some v := by simpa using hP
    rw [List.getElem?_map] at hP'
    cases e : bs[i]? with
    | none => rw [e] at hP'; cases hP'
    | some b =>
      rw [e] at hP'
      have hb : bs.getD i true = b := by rw [List.getD_eq_getElem?_getD, e]; rfl
      cases hP'
      have hQ2 : Q' (bs.getD i true) s' := hQ'
      rw [hb] at hQ2
      exact wpAny_truthy_bool hQ2
  · intro h' tk hk'
    have I1 : Inv X pins σ H { s with heap := s.heap.push { cls := .type "list_iterator", data := .fields #[.ref a, .int 0 0] } } := I.kept (t' := s.toks) fun b o e => Heap.get?_push_of_some _ e
    obtain ⟨f0, f1, f2, f3, f4, f5⟩ := I.fpOk (Nat.le_refl _) (I.hok.fresh (Nat.le_refl _))
    have I2 : Inv X pins σ H { s with heap := h', toks := tk } := by
      have z := I1.turned (h' := h') (t' := tk) (it := s.heap.objs.size) (fun b o hb e => hk' b o (by simpa using hb) e) f0 f1 f3 f4 f5
      exact z
    refine ⟨.bl (bs.all id), H, I2, ?_, hk _ M _ H hq (.refl H) hv (by simp only [Rep])⟩
    show _ = _
    rw [← range_all]
    simp
end
end R
namespace R
open PySem PySem.Spec PyProof.Rows L2
section
variable {X : Cx}
def rApp (to : RTE) (t : RTA) : RTE := fun σ M Q => to σ M fun x M1 => match x with
  | .ref p => (∃ ys, M1 p = some (.lst ys)) ∧ t σ M1 fun rs M2 => ∃ ys y, rs = [y] ∧ M2 p = some (.lst ys) ∧ ys.length < sizeLine ∧ Q .non (put M2 p (.lst (ys ++ [y])))
  | _ => False
theorem rappend {o e : Expr} {to : RTE} {t : RTA} {apos cpos : Pos} (ho : RPE X o to) (ha : RPA X [e] t)
    (hbase : attributeBase o "append" X.env (eval o X.env) = eval o X.env := by rfl)
    (hfew : ((backTo cpos (starEach [e] X.env)).all (fun x => !x.1) && (backToKw cpos (keywordEach [] X.env)).all (fun x => x.1.isSome) && decide ([e].length + ([] : List Keyword).length + (if ([] : List Keyword).isEmpty then 0 else 1) < 30)) = true := by rfl)
    (hline : (apos.endLine == cpos.line) = true := by rfl) (hs : starEach [e] X.env = (false, eval e X.env) :: starEach [] X.env := by rfl) (hplain : (backTo cpos (starEach [] X.env)).any (·.1) = false := by rfl) :
    RPE X (.Call (.Attribute o "append" apos) [e] [] cpos) (rApp to t) := PE.imp (pe_bm PySem.F.plainAttrs_list PySem.F.slot_list_append PySem.F.type_list_append mt_append ho ha hbase hfew hline hs hplain) fun σ0 H Q0 h => by
  obtain ⟨σ, M, Q, hs, hv, ht, hk⟩ := h
  refine ⟨σ, M, _, hs, hv, ht, fun rx M1 x H1 q e1 v1 r1 => ?_⟩
  cases rx with
  | ref p =>
    obtain ⟨⟨ys, hm⟩, q⟩ := q
    simp only [Rep] at r1
    subst r1
    obtain ⟨ho', e0, r0⟩ := v1 p _ hm
    obtain ⟨vs0, rfl, rr0⟩ := r0
    refine ⟨.inl ⟨rfl, _, SqL.of e0⟩, σ, M1, _, hs.ext e1, v1, q, fun rs M2 vs H2 q2 e2 v2 r2 => ?_⟩
    obtain ⟨ys2, y, rfl, hm2, hz, q2⟩ := q2
    obtain ⟨v, rfl, r3⟩ := r2.one
    obtain ⟨ho2, e3, r4⟩ := v2 p _ hm2
    obtain ⟨vs2, rfl, rr2⟩ := r4
    have ex : Ext H2 (upd H2 p (.lst (vs2 ++ [v]))) := Ext.write e3 rfl
    refine ⟨p, vs2, v, rfl, rfl, e3, by rw [← rr2.length]; exact hz, hk _ _ _ _ q2 ((e1.trans e2).trans ex) (v2.write hm2 ⟨_, rfl, ?_⟩) (by simp only [Rep])⟩
    exact (Reps.ext ex _ _ rr2).append (Reps.cons (Rep.ext ex _ _ r3) Reps.nil)
  | _ => exact (show False from q).elim
def rList : List RV → RM → RVK → Prop := fun rs M Q => match rs with
  | [.tup xs] => Q (.ls xs) M
  | [.ls xs] => Q (.ls xs) M
  | _ => False
theorem clist : CallR X (.type "list") (upC X.K rList) := by
  intro pins s σ H xs us Q0 I rl h
  obtain ⟨rs, M, Q, rr, hv, hq, hk⟩ := h
  have key : ∀ (p : Addr) (vs : List V) (ys : List RV), xs = [.ref p] → (SqL X.K H p vs ∨ SqT X.K H p vs) → Reps X.K H ys vs → Q (.ls ys) M → wpAny (model X.prog X.w) X.A (call (.type "list") us) (EP X pins σ Q0) X.xe s := by
    intro p vs ys e hp hr hq
    subst e
    refine thn (call_list_of pins s σ H _ us (fun v H' => ∃ H1 p xs, v = .ref p ∧ H1 p = none ∧ H' = upd H1 p (.lst xs) ∧ ∀ o, Q0 (.ref p) (upd H1 p (.frz o (.lst xs)))) I rl ⟨p, vs, rfl, hp, fun l hl => ⟨H, l, vs, rfl, hl, rfl, fun o => ?_⟩⟩) fun _ _ e => frozen e
    exact hk _ M _ _ hq (Ext.new hl) (hv.new hl) (rep_ls hl hr)
  unfold rList at hq
  split at hq
  · obtain ⟨v, rfl, r1⟩ := rr.one
    simp only [Rep] at r1
    obtain ⟨q, vs, rfl, hp, hr⟩ := r1
    exact key q vs _ rfl (.inr hp) hr hq
  · obtain ⟨v, rfl, r1⟩ := rr.one
    simp only [Rep] at r1
    obtain ⟨q, vs, rfl, hp, hr⟩ := r1
    exact key q vs _ rfl (.inl hp.sq) hr hq
  · exact hq.elim
def repS (x : Str) (n : Nat) : Str := ⟨(List.replicate n x.cps).foldl (· ++ ·) #[]⟩
def rMulS : RR2 := fun x y M Q => match x, y with
  | .str z, .int k => 2 ≤ k ∧ k ≤ 1000 ∧ z.length = 1 ∧ Q (.str (repS z k.toNat)) M
  | _, _ => False
theorem size_rep {α : Type} (a : Array α) : ∀ (n : Nat) (acc : Array α), ((List.replicate n a).foldl (· ++ ·) acc).size = acc.size + n * a.size
  | 0, acc => by simp
  | n + 1, acc => by
    rw [List.replicate_succ, List.foldl_cons, size_rep a n, Array.size_append, Nat.succ_mul]
    omega
theorem omulS : ROp X (binaryOp .Mult) rMulS := by
  intro pins s σ H x y v u Q0 I rx ry h
  obtain ⟨a, b, M, Q, ra, rb, hv, hq, hk⟩ := h
  cases a with
  | str z => cases b with
    | int k =>
      simp only [Rep] at ra rb
      subst ra; subst rb
      obtain ⟨t, rfl⟩ := rx
      obtain ⟨t', rfl⟩ := ry
      obtain ⟨h1, h2, h3, hq⟩ := hq
      have hn : ¬ k < 1 := by omega
      have hn1 : (k == 1 || z.length == 0) = false := by
        rw [h3]
        have : (k == 1) = false := by simp; omega
        rw [this]; rfl
      refine PySem.P.mul_str ?_ ?_ ?_ ?_
      · rw [decide_eq_false (by omega), decide_eq_false (by omega)]; rfl
      · intro _ _ hgt
        rw [h3] at hgt
        have h5 : (2 ^ 63 - 1) / k ≥ 1 := by
          have : (1 : Int) * k ≤ 2 ^ 63 - 1 := by omega
          exact Int.le_ediv_of_mul_le (by omega) this
        have h6 : ((1 : Nat) : Int) = 1 := rfl
        omega
      · intro _ _
        rw [h3]
        unfold Builtin.Str.tooLong
        exact decide_eq_false (by have : (1000 : Nat) ≤ sizeLine := by decide
                                  omega)
      · rw [if_neg hn, hn1]
        simp only [Bool.false_eq_true, if_false]
        refine ⟨?_, ⟨.str (repS z k.toNat), H, I.tok _, ⟨_, rfl⟩, hk _ M _ H hq (.refl H) hv (by simp only [Rep])⟩⟩
        show Array.size (List.foldl _ _ _) ≤ sizeLine
        rw [size_rep]
        have : z.cps.size = 1 := h3
        rw [this]
        have h7 : (1000 : Nat) ≤ sizeLine := by decide
        simp only [Array.size_empty]
        omega
    | _ => exact (show False from hq).elim
  | _ => cases b <;> exact (show False from hq).elim
end
theorem RFn.at {P : Program} {w : World} {K : PySem.W.Frag} {mg : Str → Option Value} {base : Heap} {k : Nat} {x : Str} {ps : List Str} {sp : RSp} {f : Addr} (F : RFn P w K mg base k x ps sp) (hm : mg x = some (.ref f)) :
    ∃ fd, PySem.W.keepIn K (.ref f) = true ∧ Binds K fd ps [] ∧ FnOk P w K mg base CX0 k f fd ps (upSp K sp) := by
  obtain ⟨g, fd, hg, h1, h2, h3⟩ := F.ex
  have e := hm.symm.trans hg
  cases e
  exact ⟨fd, h1, h2, h3⟩
end R
namespace R
open PySem PySem.Spec PyProof.Rows L2
section
variable {σ : RSt} {M : RM} {Q : RVK} {QA : List RV → RM → Prop} {ta tb : RTE} {tr : RTA}
def kAndV (tb : RTE) (σ : RSt) (Q : RVK) : RVK := fun x M1 => match x with | .bl c => (c = true → tb σ M1 Q) ∧ (c = false → Q (.bl false) M1) | _ => False
def kNotV (Q : RVK) : RVK := fun x M1 => match x with | .bl c => Q (.bl (!c)) M1 | _ => False
theorem do_andv (h : ta σ M (kAndV tb σ Q)) : rAndV ta tb σ M Q := h
theorem do_notv (h : ta σ M (kNotV Q)) : rNotV ta σ M Q := h
theorem do_knotv {c : Bool} (h : Q (.bl (!c)) M) : kNotV Q (.bl c) M := h
theorem do_kand {c : Bool} (h1 : c = true → tb σ M Q) (h2 : c = false → Q (.bl false) M) : kAndV tb σ Q (.bl c) M := ⟨h1, h2⟩
theorem do_kandT (h : tb σ M Q) : kAndV tb σ Q (.bl true) M := ⟨fun _ => h, fun z => (by cases z)⟩
theorem do_kandF (h : Q (.bl false) M) : kAndV tb σ Q (.bl false) M := ⟨fun z => (by cases z), fun _ => h⟩
theorem do_kch {rr' : RR2} {tc : RTE} {y : RV} {k : Bool} (h1 : k = true → tc σ M fun w M4 => rr' y w M4 Q) (h2 : k = false → Q (.bl false) M) : kCh rr' tc σ y Q (.bl k) M := ⟨h1, h2⟩
theorem do_inL {x : RV} {xs : List RV} (e1 : okR 15 x = true) (e2 : xs.all (okR 15) = true) (h : Q (.bl (inR x xs)) M) : rIn2 false x (.ls xs) M Q := ⟨e1, e2, h⟩
theorem do_ninT {x : RV} {xs : List RV} (e1 : okR 15 x = true) (e2 : xs.all (okR 15) = true) (h : Q (.bl (!inR x xs)) M) : rIn2 true x (.tup xs) M Q := ⟨e1, e2, h⟩
theorem do_all (bs : List Bool) (h : Q (.bl (bs.all id)) M) : rAll [.ls (bs.map RV.bl)] M Q := ⟨bs, rfl, h⟩
theorem do_list_t {xs : List RV} (h : Q (.ls xs) M) : rList [.tup xs] M Q := h
theorem do_neg {i : Int} (h : Q (.int (-i)) M) : rgNeg (.int i) M Q := h
theorem do_start {P : RSt → RM → Prop} {τ τ' : RSt} (e : τ = τ') (h : P τ' M) : P τ M := by subst e; exact h
theorem do_mulS {z : Str} {k : Int} (e1 : 2 ≤ k) (e2 : k ≤ 1000) (e3 : z.length = 1) (h : Q (.str (repS z k.toNat)) M) : rMulS (.str z) (.int k) M Q := ⟨e1, e2, e3, h⟩
theorem do_addT' {xs ys : List RV} (e : xs.length + ys.length ≤ sizeLine) (h : Q (.tup (xs ++ ys)) M) : R.rAdd (.tup xs) (.tup ys) M Q := ⟨e, h⟩
def kApp (t : RTA) (σ : RSt) (Q : RVK) : RVK := fun x M1 => match x with
  | .ref p => (∃ ys, M1 p = some (.lst ys)) ∧ t σ M1 fun rs M2 => ∃ ys y, rs = [y] ∧ M2 p = some (.lst ys) ∧ ys.length < sizeLine ∧ Q .non (put M2 p (.lst (ys ++ [y])))
  | _ => False
theorem do_append (h : ta σ M (kApp tr σ Q)) : rApp ta tr σ M Q := h
theorem do_kapp {p : Addr} {ys : List RV} (e : M p = some (.lst ys)) (h : tr σ M fun rs M2 => ∃ ys y, rs = [y] ∧ M2 p = some (.lst ys) ∧ ys.length < sizeLine ∧ Q .non (put M2 p (.lst (ys ++ [y])))) : kApp tr σ Q (.ref p) M := ⟨⟨ys, e⟩, h⟩
theorem forL_ix {g : RTG} {tb : RTS} {n b c : RSt → RM → Prop} {r : RVK} (J : Nat → RSt → RM → Prop) (p : RV → Prop) (L : Nat) (hs : ∀ i x σ M (N : RSt → RM → Prop), i < L → p x → J i σ M → (∀ σ' M', J (i + 1) σ' M' → N σ' M') → g x σ M fun σ2 M2 => tb ⟨N, r, n, N⟩ σ2 M2)
    (hd : ∀ σ M, J L σ M → n σ M) : ∀ (xs : List RV) (i : Nat), (∀ x ∈ xs, p x) → i + xs.length = L → ∀ σ M, J i σ M → rForL g tb ⟨n, r, b, c⟩ xs σ M
  | [], i, _, hl, σ, M, j => hd σ M (by have : i = L := by simpa using hl
                                        subst this; exact j)
  | x :: xs, i, hp, hl, σ, M, j => by
    have hl' : i + 1 + xs.length = L := by rw [List.length_cons] at hl; omega
    exact do_forCons (hs i x σ M _ (by omega) (hp x List.mem_cons_self) j fun σ' M' j' => forL_ix J p L hs hd xs (i + 1) (fun y hy => hp y (List.mem_cons_of_mem _ hy)) hl' σ' M' j')
theorem comp_map {te : RTE} {base : List (Option RV)} {f : RV → RV} : ∀ (xs acc : List RV), (∀ x ∈ xs, ∀ Q' : RVK, Q' (f x) M → te (some x :: base) M Q') → Q (.ls (acc ++ xs.map f)) M → rCompL rYes te base xs acc M Q
  | [], acc, _, h => do_compNil (by simpa using h)
  | x :: xs, acc, hs, h => do_compYes (hs x List.mem_cons_self _ (comp_map xs (acc ++ [f x]) (fun y hy => hs y (List.mem_cons_of_mem _ hy)) (by simpa using h)))
theorem comp_filter {tt : RTT} {te : RTE} {base : List (Option RV)} {p : RV → Bool} {f : RV → RV} : ∀ (xs acc : List RV), (∀ x ∈ xs, ∀ Q' : Bool → RM → Prop, Q' (p x) M → tt (some x :: base) M Q') → (∀ x ∈ xs, ∀ Q' : RVK, Q' (f x) M → te (some x :: base) M Q') →
    Q (.ls (acc ++ (xs.filter p).map f)) M → rCompL tt te base xs acc M Q
  | [], acc, _, _, h => do_compNil (by simpa using h)
  | x :: xs, acc, ht, hs, h => by
    refine do_compT (ht x List.mem_cons_self _ ?_)
    have ih := fun acc' h' => comp_filter xs acc' (fun y hy => ht y (List.mem_cons_of_mem _ hy)) (fun y hy => hs y (List.mem_cons_of_mem _ hy)) h'
    refine do_kB (fun e => hs x List.mem_cons_self _ (ih _ ?_)) fun e => ih _ ?_
    · simpa [List.filter_cons, e] using h
    · simpa [List.filter_cons, e] using h
end
end R
namespace R
open PySem PySem.Spec PyProof.Rows L2
def putFR (f : Str) (v : RV) : List (Str × RV) → List (Str × RV)
  | [] => [(f, v)]
  | (g, x) :: r => if g = f then (g, v) :: r else (g, x) :: putFR f v r
theorem repP_putF {K : PySem.W.Frag} {H : Hp} {f : Str} {v : RV} {u : V} (hv : Rep K H v u) : ∀ {fs : List (Str × RV)} {gs : List (Str × V)}, RepP K H fs gs → RepP K H (putFR f v fs) (putF f u gs)
  | [], gs, h => by have h' : gs = [] := h; subst h'; exact ⟨u, [], rfl, hv, rfl⟩
  | (g, x) :: r, gs, h => by
    obtain ⟨w, t, rfl, h1, h2⟩ := h
    unfold putFR putF
    by_cases e : g = f
    · rw [if_pos e, if_pos e]; exact ⟨u, t, rfl, hv, h2⟩
    · rw [if_neg e, if_neg e]; exact ⟨w, _, rfl, h1, repP_putF hv h2⟩
theorem repP_len {κ : Type} {K : PySem.W.Frag} {H : Hp} : ∀ {fs : List (κ × RV)} {gs : List (κ × V)}, RepP K H fs gs → fs.length = gs.length
  | [], gs, h => by have h' : gs = [] := h; subst h'; rfl
  | (g, x) :: r, gs, h => by
    obtain ⟨w, t, rfl, h1, h2⟩ := h
    rw [List.length_cons, List.length_cons, repP_len h2]
section
variable {X : Cx} {o e value : Expr} {f : Str} {pos pos' : Pos} {ta tv : RTE} {C : Addr}
def rSFld (C : Addr) (f : Str) (ta tv : RTE) : RTS := fun D σ M => tv σ M fun y M1 => ta σ M1 fun x M2 => match x with
  | .ref a => ∃ fs, M2 a = some (.ins C fs) ∧ fs.length < 1000 ∧ D.nx σ (put M2 a (.ins C (putFR f y fs)))
  | _ => False
theorem sfld (hc : Cls X.K C) (hn : NoAttr X.K C f) (ha : RPE X o ta) (hv : RPE X value tv) (hs : swapsWith value (some (.Attribute o f pos')) pos.line X.env = pure false := by rfl) : RPS X (.Assign [.Attribute o f pos'] value pos) (rSFld C f ta tv) := PS.imp (ps_fld ha hv hs) fun D0 σ0 H h => by
  obtain ⟨σ, M, D, hs, hv, ht, hd⟩ := h
  refine ⟨σ, M, _, hs, hv, ht, fun ry M1 y H1 q e1 v1 r1 => ⟨σ, M1, _, hs.ext e1, v1, q, fun rx M2 x H2 q2 e2 v2 r2 => ?_⟩⟩
  cases rx with
  | ref a =>
    obtain ⟨fs, hm, hl, q2⟩ := q2
    simp only [Rep] at r2
    subst r2
    obtain ⟨ho, eo, dx, gs, rfl, hg⟩ := v2 a _ hm
    have ex : Ext H2 (upd H2 a (.ins C dx (putF f y gs))) := Ext.write eo rfl
    refine ⟨a, C, dx, gs, rfl, eo, hc, hn, by rw [← repP_len hg]; exact hl, hd.nx σ _ _ _ q2 ((e1.trans e2).trans ex) (v2.write hm ⟨dx, _, rfl, ?_⟩) (hs.ext ((e1.trans e2).trans ex))⟩
    exact repP_putF (Rep.ext (e2.trans ex) _ _ r1) (hg.ext ex)
  | _ => exact (show False from q2).elim
end
section
variable {K : PySem.W.Frag} {H : Hp} {k : Key} {v : RV} {u : V}
end
section
variable {X : Cx} {o i value : Expr} {pos pos' : Pos} {td ty tv : RTE}
def rDNew : RTE := fun _ M Q => ∀ p, M p = none → Q (.ref p) (put M p (.dk []))
theorem rdnew : RPE X (.Dict [] [] pos) rDNew := PE.imp pe_dnewK fun σ0 H Q0 h => by
  obtain ⟨σ, M, Q, hs, hv, ht, hk⟩ := h
  intro p hp
  exact hk _ _ _ _ (ht p (hv.free hp)) (Ext.new hp) (hv.newPut hp ⟨[], rfl, rfl⟩) (by simp only [Rep])
end
end R
namespace R
open PySem PySem.Spec PyProof.Rows L2
section
variable {X : Cx} {o i f : Expr} {pos : Pos} {td ty tx : RTE}
end
section
variable {X : Cx} {x m : Str} {p pos apos : Pos} {o e : Expr} {es : List Expr} {t : RTA} {ta : RTE} {k : Nat} {ps : List Str} {sp : RSp} {C g : Addr} {fd : FuncData}
def rMake (C : Addr) (sp : RSp) (t : RTA) : RTE := fun σ M Q => t σ M fun rs M1 => ∀ a, M1 a = none → sp (.ref a :: rs) (put M1 a (.ins C [])) (fun v M2 => v = .non ∧ Q (.ref a) M2)
theorem rmake {h0 : Nat} (Mk1 : Mk X.K C g) (F : FnOk X.prog X.w X.K X.mg X.base CX0 k g fd ps (upSp X.K sp)) (hr : Room (k + 1) X.A) (hm : X.mg x = some (.ref C)) (hb : Binds X.K fd ps []) (ha : RPA X (e :: es) t) (hg : Gl X x := by rfl) (hdb : (x == ("__debug__" : Str)) = false := by decide)
    (he : starEach (e :: es) X.env = (false, eval e X.env) :: starEach es X.env := by rfl) (hpl : (backTo pos (starEach es X.env)).any (·.1) = false := by rfl) : RPE X (.Call (.Name x p) (e :: es) [] pos) (rMake C sp t) := PE.imp (pe_make Mk1 F hr hg hm hb .nil pass0 ha hdb he hpl) fun σ0 H Q0 h => by
  obtain ⟨σ, M, Q, hs, hv, ht, hk⟩ := h
  refine ⟨σ, M, _, hs, hv, ht, fun rs M1 vs H1 q e1 v1 r1 a dx na nd ne => ?_⟩
  have ex1 : Ext H1 (upd H1 dx (.own a)) := Ext.new nd
  have na' : (upd H1 dx (.own a)) a = none := by rw [upd_ne (Ne.symm ne)]; exact na
  have ex2 : Ext H1 (upd (upd H1 dx (.own a)) a (.ins C dx [])) := ex1.trans (Ext.new na')
  refine ⟨.ref a :: rs, put M1 a (.ins C []), _, by rw [List.append_nil]; exact Reps.cons (by simp only [Rep]) (Reps.ext ex2 _ _ r1), (v1.new nd).newPut na' ⟨dx, [], rfl, rfl⟩, q a (v1.free na), fun rv M2 v H2 q2 e2 v2 r2 => ?_⟩
  obtain ⟨rfl, q2⟩ := q2
  simp only [Rep] at r2
  exact ⟨r2, hk _ M2 _ H2 q2 ((e1.trans ex2).trans e2) v2 (by simp only [Rep])⟩
end
section
variable {X : Cx} {o e f : Expr} {apos cpos : Pos} {td ty tx : RTE}
end
section
variable {X : Cx} {m : Str} {p pos apos : Pos} {o a b tg : Expr} {ta t1 t2 : RTE} {k : Nat} {ps : List Str} {sp : RSp} {C g : Addr} {fd : FuncData}
end
end R
namespace R
open PySem PySem.Spec PyProof.Rows L2
section
variable {X : Cx}
def spNever : RSp := fun _ _ _ => False
theorem never_ok {P : Program} {w : World} {K : PySem.W.Frag} {mg : Str → Option Value} {base : Heap} {k : Nat} {f : Addr} {fd : FuncData} {ps : List Str} : FnOk P w K mg base CX0 k f fd ps (upSp K spNever) :=
  ⟨fun vs H Q E h => by obtain ⟨_, _, _, _, _, h, _⟩ := h; exact (show False from h).elim, fun A outer s H args us vs Q E hr he hb hv h => by obtain ⟨_, _, _, _, _, h, _⟩ := h; exact (show False from h).elim⟩
end
section
variable {σ : RSt} {M : RM} {Q : RVK} {ta : RTE} {tr : RTA} {tA : RTT}
end
end R
namespace R.MU
open PySem PySem.Spec PyProof.Rows L2 R
section
variable {X : Cx}
end
end R.MU
namespace R.OV
open PySem PySem.Spec PyProof.Rows L2 R
section
variable {X : Cx}
end
end R.OV
namespace R
open PySem PySem.Spec PyProof.Rows L2
section
variable {prog : Program} {w : World} {A : Around} {E : Value → Shared → Prop} {s : Shared}
end
section
variable {X : Cx} {pins : List (Addr × Obj)} {σ : L2.St} {H : Hp} {s : Shared} {h' : Heap} {a : Addr} {o : HO}
end
section
variable {X : Cx}
end
end R
namespace R
open PySem PySem.Spec PyProof.Rows L2
section
variable {X : Cx} {pins : List (Addr × Obj)} {σ : L2.St} {H : Hp} {s : Shared}
def lookR (M : RM) : RV → RV
  | .ref a => (match M a with | some (.lst xs) => .ls xs | _ => .ref a)
  | x => x
theorem dens_of (I : Inv X pins σ H s) {n : Nat} : ∀ {rs : List RV} {vs : List V} {us : List Value}, rs.all (okR n) = true → Reps X.K H rs vs → Vals vs us → Dens s.heap rs us
  | [], vs, us, _, r, w => by
    have e : vs = [] := by simpa only [Reps] using r
    subst e; cases w; simp only [Dens]
  | x :: rs, vs, us, o, r, w => by
    rw [List.all_cons, Bool.and_eq_true] at o
    simp only [Reps] at r
    obtain ⟨v, vs', rfl, r1, r2⟩ := r
    obtain ⟨u, us', rfl, w1, w2⟩ := Vals.cons_inv w
    simp only [Dens]
    exact ⟨u, us', rfl, den_of I n x v u o.1 r1 w1, dens_of I o.2 r2 w2⟩
theorem den_look (I : Inv X pins σ H s) {M : RM} (hv : View X.K H M) {a : RV} {x : V} {v : Value} (o : okR 16 (lookR M a) = true) (ra : Rep X.K H a x) (rx : RelV x v) : Den s.heap (lookR M a) v := by
  cases a with
  | ref p =>
    cases q : M p with
    | none => rw [show lookR M (.ref p) = .ref p by simp only [lookR, q]] at o; cases o
    | some ob =>
      cases ob with
      | lst xs =>
        have e : lookR M (.ref p) = .ls xs := by simp only [lookR, q]
        rw [e] at o ⊢
        simp only [Rep] at ra
        subst ra
        cases rx
        obtain ⟨ho, e0, vs, rfl, hr⟩ := hv p _ q
        obtain ⟨its, rv, pl, hz⟩ := I.list (SqL.of e0)
        simp only [Den]
        exact ⟨p, its, rfl, pl.isList, dens_of I (n := 15) o hr rv⟩
      | dk kvs => rw [show lookR M (.ref p) = .ref p by simp only [lookR, q]] at o; cases o
      | ins C fs => rw [show lookR M (.ref p) = .ref p by simp only [lookR, q]] at o; cases o
  | _ => exact den_of I 16 _ x v o ra rx
def rNeM : RR2 := fun x y M Q => okR 16 (lookR M x) = true ∧ okR 16 (lookR M y) = true ∧ Q (.bl (!eqR (lookR M x) (lookR M y))) M
theorem oneM (hu : X.A.units + 64 < cLine) : ROp X (compareOp .NotEq) rNeM := by
  intro pins s σ H x y v u Q0 I rx ry h
  obtain ⟨a, b, M, Q, ra, rb, hv, ⟨o1, o2, hq⟩, hk⟩ := h
  exact rcNeAt_den 15 _ _ X.A s v u o1 o2 (den_look I hv o1 ra rx) (den_look I hv o2 rb ry) (by omega) _ _ _ _ ⟨.bl _, H, I, rfl, hk _ M _ H hq (.refl H) hv (by simp only [Rep])⟩
end
section
variable {X : Cx}
end
end R
namespace R
open PySem PySem.Spec PyProof.Rows L2
structure RMt (P : Program) (w : World) (K : PySem.W.Frag) (mg : Str → Option Value) (base : Heap) (C : Addr) (k : Nat) (m : Str) (ps : List Str) (sp : RSp) : Prop where
  ex : ∃ (g : Addr) (fd : FuncData), Meth K C m g ∧ Binds K fd ps [] ∧ FnOk P w K mg base CX0 k g fd ps (upSp K sp)
structure RIn (P : Program) (w : World) (K : PySem.W.Frag) (mg : Str → Option Value) (base : Heap) (C : Addr) (k : Nat) (ps : List Str) (sp : RSp) : Prop where
  ex : ∃ (g : Addr) (fd : FuncData), Mk K C g ∧ Binds K fd ps [] ∧ FnOk P w K mg base CX0 k g fd ps (upSp K sp)
section
variable {X : Cx} {x m : Str} {p pos apos : Pos} {o e : Expr} {es : List Expr} {t : RTA} {ta : RTE} {k : Nat} {ps : List Str} {sp : RSp} {C : Addr}
theorem rmakeF (F : RIn X.prog X.w X.K X.mg X.base C k ps sp) (hr : Room (k + 1) X.A) (hm : X.mg x = some (.ref C)) (ha : RPA X (e :: es) t) (hg : Gl X x := by rfl) (hdb : (x == ("__debug__" : Str)) = false := by decide)
    (he : starEach (e :: es) X.env = (false, eval e X.env) :: starEach es X.env := by rfl) (hpl : (backTo pos (starEach es X.env)).any (·.1) = false := by rfl) : RPE X (.Call (.Name x p) (e :: es) [] pos) (rMake C sp t) := by
  obtain ⟨g, fd, hM, hb, F⟩ := F.ex
  exact rmake (h0 := 0) hM F hr hm hb ha hg hdb he hpl
end
section
variable {X : Cx} {x : Str} {pos : Pos}
end
section
variable {σ : RSt} {M : RM} {Q : RVK} {ta tb tc td ty tx tv : RTE} {tr : RTA} {tA : RTT} {C : Addr} {f m : Str} {n b c : RSt → RM → Prop} {r : RVK}
def kSFld (C : Addr) (f : Str) (y : RV) (σ : RSt) (n : RSt → RM → Prop) : RVK := fun x M2 => match x with
  | .ref a => ∃ fs, M2 a = some (.ins C fs) ∧ fs.length < 1000 ∧ n σ (put M2 a (.ins C (putFR f y fs)))
  | _ => False
theorem do_sfld (h : tv σ M fun y M1 => ta σ M1 (kSFld C f y σ n)) : rSFld C f ta tv ⟨n, r, b, c⟩ σ M := h
theorem do_dnew (h : ∀ p, M p = none → Q (.ref p) (put M p (.dk []))) : rDNew σ M Q := h
theorem do_make {sp : RSp} (h : tr σ M fun rs M1 => ∀ a, M1 a = none → sp (.ref a :: rs) (put M1 a (.ins C [])) (fun v M2 => v = .non ∧ Q (.ref a) M2)) : rMake C sp tr σ M Q := h
theorem do_neM {x y : RV} (e1 : okR 16 (lookR M x) = true) (e2 : okR 16 (lookR M y) = true) (h : Q (.bl (!eqR (lookR M x) (lookR M y))) M) : rNeM x y M Q := ⟨e1, e2, h⟩
end
end R
namespace R
open PySem PySem.Spec PyProof.Rows L2
section
variable {prog : Program} {w : World} {A : Around} {E : Value → Shared → Prop} {s : Shared}
end
section
variable {X : Cx}
end
section
variable {σ : RSt} {M : RM} {Q : RVK} {ta : RTE}
end
end R
namespace R
open PySem PySem.Spec PyProof.Rows L2
section
variable {X : Cx}
end
section
variable {M : RM} {Q : RVK}
end
end R
namespace R
open PySem PySem.Spec PyProof.Rows L2
section
variable {prog : Program} {w : World} {A : Around} {E : Value → Shared → Prop} {s : Shared}
structure Apart (z T O i j l m : Addr) : Prop where
  ne : [z, T, O, i, j].Nodup
  src : l ∉ [z, O, i, j] ∧ m ∉ [z, O, i, j]
structure ZipSt (h : Heap) (z T O i j l m : Addr) (n : Nat) (xs ys : Array Value) (f : Value) : Prop where
  zp : IsZip h z T O f
  its : IsPair h T (.ref i) (.ref j)
  own : ∃ a b, IsPair h O a b
  it1 : h.IsTupleIter i l n
  it2 : h.IsListIter j m n
  src1 : h.IsTuple l xs
  src2 : h.IsList m ys
end
section
variable {X : Cx} {pins : List (Addr × Obj)} {σ : L2.St} {H : Hp} {s : Shared} {h' : Heap}
theorem turnedL {t' : Nat} {its : List Addr} (I : Inv X pins σ H s) (k : ∀ b o, b ∉ its → s.heap.get? b = some o → h'.get? b = some o) (hf : ∀ b ∈ its, FpOk X pins H b) : Inv X pins σ H { s with heap := h', toks := t' } := by
  have off : ∀ b u, H b = some u → b ∉ its := fun b u e z => by rw [(hf b z).1] at e; cases e
  refine I.step (g' := s.gens) (d' := s.drawn) (ch := its) (fun b hb => ⟨(hf b hb).2.2.2.1, (hf b hb).2.1, (hf b hb).2.2.2.2.1, (hf b hb).2.2.2.2.2⟩) (fun b o _ _ hc e _ => k b o hc e) (fun b o _ _ hc e _ => ⟨o.slots, k b o hc e⟩) (fun _ _ _ _ n => n)
    (fun b o hc e => ⟨o, k b o hc e⟩) (fun _ _ e => e) (fun _ _ _ e => e) (fun b ps e => ⟨#[], by rw [e]; simp⟩) (fun m hm => ?_) (fun b u e => ?_) I.bare
  · obtain ⟨o, es, ep, ho, r⟩ := hm
    exact ⟨o, es, ep, k _ o (fun z => (hf _ z).2.1 rfl) ho, r⟩
  · refine (I.hok b u e).stay (fun c v hc q => k c v ?_ q) (fun _ q => q) fun _ _ q => q
    rcases hc with z | z
    · rw [z]; exact off b u e
    · exact off c _ z
end
structure ZipTn (h : Heap) (z T O i j l m : Addr) (n : Nat) : Prop where
  zp : IsZip h z T O .none
  its : IsPair h T (.ref i) (.ref j)
  own : ∃ a b, IsPair h O a b
  it1 : h.IsTupleIter i l n
  it2 : h.IsListIter j m n
section
variable {X : Cx}
end
end R
namespace R
open PySem PySem.Spec PyProof.Rows L2
section
variable {X : Cx}
section
variable {prog : Program} {w : World} {A : Around} {E : Value → Shared → Prop} {s : Shared} {z y : Str} {t u : Tok} {Q : Value → Shared → Prop}
open PySem.Builtin PySem.Builtin.Str in
open PySem.Builtin PySem.Builtin.Str in
open PySem.Builtin PySem.Builtin.Str in
end
def rNever : RTS := fun _ _ _ => False
theorem snever {st : Stmt} : RPS X st rNever := fun pins s σ0 H D0 I h => by
  obtain ⟨σ, M, D, hs, hv, ht, hk⟩ := h
  exact (show False from ht).elim
end
end R
namespace L2
open PySem PySem.Spec PyProof.Rows
def wipe (h : Heap) : List Addr → Heap
  | [] => h
  | a :: r => (wipe h r).hide a
theorem wipe_in {h : Heap} {b : Addr} : ∀ {l : List Addr}, b ∈ l → (wipe h l).get? b = none
  | a :: r, m => by
    by_cases e : b = a
    · subst e; exact Heap.hide_self _ _
    · show ((wipe h r).hide a).get? b = none
      rw [Heap.hide_ne _ e]
      exact wipe_in ((List.mem_cons.mp m).resolve_left e)
theorem wipe_out {h : Heap} {b : Addr} : ∀ {l : List Addr}, b ∉ l → (wipe h l).get? b = h.get? b
  | [], _ => rfl
  | a :: r, m => by
    show ((wipe h r).hide a).get? b = _
    rw [Heap.hide_ne _ fun e => m (by simp [e])]
    exact wipe_out fun e => m (List.mem_cons_of_mem _ e)
theorem wipe_stays {h : Heap} {l : List Addr} : (wipe h l).StaysIn h := fun b o e => by
  by_cases m : b ∈ l
  · rw [wipe_in m] at e; cases e
  · rw [wipe_out m] at e; exact e
theorem funframes_base {h base base' : Heap} : ∀ {l : List Env}, h.FunFrames base l → (∀ b ∈ frs l, base'.get? b = none) → h.FunFrames base' l
  | [], _, _ => trivial
  | env :: r, ⟨hk, ⟨L, o, hf, hn, ho, hd⟩, hr⟩, hb => by
    have hL : ∀ b ∈ frs r, b ∈ frs (env :: r) := fun b hb => by unfold frs at hb ⊢; rw [List.filterMap_cons, hf]; exact List.mem_cons_of_mem _ hb
    exact ⟨hk, ⟨L, o, hf, hb L (by unfold frs; rw [List.filterMap_cons, hf]; exact List.mem_cons_self ..), ho, hd⟩, funframes_base hr fun b z => hb b (hL b z)⟩
section
variable {P : Program} {w : World} {H : Hp} {h : Heap} {a : Addr} {o : HO}
theorem ObjOk.there (x : ObjOk P w H h a o) : ∃ u, h.get? a = some u := by
  cases o with
  | lst xs => obtain ⟨_, _, _, _, e⟩ := x; exact ⟨_, e⟩
  | tup xs => obtain ⟨_, _, _, _, e, _⟩ := x; exact ⟨_, e⟩
  | dK kvs => obtain ⟨_, _, _, _, o, _, _, e, _⟩ := x; exact ⟨_, e⟩
  | dT kvs => obtain ⟨_, _, _, _, o, _, _, e, _⟩ := x; exact ⟨_, e⟩
  | set S n => obtain ⟨o, _, _, _, e, _⟩ := x; exact ⟨_, e⟩
  | ins C dx fs => obtain ⟨_, _, _, e, _⟩ := x; exact ⟨_, e⟩
  | own y => obtain ⟨_, e⟩ := x; exact ⟨_, e⟩
  | xd fs => obtain ⟨_, ⟨_, _, _, e, _⟩, _⟩ := x; exact ⟨_, e⟩
  | rng lo hi => obtain ⟨_, _, _, e⟩ := x; exact ⟨_, e⟩
  | frz ob u => obtain ⟨e, _⟩ := x; exact ⟨_, e⟩
  | tbl ps => exact ⟨_, (show h.get? a = some _ from x)⟩
  | met f y => exact ⟨_, (show h.get? a = some _ from x)⟩
  | ext φ => obtain ⟨_, ⟨_, e⟩, _⟩ := x; exact ⟨_, e⟩
end
structure Fly (g h : Heap) (H : Hp) (a : Addr) (cls : Value) : Prop where
  ex : ∃ oe vs T oT ts a0, h.get? a = some oe ∧ oe.cls = cls ∧ vs[0]? = some a0 ∧ oe.data = .fields vs ∧ vs[1]? = some (.ref T) ∧ T ≠ a ∧ h.get? T = some oT ∧ oT.data = .fields ts ∧ ts[3]? = some .none ∧ H T = none ∧ g.get? T = none
  un : H a = none
  new : g.get? a = none
theorem Fly.older {g g' h : Heap} {H : Hp} {a : Addr} {cls : Value} (f : Fly g h H a cls) (k : ∀ b o, g'.get? b = some o → ∃ u, g.get? b = some u) : Fly g' h H a cls := by
  have z : ∀ b, g.get? b = none → g'.get? b = none := fun b e => by
    cases q : g'.get? b with
    | none => rfl
    | some o => obtain ⟨u, e2⟩ := k b o q; rw [e] at e2; cases e2
  obtain ⟨oe, vs, T, oT, ts, a0, h1, h2, h3, h4, h5, h6, h7, h8, h9, h10, h11⟩ := f.ex
  exact ⟨⟨oe, vs, T, oT, ts, a0, h1, h2, h3, h4, h5, h6, h7, h8, h9, h10, z T h11⟩, f.un, z a f.new⟩
def CX1 (P : Program) (w : World) : CXT := fun outer H s E e s' => ∃ a cls H', e = .ref a ∧ s'.os = s.os ∧ AllBare s'.gens ∧ Un (frs outer) [] H H' s.heap s'.heap ∧ HOk P w H' s'.heap ∧ Fly s.heap s'.heap H' a cls ∧ E cls none H'
section
variable {X : Cx} {pins : List (Addr × Obj)} {σ : St} {H : Hp} {s : Shared} {a : Addr} {cls : Value}
theorem Inv.there {b : Addr} {o : HO} (I : Inv X pins σ H s) (e : H b = some o) : ∃ u, s.heap.get? b = some u := (I.hok b o e).there
theorem Inv.over (I : Inv X pins σ H s) (hex : X.ex = []) {l : List Addr} {h' : Heap} (hl : ∀ b ∈ l, b ∈ frs X.stack ∨ (H b = none ∧ X.s₀.heap.get? b = none)) (k : (wipe s.heap l).StaysIn h') (u : ∀ b ∈ frs X.stack, ∀ o, s.heap.get? b = some o → ∃ sl, h'.get? b = some { o with slots := sl }) :
    Un X.fs [] X.H₀ H X.s₀.heap h' ∧ HOk X.prog X.w H h' := by
  have L0 : X.s₀.heap.get? X.env.locals = none := Heap.get?_none_of_le I.ok.above
  have kk : ∀ b o, s.heap.get? b = some o → b ∉ l → h'.get? b = some o := fun b o e m => k b o (by rw [wipe_out m]; exact e)
  have nex : ∀ b : Addr, b ∉ X.ex := fun b z => by rw [hex] at z; cases z
  have old : ∀ b o, X.s₀.heap.get? b = some o → b ∉ X.fs → b ∉ l := fun b o e hb m => by
    rcases hl b m with z | ⟨_, z⟩
    · rcases List.mem_cons.mp (I.stkSub b z) with z | z
      · rw [z, L0] at e; cases e
      · exact hb z
    · rw [z] at e; cases e
  have fs_in : ∀ b ∈ X.fs, b ∈ frs X.stack := fun b hb => by
    rcases I.ok.stk with e | ⟨e, hf⟩
    · rw [e]; exact hb
    · rw [e]; unfold frs; rw [List.filterMap_cons, hf]; exact List.mem_cons_of_mem _ hb
  refine ⟨⟨fun b o e n hb _ => kk b o (I.base.keep b o e n hb (nex b)) (old b o e hb), fun b o e n hb _ => ?_, fun b o e n _ => I.base.free b o e n (nex b), fun b o e _ => ?_, I.base.tups, I.base.frzs, I.base.tbls⟩, fun b o e => ?_⟩
  · obtain ⟨sl, e1⟩ := I.base.slot b o e n hb (nex b)
    obtain ⟨sl', e2⟩ := u b (fs_in b hb) _ e1
    exact ⟨sl', e2⟩
  · obtain ⟨o', e1⟩ := I.base.there b o e (nex b)
    by_cases hb : b ∈ X.fs
    · obtain ⟨sl', e2⟩ := u b (fs_in b hb) _ e1; exact ⟨_, e2⟩
    · exact ⟨o', kk b o' e1 (old b o e hb)⟩
  · refine (I.hok b o e).stay (fun c v hc q => kk c v q fun m => ?_) (fun _ q => q) fun _ _ q => q
    have hn : H c = none := (hl c m).elim (I.stkFree c) fun z => z.1
    rcases hc with z | z
    · rw [z, e] at hn; cases hn
    · rw [z] at hn; cases hn
theorem Inv.newer (I : Inv X pins σ H s) (hex : X.ex = []) {b : Addr} (e : s.heap.get? b = none) : X.s₀.heap.get? b = none := by
  cases q : X.s₀.heap.get? b with
  | none => rfl
  | some o => obtain ⟨o', e1⟩ := I.base.there b o q (by rw [hex]; exact List.not_mem_nil); rw [e] at e1; cases e1
theorem fly_leave {M : Model} {Q : Unit → Shared → Prop} {E : Value → Shared → Prop} (I : Inv X pins σ H s) (hex : X.ex = []) (hst : X.stack = X.env :: X.outer) (hf : X.env.frame = some X.env.locals) (fl : Fly X.s₀.heap s.heap H a cls)
    (hQ : ∀ h', Un X.fs [] X.H₀ H X.s₀.heap h' → HOk X.prog X.w H h' → Fly X.s₀.heap h' H a cls → Q () { s with heap := h' }) : wpAny M X.A (leaving X.env (.ref a)) Q E s := by
  obtain ⟨oe, vs, T, oT, ts, a0, h1, h2, h3, h4, h5, h6, h7, h8, h9, h10, h11⟩ := fl.ex
  have hl : ∀ b ∈ a :: T :: frs X.stack, b ∈ frs X.stack ∨ (H b = none ∧ X.s₀.heap.get? b = none) := fun b hb => by
    rcases List.mem_cons.mp hb with z | hb
    · subst z; exact .inr ⟨fl.un, fl.new⟩
    · rcases List.mem_cons.mp hb with z | hb
      · subst z; exact .inr ⟨h10, h11⟩
      · exact .inl hb
  have ff : s.heap.FunFrames (wipe s.heap (a :: T :: frs X.stack)) (X.env :: X.outer) := by
    have z := I.stack
    rw [hst] at z
    exact funframes_base z fun b hb => wipe_in (by rw [← hst] at hb; simp [hb])
  refine wpAny_leaves_onW (base := wipe s.heap (a :: T :: frs X.stack)) (cls := cls) (a0 := a0) (by rw [← hst]; exact I.ok.frames) hf ⟨wipe_stays, wipe_in (by simp), ff, oe, vs, T, oT, ts, h1, ⟨h2, h3⟩, h4, h5, wipe_in (by simp), h6, h7, h8, h9⟩ fun h' fl' us => ?_
  obtain ⟨k1, k2, k3, oe', vs', T', oT', ts', g1, ⟨g2, g3⟩, g4, g5, g6, g7, g8, g9, g10⟩ := fl'
  obtain ⟨u1, u2⟩ := I.over hex hl k1 fun b hb o e => us b o e (by
    obtain ⟨_, o', e', nf⟩ := I.stack.mem hb
    rw [e] at e'; cases e'; exact nf)
  have inB : ∀ u, s.heap.get? T' = some u → T' ∈ a :: T :: frs X.stack := fun u e => by
    by_cases m : T' ∈ a :: T :: frs X.stack
    · exact m
    · rw [wipe_out m, e] at g6; cases g6
  refine hQ h' u1 u2 ⟨⟨oe', vs', T', oT', ts', a0, g1, g2, g3, g4, g5, g7, g8, g9, g10, ?_, ?_⟩, fl.un, fl.new⟩
  · cases q : H T' with
    | none => rfl
    | some o =>
      obtain ⟨u, e⟩ := I.there q
      rcases hl T' (inB u e) with z | ⟨z, _⟩
      · rw [I.stkFree _ z] at q; cases q
      · rw [z] at q; cases q
  · cases q : X.s₀.heap.get? T' with
    | none => rfl
    | some o =>
      obtain ⟨u, e⟩ := I.base.there T' o q (by rw [hex]; exact List.not_mem_nil)
      rcases hl T' (inB u e) with z | ⟨_, z⟩
      · obtain ⟨_, o', e', nf⟩ := I.stack.mem z
        obtain ⟨sl, e2⟩ := us T' o' e' nf
        rw [g8] at e2; cases e2
        exact absurd g9 (nf _)
      · rw [z] at q; cases q
theorem made_leave {M : Model} {Q : Unit → Shared → Prop} {E : Value → Shared → Prop} {h1 : Heap} {args : List Value} (I : Inv X pins σ H s) (hex : X.ex = []) (hst : X.stack = X.env :: X.outer) (hf : X.env.frame = some X.env.locals) (hx : Heap.MadeExcOf s.heap h1 a cls args)
    (hQ : ∀ h', Un X.fs [] X.H₀ H X.s₀.heap h' → HOk X.prog X.w H h' → Fly X.s₀.heap h' H a cls → Q () { s with heap := h' }) : wpAny M X.A (leaving X.env (.ref a)) Q E { s with heap := h1 } := by
  have hl : ∀ b ∈ frs X.stack, b ∈ frs X.stack ∨ (H b = none ∧ X.s₀.heap.get? b = none) := fun b hb => .inl hb
  have ff : s.heap.FunFrames (wipe s.heap (frs X.stack)) (X.env :: X.outer) := by
    have z := I.stack
    rw [hst] at z
    exact funframes_base z fun b hb => wipe_in (by rw [← hst] at hb; exact hb)
  refine wpAny_leaves_madeW (base := wipe s.heap (frs X.stack)) (h := s.heap) (cls := cls) (args := args) (by rw [← hst]; exact I.ok.frames) hf wipe_stays ff hx fun h' t fl' _ _ us => ?_
  obtain ⟨k1, k2, k3, oe', vs', T', oT', ts', g1, ⟨g2, g3⟩, g4, g5, g6, g7, g8, g9, g10⟩ := fl'
  have slot : ∀ b ∈ frs X.stack, ∀ o, s.heap.get? b = some o → ∃ sl, h'.get? b = some { o with slots := sl } := fun b hb o e => by
    obtain ⟨_, o', e', nf⟩ := I.stack.mem hb
    rw [e] at e'; cases e'
    exact us b o (hx.keeps b o e) nf
  obtain ⟨u1, u2⟩ := I.over hex hl k1 slot
  have inB : ∀ u, s.heap.get? T' = some u → T' ∈ frs X.stack := fun u e => by
    by_cases m : T' ∈ frs X.stack
    · exact m
    · rw [wipe_out m, e] at g6; cases g6
  have noF : T' ∉ frs X.stack := fun z => by
    obtain ⟨_, o', e', nf⟩ := I.stack.mem z
    obtain ⟨sl, e2⟩ := slot T' z o' e'
    rw [g8] at e2; cases e2
    exact absurd g9 (nf _)
  have hT : s.heap.get? T' = none := by
    cases q : s.heap.get? T' with
    | none => rfl
    | some u => exact absurd (inB u q) noF
  have un : ∀ b, s.heap.get? b = none → H b = none := fun b e => by
    cases q : H b with
    | none => rfl
    | some o => obtain ⟨u, e2⟩ := I.there q; rw [e] at e2; cases e2
  exact hQ h' u1 u2 ⟨⟨oe', vs', T', oT', ts', _, g1, g2, g3, g4, g5, g7, g8, g9, g10, un T' hT, I.newer hex hT⟩, un a hx.new, I.newer hex hx.new⟩
end
theorem pass1 {P : Program} {w : World} {K : PySem.W.Frag} {mg : Str → Option Value} {base : Heap} {N : List Str} {qual : Str} {scope : Scope} {f : Addr} {cd : Value} {A : Around} {outer : List Env} {s₀ : Shared} {H₀ : Hp} {E E' : XK} (hE : ∀ c o H, E' c o H → E c o H) :
    Passes (CX1 P w) (cxOf (CX1 P w) P w K mg base N qual scope f cd A outer s₀ H₀ E) E' := by
  intro pins σ H s e s' I h
  obtain ⟨a, cls, H', rfl, os, bare, un, hok, fl, q⟩ := h
  have I' := I.call' (ch := []) os un hok bare fun b z => absurd z (by simp)
  refine fly_leave I' rfl rfl rfl (fl.older fun b o e => I.base.there b o e List.not_mem_nil) fun h' u1 u2 f' => ?_
  exact ⟨a, cls, H', rfl, I'.os, I'.bare, u1, u2, f', hE _ _ _ q⟩
theorem thrown1 {P : Program} {w : World} {K : PySem.W.Frag} {mg : Str → Option Value} {base : Heap} {N : List Str} {qual : Str} {scope : Scope} {f : Addr} {cd : Value} {A : Around} {outer : List Env} {s₀ : Shared} {H₀ : Hp} {E : XK} {pins : List (Addr × Obj)} {σ : St} {H : Hp} {s : Shared} {a : Addr} {cls : Value} {h1 : Heap} {args : List Value}
    (I : Inv (cxOf (CX1 P w) P w K mg base N qual scope f cd A outer s₀ H₀ E) pins σ H s) (hx : Heap.MadeExcOf s.heap h1 a cls args) (q : E cls none H) : (cxOf (CX1 P w) P w K mg base N qual scope f cd A outer s₀ H₀ E).xe (.ref a) { s with heap := h1 } :=
  made_leave I rfl rfl rfl hx fun h' u1 u2 f' => ⟨a, cls, H, rfl, I.os, I.bare, u1, u2, f', q⟩
end L2
namespace PySem.W
open PySem PySem.Spec PySem.Calls PyProof.Rows Builtin Builtin.ObjectAttr Builtin.Getset_descriptor
structure ExAt (h : Heap) (x : Addr) (D : Addr) : Prop where
  ex : ∃ ox : Obj, h.get? x = some ox ∧ ox.cls = .ref D
theorem ExAt.type {M : Model} {h : Heap} {x D : Addr} (I : ExAt h x D) : Looks M h (typeOf (.ref x)) (.ref D) := by
  obtain ⟨o, h1, h2⟩ := I.ex
  exact h2 ▸ (Looks.ld h1).andThen .now
section
variable {prog : Program} {w : World} {A : Around} {E : Value → Shared → Prop} {h : Heap} {g : Array GenState} {d : Drawn} {t : Nat} {os : OsState} {K : Frag} {x D : Addr}
theorem xc_get {R : Result → Shared → Prop} {tp : Value} {s : Shared} (X : K.In s.heap) (I : ExAt s.heap x D) (hm : mroIn K D (.type "object") = some true)
    (h : R (.ok (.ret (.ref D))) s) : codeAny (model prog w) A (.call (.builtin "getset_descriptor.__get__") ⟨[.builtin "object.__class__", .ref x, tp], []⟩) R s := by
  obtain ⟨hh, g, dr, t, os⟩ := s
  have L0 := I.type (M := model prog w)
  have L1 := looks_mroIn (M := model prog w) X hm
  refine codeAny_call_builtin KF.slot_gs.plain KF.entry_gs (KF.slot_gs.check _ _ _ _ _ _ _ _ KF.type_class (KF.args_gs _ _ _) ?_)
  unfold Builtin.«getset_descriptor.__get__» descrGet
  rw [dga_obj]
  refine wpAny_bind (wpAny_pure ?_)
  unfold descrGetter descrCheckInstance descrNameAndClass isInstance
  simp only [KF.owner_class]
  repeat lk
  refine ⟨Code.quiet_builtin _ (by decide +kernel), codeAny_builtin KF.entry_class ?_⟩
  unfold Builtin.«object.__class__» shownTypeOf
  repeat lk
  exact h
theorem xc_entry {tk : Tok} {Q : Fin → Shared → Prop} (X : K.In h) (I : ExAt h x D) (ha : findIn K (.ref D) "__class__" = some (some (.builtin "object.__class__"))) (hm : mroIn K D (.type "object") = some true) (hq : Q (.done (.ret (.ref D))) ⟨h, g, d, t, os⟩) :
    wpAny (model prog w) A (Builtin.«object.__getattribute__» ⟨[.ref x, .str "__class__" tk], []⟩) Q E ⟨h, g, d, t, os⟩ := by
  have hT5 : (⟨h, g, d, t, os⟩ : Shared).TypeIs (.builtin "object.__class__") "getset_descriptor" := F.typeOf_object_class
  have f5 := F.typeOf_object_class
  have f6 := F.slot_gs_get.lookup
  have f7 := F.slot_gs_set.lookup
  have L1 := looks_findIn (M := model prog w) X ha
  obtain ⟨ox, hx, hc⟩ := id I.ex
  repeat (any_goals (first | assumption | (with_reducible refine wpAny_loadPart_at hx ?_; rw [hc]) | with_reducible refine wpAny_bind (L1.at ?_) | with_reducible refine L1.at ?_ | wp_step))
  refine xc_get X I hm ?_
  repeat (any_goals (first | assumption | wp_step))
theorem xc_check {M : Model} {nameV : Value} {Q : Unit → Shared → Prop} (X : K.In h) (I : ExAt h x D) (hb : mroIn K D (.type "BaseException") = some true) (hq : Q () ⟨h, g, d, t, os⟩) : wpAny M A (checkBuiltinCall "BaseException.__getattribute__" ⟨[.ref x, nameV], []⟩) Q E ⟨h, g, d, t, os⟩ := by
  have hk : builtinKind "BaseException.__getattribute__" = some .slot := by decide +kernel
  have hsplit : splitId "BaseException.__getattribute__" = some ("BaseException", "__getattribute__") := by decide +kernel
  have ha := F.args_bexc_ga (.ref x) nameV
  have L0 := I.type (M := M)
  have L1 := looks_mroIn (M := M) X hb
  simp only [checkBuiltinCall, hk, hsplit]
  refine wpAny_bind ?_
  unfold isInstance
  repeat (first | with_reducible refine wpAny_bind (L0.at ?_) | with_reducible refine wpAny_bind (L1.at ?_) | with_reducible refine L1.at ?_ | wp_step)
  exact hq
theorem xc_by {tk : Tok} {Q : Value → Shared → Prop} (X : K.In h) (I : ExAt h x D) (hga : findIn K (.ref D) "__getattribute__" = some (some (.builtin "BaseException.__getattribute__"))) (hgn : findIn K (.ref D) "__getattr__" = some none) (ha : findIn K (.ref D) "__class__" = some (some (.builtin "object.__class__")))
    (hb : mroIn K D (.type "BaseException") = some true) (hm : mroIn K D (.type "object") = some true) (hq : Q (.ref D) ⟨h, g, d, t, os⟩) : wpAny (model prog w) A (getAttrBy (.ref x) (.str "__class__" tk) false false) Q E ⟨h, g, d, t, os⟩ := by
  have f3 := F.attr_ValueError.ga.bind (.ref x)
  have hx2 : (Value.builtin "BaseException.__getattribute__" == Value.builtin "object.__getattribute__") = false := by decide +kernel
  have hx1 : (onTheHeap (Value.ref D) && Value.builtin "BaseException.__getattribute__" == Value.builtin "object.__getattribute__") = false := by rw [hx2]; rfl
  have L1 := looks_findIn (M := model prog w) X hga
  have L2 := looks_findIn (M := model prog w) X hgn
  obtain ⟨ox, hx, hc⟩ := id I.ex
  repeat (any_goals (first | assumption | (with_reducible refine wpAny_loadPart_at hx ?_; rw [hc]) | with_reducible refine wpAny_bind (L1.at ?_) | with_reducible refine wpAny_bind (L2.at ?_) | with_reducible refine L2.at ?_ | with_reducible refine L1.at ?_ | wp_step))
  refine codeAny_call_builtin F.attr_ValueError.ga.plain F.entry_bexc_ga (xc_check X I hb (xc_entry X I ha hm ?_))
  repeat (any_goals (first | assumption | wp_step))
theorem xc_attr {Q : Option Value → Shared → Prop} (X : K.In h) (I : ExAt h x D) (hga : findIn K (.ref D) "__getattribute__" = some (some (.builtin "BaseException.__getattribute__"))) (hgn : findIn K (.ref D) "__getattr__" = some none) (ha : findIn K (.ref D) "__class__" = some (some (.builtin "object.__class__")))
    (hb : mroIn K D (.type "BaseException") = some true) (hm : mroIn K D (.type "object") = some true) (hq : Q (some (.ref D)) ⟨h, g, d, t + 1, os⟩) : wpAny (model prog w) A (getAttr? (.ref x) "__class__") Q E ⟨h, g, d, t, os⟩ := by
  unfold getAttr? getAttrBy?
  repeat (any_goals (first | assumption | with_reducible apply xc_by X I hga hgn ha hb hm | wp_step))
end
def xcOk (K : Frag) (D : Addr) : Bool := findIn K (.ref D) "__getattribute__" == some (some (.builtin "BaseException.__getattribute__")) && findIn K (.ref D) "__getattr__" == some none && findIn K (.ref D) "__class__" == some (some (.builtin "object.__class__")) && mroIn K D (.type "BaseException") == some true && mroIn K D (.type "object") == some true && (clsIn K D).isSome
theorem kitx_exc {K : Frag} {x D : Addr} (e : xcOk K D = true) : KitX K (.ref x) (.ref D) (fun h => ExAt h x D) := by
  unfold xcOk at e
  simp only [Bool.and_eq_true, beq_iff_eq] at e
  obtain ⟨⟨⟨⟨⟨hga, hgn⟩, ha⟩, hb⟩, hm⟩, hcs⟩ := e
  obtain ⟨cdD, hcD⟩ := Option.isSome_iff_exists.mp hcs
  refine ⟨fun _ _ _ I => I.type, fun _ _ X _ => ?_, fun h tp dd its n sl X htp => ?_, fun {_ _ _ _ _ s} X I k => ?_⟩
  · unfold clsIn at hcD
    split at hcD
    · rename_i c' d' cd' sl' ho
      intro A' Q' E' s' k q
      unfold isType loadHead
      exact wpAny_bind (wpAny_loadPart (k _ _ (X _ _ ho)) (wpAny_pure q))
    · cases hcD
  · refine Bool.eq_false_iff.mpr fun q => ?_
    have e : D = tp := Value.ref.inj (beq_iff_eq.mp q)
    subst e
    unfold clsIn at hcD
    split at hcD
    · rename_i c' d' cd' sl' ho
      have z := (X _ _ ho).symm.trans htp
      cases z
    · cases hcD
  · obtain ⟨h, g, d, t, os⟩ := s
    exact xc_attr X I hga hgn ha hb hm k
end PySem.W
namespace L2
open PySem PySem.Spec PyProof.Rows
section
variable {X : Cx} {pins : List (Addr × Obj)} {σ : St} {H : Hp} {s : Shared} {a : Addr} {cls : Value} {g : Heap}
theorem Inv.lax (I : Inv X pins σ H s) (hex : X.ex = []) {l : List Addr} {h' : Heap} (hl : ∀ b ∈ l, b ∈ frs X.stack ∨ (H b = none ∧ X.s₀.heap.get? b = none ∧ (∀ p ∈ X.pn ++ pins, p.1 ≠ b) ∧ (∀ x c, X.env.cells.lookup x = some c → c ≠ b) ∧ X.env.locals ≠ b))
    (k : (wipe s.heap l).StaysIn h') (u : ∀ b ∈ frs X.stack, ∀ o, s.heap.get? b = some o → ∃ sl, h'.get? b = some { o with slots := sl }) : Inv X pins σ H { s with heap := h' } := by
  obtain ⟨u1, u2⟩ := I.over hex (fun b hb => (hl b hb).imp id fun z => ⟨z.1, z.2.1⟩) k u
  have kk : ∀ b o, s.heap.get? b = some o → b ∉ l → h'.get? b = some o := fun b o e m => k b o (by rw [wipe_out m]; exact e)
  have up : ∀ b o, s.heap.get? b = some o → (b ∉ l ∨ b ∈ frs X.stack) → ∃ sl, h'.get? b = some { o with slots := sl } := fun b o e z => by
    rcases z with z | z
    · exact ⟨o.slots, kk b o e z⟩
    · exact u b z o e
  have cellk : ∀ x c v, X.env.cells.lookup x = some c → s.heap.IsCell c v → h'.IsCell c v := fun x c v e ⟨o, ho, hd⟩ => by
    have z : c ∉ l ∨ c ∈ frs X.stack := by
      by_cases m : c ∈ l
      · rcases hl c m with z | z
        · exact .inr z
        · exact absurd rfl (z.2.2.2.1 x c e)
      · exact .inl m
    obtain ⟨sl, e2⟩ := up c o ho z
    exact ⟨_, e2, hd⟩
  obtain ⟨m, ⟨o, es, ep, ho, r⟩, hloc⟩ := I.loc
  have zL : X.env.locals ∉ l ∨ X.env.locals ∈ frs X.stack := by
    by_cases m : X.env.locals ∈ l
    · rcases hl _ m with z | z
      · exact .inr z
      · exact absurd rfl z.2.2.2.2
    · exact .inl m
  obtain ⟨sl, hL⟩ := up _ o ho zL
  refine ⟨I.ok, I.os, I.bare, by rw [hex]; exact u1, ⟨m, ⟨_, es, ep, hL, r⟩, fun i x v h1 h2 h3 => ?_⟩, fun x c e => ?_, I.free, I.freeC, fun p hp => ?_, u2, I.len⟩
  · obtain ⟨u, rv, lk⟩ := hloc i x v h1 h2 h3
    refine ⟨u, rv, ?_⟩
    rcases lk with lk | ⟨q1, c, e, hc⟩
    · exact .inl lk
    · exact .inr ⟨q1, c, e, cellk x c _ e hc⟩
  · obtain ⟨v, hc⟩ := I.cell x c e
    exact ⟨v, cellk x c v e hc⟩
  · obtain ⟨p1, p2, p3, p4, p5⟩ := I.pin p hp
    refine ⟨kk _ _ p1 fun m => ?_, p2, p3, p4, p5⟩
    rcases hl _ m with z | z
    · rcases List.mem_cons.mp (I.stkSub _ z) with z | z
      · exact p3 z
      · exact p4 z
    · exact z.2.2.1 p hp rfl
structure Ahead (X : Cx) (pins : List (Addr × Obj)) (g : Heap) : Prop where
  old : ∀ b o, X.s₀.heap.get? b = some o → ∃ u, g.get? b = some u
  pin : ∀ p ∈ X.pn ++ pins, ∃ u, g.get? p.1 = some u
  cell : ∀ x c, X.env.cells.lookup x = some c → ∃ u, g.get? c = some u
  loc : ∃ u, g.get? X.env.locals = some u
theorem Inv.ahead (I : Inv X pins σ H s) (hex : X.ex = []) : Ahead X pins s.heap where
  old := fun b o e => I.base.there b o e (by rw [hex]; exact List.not_mem_nil)
  pin := fun p hp => ⟨_, (I.pin p hp).1⟩
  cell := fun x c e => by obtain ⟨v, o, ho, _⟩ := I.cell x c e; exact ⟨o, ho⟩
  loc := by obtain ⟨m, ⟨o, es, ep, ho, r⟩, _⟩ := I.loc; exact ⟨o, ho⟩
theorem Ahead.ne (h : Ahead X pins g) {b : Addr} (e : g.get? b = none) : X.s₀.heap.get? b = none ∧ (∀ p ∈ X.pn ++ pins, p.1 ≠ b) ∧ (∀ x c, X.env.cells.lookup x = some c → c ≠ b) ∧ X.env.locals ≠ b := by
  have z : ∀ c, (∃ u, g.get? c = some u) → c ≠ b := fun c ⟨u, hu⟩ q => by rw [q, e] at hu; cases hu
  refine ⟨?_, fun p hp => z _ (h.pin p hp), fun x c q => z _ (h.cell x c q), z _ h.loc⟩
  cases q : X.s₀.heap.get? b with
  | none => rfl
  | some o => exact absurd rfl (z b (h.old b o q))
theorem fly_l (fl : Fly g s.heap H a cls) (ah : Ahead X pins g) {T : Addr} (hT : H T = none) (gT : g.get? T = none) : ∀ b ∈ a :: T :: frs X.stack, b ∈ frs X.stack ∨ (H b = none ∧ X.s₀.heap.get? b = none ∧ (∀ p ∈ X.pn ++ pins, p.1 ≠ b) ∧ (∀ x c, X.env.cells.lookup x = some c → c ≠ b) ∧ X.env.locals ≠ b) := fun b hb => by
  rcases List.mem_cons.mp hb with z | hb
  · subst z; exact .inr ⟨fl.un, ah.ne fl.new⟩
  · rcases List.mem_cons.mp hb with z | hb
    · subst z; exact .inr ⟨hT, ah.ne gT⟩
    · exact .inl hb
theorem fly_again (I : Inv X pins σ H s) (hex : X.ex = []) (ah : Ahead X pins g) (fl : Fly g s.heap H a cls) (hgs : ∀ b o, g.get? b = some o → ∃ u, s.heap.get? b = some u) {T : Addr} (hT : H T = none) (gT : g.get? T = none) {a0 : Value} {h' : Heap} {envs : List Env}
    (fl' : Heap.FlyingW (wipe s.heap (a :: T :: frs X.stack)) envs a cls a0 h') (us : s.heap.UpToSlots h') : Inv X pins σ H { s with heap := h' } ∧ Fly g h' H a cls ∧ ∀ b o, g.get? b = some o → ∃ u, h'.get? b = some u := by
  obtain ⟨k1, k2, k3, oe', vs', T', oT', ts', g1, ⟨g2, g3⟩, g4, g5, g6, g7, g8, g9, g10⟩ := fl'
  have slot : ∀ b ∈ frs X.stack, ∀ o, s.heap.get? b = some o → ∃ sl, h'.get? b = some { o with slots := sl } := fun b hb o e => us b o e (by
    obtain ⟨_, o', e', nf⟩ := I.stack.mem hb
    rw [e] at e'; cases e'; exact nf)
  have hl := fly_l (X := X) (pins := pins) fl ah hT gT
  have inB : ∀ u, s.heap.get? T' = some u → T' ∈ a :: T :: frs X.stack := fun u e => by
    by_cases m : T' ∈ a :: T :: frs X.stack
    · exact m
    · rw [wipe_out m, e] at g6; cases g6
  have noF : T' ∉ frs X.stack := fun z => by
    obtain ⟨_, o', e', nf⟩ := I.stack.mem z
    obtain ⟨sl, e2⟩ := slot T' z o' e'
    rw [g8] at e2; cases e2
    exact absurd g9 (nf _)
  refine ⟨I.lax hex hl k1 slot, ⟨⟨oe', vs', T', oT', ts', a0, g1, g2, g3, g4, g5, g7, g8, g9, g10, ?_, ?_⟩, fl.un, fl.new⟩, fun b o e => ?_⟩
  · cases q : H T' with
    | none => rfl
    | some o =>
      obtain ⟨u, e⟩ := I.there q
      rcases hl T' (inB u e) with z | z
      · exact absurd z noF
      · rw [z.1] at q; cases q
  · cases q : g.get? T' with
    | none => rfl
    | some o =>
      obtain ⟨u, e⟩ := hgs T' o q
      rcases List.mem_cons.mp (inB u e) with z | z
      · exact absurd z g7
      · rcases List.mem_cons.mp z with z | z
        · rw [z, gT] at q; cases q
        · exact absurd z noF
  · obtain ⟨u, e1⟩ := hgs b o e
    by_cases m : b ∈ frs X.stack
    · obtain ⟨sl, e2⟩ := slot b m u e1; exact ⟨_, e2⟩
    · have nin : b ∉ a :: T :: frs X.stack := fun z => by
        rcases List.mem_cons.mp z with z | z
        · rw [z, fl.new] at e; cases e
        · rcases List.mem_cons.mp z with z | z
          · rw [z, gT] at e; cases e
          · exact m z
      exact ⟨u, k1 b u (by rw [wipe_out nin]; exact e1)⟩
theorem fly_flying (I : Inv X pins σ H s) (fl : Fly g s.heap H a cls) : ∃ T a0, H T = none ∧ g.get? T = none ∧ Heap.FlyingW (wipe s.heap (a :: T :: frs X.stack)) X.stack a cls a0 s.heap := by
  obtain ⟨oe, vs, T, oT, ts, a0, h1, h2, h3, h4, h5, h6, h7, h8, h9, h10, h11⟩ := fl.ex
  exact ⟨T, a0, h10, h11, wipe_stays, wipe_in (by simp), funframes_base I.stack fun b hb => wipe_in (by simp [hb]), oe, vs, T, oT, ts, h1, ⟨h2, h3⟩, h4, h5, wipe_in (by simp), h6, h7, h8, h9⟩
theorem fly_note {M : Model} {Q : Unit → Shared → Prop} {E : Value → Shared → Prop} (I : Inv X pins σ H s) (hex : X.ex = []) (hst : X.stack = X.env :: X.outer) (hf : X.env.frame = some X.env.locals) (ah : Ahead X pins g) (fl : Fly g s.heap H a cls) (hgs : ∀ b o, g.get? b = some o → ∃ u, s.heap.get? b = some u)
    (hQ : ∀ h', Inv X pins σ H { s with heap := h' } → Fly g h' H a cls → (∀ b o, g.get? b = some o → ∃ u, h'.get? b = some u) → Q () { s with heap := h' }) :
    wpAny M X.A (noteFrame (.ref a) X.env) (fun _ s2 => wpAny M X.A (setFlight (.ref a) none) Q E s2) E s := by
  obtain ⟨T, a0, hT, gT, fw⟩ := fly_flying I fl
  have fw' := fw
  rw [hst] at fw'
  refine wpAny_looks_onW (by rw [← hst]; exact I.ok.frames) hf fw' fun h4 hh u4 => ?_
  refine wpAny_landsW hh fun h5 f5 u5 => ?_
  obtain ⟨i1, i2, i3⟩ := fly_again I hex ah fl hgs hT gT (by rw [hst]; exact f5) (u4.trans u5)
  exact hQ h5 i1 i2 i3
theorem fly_land {M : Model} {A : Around} {Q : Unit → Shared → Prop} {E : Value → Shared → Prop} (I : Inv X pins σ H s) (hex : X.ex = []) (ah : Ahead X pins g) (fl : Fly g s.heap H a cls) (hgs : ∀ b o, g.get? b = some o → ∃ u, s.heap.get? b = some u)
    (hQ : ∀ h', Inv X pins σ H { s with heap := h' } → Fly g h' H a cls → (∀ b o, g.get? b = some o → ∃ u, h'.get? b = some u) → Q () { s with heap := h' }) : wpAny M A (setFlight (.ref a) none) Q E s := by
  obtain ⟨T, a0, hT, gT, fw⟩ := fly_flying I fl
  refine lands_againW fw fun h5 f5 u5 => ?_
  obtain ⟨i1, i2, i3⟩ := fly_again I hex ah fl hgs hT gT f5 u5
  exact hQ h5 i1 i2 i3
end
end L2
namespace L2
open PySem PySem.Spec PyProof.Rows
theorem exc_obj {K : PySem.W.Frag} {h : Heap} {C : Addr} {bmB : List Value} {newId : String} (X : K.In h) (q : PySem.W.excIn K C bmB newId = true) :
    ∃ (bm : List Value) (N : Addr) (nm qn : Str) (bs : List Value) (hd : Bool) (sn : List Str) (sub : List Value) (ab : Bool) (col : Option Bool) (dd : Option Addr) (k0 k1 k2 k3 k5 : Option Value) (mN : Str → Option Value),
      h.get? C = some (excClassObj nm qn C N bs bm hd sn sub ab col dd k0 k1 k2 k3 k5 newId) ∧ h.Ns N mN ∧ mN "__init__" = none ∧ OwnTail h bmB bm := by
  unfold PySem.W.excIn at q
  split at q
  · rename_i dd cd sl ho
    split at q
    · rename_i C' bm k0 k1 k2 k3 n k5 hm hs
      simp only [Bool.and_eq_true, beq_iff_eq, Bool.not_eq_true'] at q
      obtain ⟨⟨⟨⟨⟨rfl, rfl⟩, hdel⟩, ht⟩, hok⟩, hni⟩ := q
      obtain ⟨nm, bs, mro, ns, qn, hd, sn, sub, ab, col, del⟩ := cd
      dsimp only at hm hdel hok hni
      subst hm hdel
      have hsl : sl = #[k0, k1, k2, k3, some (.builtin n), k5] := by
        obtain ⟨l⟩ := sl
        simp only at hs
        rw [hs]
      subst hsl
      exact ⟨bm, ns, nm, qn, bs, hd, sn, sub, ab, col, dd, k0, k1, k2, k3, k5, _, X _ _ ho, .of_isNs (PySem.W.isNs_of_in X hok), PySem.W.nsMap_none_of_in X hok hni, PySem.W.tail_of_in X ht⟩
    · cases q
  · cases q
def Throws (X : Cx) (E : XK) : Prop := ∀ (pins : List (Addr × Obj)) (σ : St) (H : Hp) (s : Shared) (a : Addr) (cls : Value) (h1 : Heap) (args : List Value), Inv X pins σ H s → Heap.MadeExcOf s.heap h1 a cls args → E cls none H → X.xe (.ref a) { s with heap := h1 }
def tRaise (E : XK) (cls : Value) (t : TA) : TS := fun _ σ H => t σ H fun vs H1 => vs.length ≤ sizeLine ∧ E cls none H1
theorem ps_raise {X : Cx} {E : XK} {C : Addr} {B Bn newId nid initId inN : String} {bmB bmN : List Value} {x : Str} {np cpos pos : Pos} {e : Expr} {es : List Expr} {t : TA} (Fn : ExcBaseFacts Bn newId inN bmN) (hBn : bmB.contains (.type Bn) = true) (F : ExcBaseFacts B nid initId bmB)
    (q : PySem.W.excIn X.K C bmB newId = true) (hc : X.calm = true) (thr : Throws X E) (hm : X.mg x = some (.ref C)) (ha : PA X (e :: es) t) (hg : Gl X x) (hdb : (x == ("__debug__" : Str)) = false)
    (he : starEach (e :: es) X.env = (false, eval e X.env) :: starEach es X.env) (hpl : (backTo cpos (starEach es X.env)).any (·.1) = false) :
    PS X (.Raise (some (.Call (.Name x np) (e :: es) [] cpos)) none pos) (tRaise E (.ref C) t) := by
  intro pins s σ H D I h
  obtain ⟨bm, N, nm, qn, bs, hd, sn, sub, ab, col, dd, k0, k1, k2, k3, k5, mN, hC, hN, hni, T⟩ := exc_obj I.mod.kin q
  refine wpAny_Raise_call_subU (C := C) (nm := nm) (q := qn) (N := N) (bs := bs) (bm := bm) (hdct := hd) (sn := sn) (sub := sub) (ab := ab) (col := col) (dd := dd) (k0 := k0) (k1 := k1) (k2 := k2) (k3 := k3) (k5 := k5)
    Fn hBn F (mN := mN) (T.hasType F.hasBase) (I.ok.hd hc) (by rw [he]; show (false || (backTo cpos (starEach es X.env)).any (·.1)) = false; rw [hpl]; rfl) hni (ld_glob I hg hm ⟨rfl, ?_⟩ hdb)
  have hap := ha cpos pins s σ H _ I h
  rw [he] at hap ⊢
  exact Calls.evalArgs_plain (thn hap fun us s1 ⟨vs, H1, I1, r, z, qE⟩ => ⟨rfl, by rw [← r.length]; exact z, I1.bk _ _ hC, hN.keeps I1.bk, T.keeps I1.bk, fun h' a hx => thr pins σ H1 s1 a (.ref C) h' us I1 hx qE⟩)
theorem throws1 {P : Program} {w : World} {K : PySem.W.Frag} {mg : Str → Option Value} {base : Heap} {N : List Str} {qual : Str} {scope : Scope} {f : Addr} {cd : Value} {A : Around} {outer : List Env} {s₀ : Shared} {H₀ : Hp} {E : XK} : Throws (cxOf (CX1 P w) P w K mg base N qual scope f cd A outer s₀ H₀ E) E :=
  fun pins σ H s a cls h1 args I hx q => thrown1 I hx q
end L2
namespace R
open PySem PySem.Spec PyProof.Rows L2
abbrev RXK := Value → RM → Prop
def UpE (K : PySem.W.Frag) (H : Hp) (E : RXK) (E0 : XK) : Prop := ∀ c M' H', E c M' → Ext H H' → View K H' M' → E0 c none H'
theorem UpE.ext {K : PySem.W.Frag} {H H' : Hp} {E : RXK} {E0 : XK} (h : UpE K H E E0) (e : Ext H H') : UpE K H' E E0 := fun c M' H2 q e2 v => h c M' H2 q (e.trans e2) v
theorem Un.ext0 {fs ex : List Addr} {H H' : Hp} {h h' : Heap} (u : Un fs ex H H' h h') : Ext H H' := ⟨u.tups, u.frzs⟩
abbrev RSpX := List RV → RM → RVK → RXK → Prop
def upSpX (K : PySem.W.Frag) (sp : RSpX) : Sp := fun vs H Q0 E0 => ∃ rs M Q E, Reps K H rs vs ∧ View K H M ∧ sp rs M Q E ∧ UpK K H Q Q0 ∧ UpE K H E E0
structure Wx (X : Cx) (E : RXK) (E0 : XK) : Prop where
  up : UpE X.K X.H₀ E E0
  pass : Passes (CX1 X.prog X.w) X E0
def rRaise (E : RXK) (C : Addr) (t : RTA) : RTS := fun _ σ M => t σ M fun rs M1 => rs.length ≤ sizeLine ∧ E (.ref C) M1
section
variable {X : Cx} {E : RXK} {E0 : XK} {C : Addr} {B Bn newId nid initId inN : String} {bmB bmN : List Value} {x : Str} {np p cpos pos : Pos} {e : Expr} {es : List Expr} {t : RTA} {k : Nat} {ps : List Str} {sp : RSpX}
theorem sraise (W : Wx X E E0) (thr : Throws X E0) (Fn : ExcBaseFacts Bn newId inN bmN) (hBn : bmB.contains (.type Bn) = true) (F : ExcBaseFacts B nid initId bmB)
    (q : PySem.W.excIn X.K C bmB newId = true) (hc : X.calm = true) (hm : X.mg x = some (.ref C)) (ha : RPA X (e :: es) t) (hg : Gl X x := by rfl) (hdb : (x == ("__debug__" : Str)) = false := by decide)
    (he : starEach (e :: es) X.env = (false, eval e X.env) :: starEach es X.env := by rfl) (hpl : (backTo cpos (starEach es X.env)).any (·.1) = false := by rfl) :
    RPS X (.Raise (some (.Call (.Name x np) (e :: es) [] cpos)) none pos) (rRaise E C t) := by
  intro pins s σ0 H D0 I h
  obtain ⟨σ, M, D, hs, hv, ht, hd⟩ := h
  refine ps_raise (E := E0) Fn hBn F q hc thr hm ha hg hdb he hpl pins s σ0 H D0 I ⟨σ, M, _, hs, hv, ht, fun rs M1 vs H1 q1 e1 v1 r1 => ⟨by rw [← r1.length]; exact q1.1, W.up _ M1 H1 q1.2 ((Un.ext0 I.base).trans e1) v1⟩⟩
structure RFnX (P : Program) (w : World) (K : PySem.W.Frag) (mg : Str → Option Value) (base : Heap) (k : Nat) (x : Str) (ps : List Str) (sp : RSpX) : Prop where
  ex : ∃ (f : Addr) (fd : FuncData), mg x = some (.ref f) ∧ PySem.W.keepIn K (.ref f) = true ∧ Binds K fd ps [] ∧ FnOk P w K mg base (CX1 P w) k f fd ps (upSpX K sp)
structure RInX (P : Program) (w : World) (K : PySem.W.Frag) (mg : Str → Option Value) (base : Heap) (C : Addr) (k : Nat) (ps : List Str) (sp : RSpX) : Prop where
  ex : ∃ (g : Addr) (fd : FuncData), Mk K C g ∧ Binds K fd ps [] ∧ FnOk P w K mg base (CX1 P w) k g fd ps (upSpX K sp)
def rCallX (sp : RSpX) (E : RXK) (t : RTA) : RTE := fun σ M Q => t σ M fun rs M1 => sp rs M1 Q E
theorem rcallX (W : Wx X E E0) (F : RFnX X.prog X.w X.K X.mg X.base k x ps sp) (hr : Room k X.A) (ha : RPA X (e :: es) t) (hg : Gl X x := by rfl) (hdb : (x == ("__debug__" : Str)) = false := by decide)
    (he : starEach (e :: es) X.env = (false, eval e X.env) :: starEach es X.env := by rfl) (hpl : (backTo pos (starEach es X.env)).any (·.1) = false := by rfl) : RPE X (.Call (.Name x p) (e :: es) [] pos) (rCallX sp E t) := by
  obtain ⟨f, fd, hm, hk, hb, F⟩ := F.ex
  intro pins s σ0 H Q0 I h
  obtain ⟨σ, M, Q, hs, hv, ht, hk'⟩ := h
  exact pe_call F hr hg hm hk hb .nil W.pass ha hdb he hpl pins s σ0 H Q0 I ⟨σ, M, _, hs, hv, ht, fun rs M1 vs H1 q e1 v1 r1 => ⟨rs, M1, Q, E, by rw [List.append_nil]; exact r1, v1, q, hk'.ext e1, W.up.ext ((Un.ext0 I.base).trans e1)⟩⟩
def rMakeX (C : Addr) (sp : RSpX) (E : RXK) (t : RTA) : RTE := fun σ M Q => t σ M fun rs M1 => ∀ a, M1 a = none → sp (.ref a :: rs) (put M1 a (.ins C [])) (fun v M2 => v = .non ∧ Q (.ref a) M2) E
theorem rmakeX (W : Wx X E E0) (F : RInX X.prog X.w X.K X.mg X.base C k ps sp) (hr : Room (k + 1) X.A) (hm : X.mg x = some (.ref C)) (ha : RPA X (e :: es) t) (hg : Gl X x := by rfl) (hdb : (x == ("__debug__" : Str)) = false := by decide)
    (he : starEach (e :: es) X.env = (false, eval e X.env) :: starEach es X.env := by rfl) (hpl : (backTo pos (starEach es X.env)).any (·.1) = false := by rfl) : RPE X (.Call (.Name x p) (e :: es) [] pos) (rMakeX C sp E t) := by
  obtain ⟨g, fd, hM, hb, F⟩ := F.ex
  intro pins s σ0 H Q0 I h
  obtain ⟨σ, M, Q, hs, hv, ht, hk⟩ := h
  refine pe_make hM F hr hg hm hb .nil W.pass ha hdb he hpl pins s σ0 H Q0 I ⟨σ, M, _, hs, hv, ht, fun rs M1 vs H1 q e1 v1 r1 a dx na nd ne => ?_⟩
  have ex1 : Ext H1 (upd H1 dx (.own a)) := Ext.new nd
  have na' : (upd H1 dx (.own a)) a = none := by rw [upd_ne (Ne.symm ne)]; exact na
  have ex2 : Ext H1 (upd (upd H1 dx (.own a)) a (.ins C dx [])) := ex1.trans (Ext.new na')
  refine ⟨.ref a :: rs, put M1 a (.ins C []), _, E, by rw [List.append_nil]; exact Reps.cons (by simp only [Rep]) (Reps.ext ex2 _ _ r1), (v1.new nd).newPut na' ⟨dx, [], rfl, rfl⟩, q a (v1.free na), fun rv M2 v H2 q2 e2 v2 r2 => ?_, W.up.ext (((Un.ext0 I.base).trans e1).trans ex2)⟩
  obtain ⟨rfl, q2⟩ := q2
  simp only [Rep] at r2
  exact ⟨r2, hk _ M2 _ H2 q2 ((e1.trans ex2).trans e2) v2 (by simp only [Rep])⟩
end
theorem wx1 {P : Program} {w : World} {K : PySem.W.Frag} {mg : Str → Option Value} {base : Heap} {N : List Str} {qual : Str} {scope : Scope} {f : Addr} {cd : Value} {A : Around} {outer : List Env} {s₀ : Shared} {H₀ : Hp} {E : RXK} {E0 : XK} (u : UpE K H₀ E E0) : Wx (cxOf (CX1 P w) P w K mg base N qual scope f cd A outer s₀ H₀ E0) E E0 :=
  ⟨u, pass1 fun _ _ _ h => h⟩
theorem rfnokX {P : Program} {w : World} {K : PySem.W.Frag} {mg : Str → Option Value} {base : Heap} {x qual : Str} {st : Stmt} {f : Addr} {fd : FuncData} {N ps : List Str} {k : Nat} {sp : RSpX} {t : RXK → RTS} (F : Fun K x qual st f fd) (S : FnScope N ps (defScope st))
    (len : ∀ rs M Q E, sp rs M Q E → rs.length = ps.length)
    (term : ∀ (cdv : Value) (A : Around) (outer : List Env) (s : Shared) (H : Hp) (E0 : XK) (E : RXK), UpE K H E E0 → Room k (A.deeper (envOfC qual (defScope st) s.heap.objs.size f cdv)) → RPSs (cxOf (CX1 P w) P w K mg base N qual (defScope st) f cdv A outer s H E0) (defBody st) (t E))
    (body : ∀ rs M Q E, sp rs M Q E → t E { nx := fun _ M' => Q .non M', rt := Q } (rstart N rs) M) : FnOk P w K mg base (CX1 P w) (k + 1) f fd ps (upSpX K sp) := by
  obtain ⟨oc, od, kV, doc, pm, an, cdv, ct, osl, rfl, lk, hcd⟩ := F.ex
  refine fn_of lk hcd S (fun vs H Q0 E0 h => ?_) fun A outer s H vs Q0 E0 hr h => ?_
  · obtain ⟨rs, M, Q, E, rr, hv, hq, hk, hE⟩ := h
    rw [← rr.length]; exact len rs M Q E hq
  · obtain ⟨rs, M, Q, E, rr, hv, hq, hk, hE⟩ := h
    refine ⟨_, term cdv A outer s H E0 E hE hr, rstart N rs, M, { nx := fun _ M' => Q .non M', rt := Q }, start_rep rr, hv, body rs M Q E hq, ⟨fun σ M' σ0 H' q e w r => hk .non M' .non H' q e w (by simp only [Rep]), hk, fun _ _ _ _ z => z.elim, fun _ _ _ _ z => z.elim⟩⟩
theorem RPS.nox {X : Cx} {st : Stmt} {t : RTS} (h : RPS X.nox st t) : RPS X st t := fun pins s σ H D I hw =>
  wpAny_mono (h pins s σ H D (I.wish _) hw) (fun _ _ q => q.unwish) fun _ _ z => False.elim z
end R
namespace L2
open PySem PySem.Spec PyProof.Rows
section
variable {X : Cx} {pins : List (Addr × Obj)} {σ : St} {H : Hp} {s : Shared} {a : Addr}
theorem name_goes {M : Model} {A : Around} {E : Value → Shared → Prop} {i : Nat} {x : Str} {pos : Pos} {Q : Unit → Shared → Prop} (I : Inv X pins σ H s) (hN : X.N.Nodup) (hi : X.N[i]? = some x) (hk : X.env.scope.names.lookup x = some .local)
    (h : ∀ s', Inv X pins (σ.set i none) H s' → Q () s') : wpAny M A (do bindName X.env x .none; unbindBehindTheSuite X.env x pos) Q E s := by
  obtain ⟨m, hn, hl⟩ := id I.loc
  have hcls : (X.env.scope.kind == .class || (X.env.scope.kind == .module && X.env.locals != X.env.globals)) = false := by rw [I.ok.kind]; rfl
  have hiσ : i < σ.length := by rw [I.len]; exact (List.getElem?_eq_some_iff.mp hi).1
  have cne := I.cne
  have tracked : ∀ {a : Addr} {h' : Heap}, (∃ o, s.heap.get? a = some o ∧ H a = none) → Heap.SameBut a s.heap h' → HOk X.prog X.w H h' := fun {a h'} ha hs b ob e => by
    obtain ⟨_, _, hfree⟩ := ha
    refine (I.hok b ob e).stay (fun c w' hc q => (hs.2 c ?_).trans q) (fun _ q => q) fun _ _ q => q
    rintro rfl
    rcases hc with rfl | hc
    · rw [hfree] at e; cases e
    · rw [hfree] at hc; cases hc
  refine wpAny_nameGoes_keeps hk hn hcls fun h' v hn' hs => ?_
  obtain ⟨oL, _, _, hoL, _⟩ := id hn
  refine h _ ⟨I.ok, I.os, I.bare, ⟨fun b o e n hb hx => ?_, fun b o e n hb hx => ?_, I.base.free, fun b o e hx => ?_, I.base.tups, I.base.frzs, I.base.tbls⟩, ⟨_, hn', fun j y v' e1 e2 e3 => ?_⟩, fun y c e => ?_, I.free, I.freeC, fun p hp => ?_, tracked ⟨oL, hoL, I.free⟩ hs, by simpa using I.len⟩
  · exact (hs.2 b (Nat.ne_of_lt (Nat.lt_of_lt_of_le (Heap.lt_size e) I.ok.above))).trans (I.base.keep b o e n hb hx)
  · obtain ⟨sl, e1⟩ := I.base.slot b o e n hb hx
    exact ⟨sl, (hs.2 b (Nat.ne_of_lt (Nat.lt_of_lt_of_le (Heap.lt_size e) I.ok.above))).trans e1⟩
  · obtain ⟨o', e1⟩ := I.base.there b o e hx
    exact ⟨o', (hs.2 b (Nat.ne_of_lt (Nat.lt_of_lt_of_le (Heap.lt_size e) I.ok.above))).trans e1⟩
  · by_cases hj : j = i
    · subst hj
      rw [List.getElem?_set_self hiσ] at e2
      cases e2
    · rw [List.getElem?_set_ne (Ne.symm hj)] at e2
      obtain ⟨u', r', q⟩ := hl j y v' e1 e2 e3
      refine ⟨u', r', ?_⟩
      rcases q with ⟨k, e⟩ | ⟨k, c, e, z⟩
      · refine .inl ⟨k, ?_⟩
        have : y ≠ x := fun e => hj (nodup_ix hN e1 (e ▸ hi))
        simp [this, e]
      · exact .inr ⟨k, c, e, z.sameBut hs (cne y c e)⟩
  · obtain ⟨w', z⟩ := I.cell y c e
    exact ⟨w', z.sameBut hs (cne y c e)⟩
  · obtain ⟨e, n, ne, nf, d⟩ := I.pin p hp
    exact ⟨(hs.2 p.1 ne).trans e, n, ne, nf, d⟩
end
def liftH (H₀ H : Hp) : Hp := fun b => match H b with
  | some (.tup xs) => some (.tup xs)
  | some (.frz o u) => some (.frz o u)
  | _ => H₀ b
theorem liftH_none {H₀ H : Hp} {b : Addr} (h : H b = none) : liftH H₀ H b = H₀ b := by unfold liftH; rw [h]
theorem liftH_of {H₀ H : Hp} {b : Addr} (h : liftH H₀ H b = none) : H₀ b = none := by
  unfold liftH at h
  split at h
  · cases h
  · cases h
  · exact h
abbrev cxB (X : Cx) (H : Hp) (pn : List (Addr × Obj)) (xe : Value → Shared → Prop) : Cx := { X with H₀ := liftH X.H₀ H, pn := pn, xe := xe }
abbrev cxH (X : Cx) (a : Addr) (oe : Obj) (pn : List (Addr × Obj)) : Cx := { X with A := X.A.mark (some (.ref a)), calm := false, pn := pn ++ [(a, oe)], xe := fun _ _ => False }
section
variable {X : Cx} {pins : List (Addr × Obj)} {σ : St} {H : Hp} {s : Shared} {a : Addr} {xe : Value → Shared → Prop}
theorem Inv.toB (I : Inv X pins σ H s) (hex : X.ex = []) (xe : Value → Shared → Prop) : Inv (cxB X H (X.pn ++ pins) xe) [] σ H s := by
  have hok : (cxB X H (X.pn ++ pins) xe).Ok := ⟨I.ok.mod, I.ok.kind, I.ok.glob, I.ok.blt, I.ok.above, I.ok.inj, I.ok.has, I.ok.cab, I.ok.hd, I.ok.frames, I.ok.stk, I.ok.exf, fun b o e => ⟨(I.ok.bs b o e).1, by
      show liftH X.H₀ H b = none
      rw [liftH_none (I.bs b o e).2]; exact (I.ok.bs b o e).2⟩, I.ok.bsz, I.ok.noex, I.ok.exfs, I.ok.funs, fun b hb => by
      show liftH X.H₀ H b = none
      obtain ⟨_, o, ho, _⟩ := I.ok.funs.mem hb
      rw [liftH_none (I.base.free b o ho (I.ok.frf b hb) fun z => I.ok.exfs b z hb)]; exact I.ok.frf b hb⟩
  refine ⟨hok, I.os, I.bare, ⟨fun b o e n => I.base.keep b o e (liftH_of n), fun b o e n => I.base.slot b o e (liftH_of n), fun b o e n => I.base.free b o e (liftH_of n), I.base.there, fun b xs e => ?_, fun b o u e => ?_, fun b ps e => ?_⟩, I.loc, I.cell, I.free, I.freeC, fun p hp => I.pin p (by simpa using hp), I.hok, I.len⟩
  · have e' : liftH X.H₀ H b = some (.tup xs) := e
    unfold liftH at e'
    split at e'
    · rename_i q; rw [q]; exact e'
    · cases e'
    · exact I.base.tups b xs e'
  · have e' : liftH X.H₀ H b = some (.frz o u) := e
    unfold liftH at e'
    split at e'
    · cases e'
    · rename_i q; rw [q]; exact e'
    · exact I.base.frzs b o u e'
  · have e' : liftH X.H₀ H b = some (.tbl ps) := e
    unfold liftH at e'
    split at e'
    · cases e'
    · cases e'
    · exact I.base.tbls b ps e'
theorem Inv.ofB {pins' : List (Addr × Obj)} {σs : St} {Hs : Hp} {ss : Shared} (I0 : Inv X pins σs Hs ss) (hex : X.ex = []) (I : Inv (cxB X Hs (X.pn ++ pins) xe) pins' σ H s) : Inv X pins σ H s := by
  have nex : ∀ b : Addr, b ∉ X.ex := fun b z => by rw [hex] at z; cases z
  have lf : ∀ b o, X.s₀.heap.get? b = some o → X.H₀ b = none → liftH X.H₀ Hs b = none := fun b o e n => by
    rw [liftH_none (I0.base.free b o e n (nex b))]; exact n
  refine ⟨I0.ok, I.os, I.bare, ⟨fun b o e n => I.base.keep b o e (lf b o e n), fun b o e n => I.base.slot b o e (lf b o e n), fun b o e n => I.base.free b o e (lf b o e n), I.base.there, fun b xs e => ?_, fun b o u e => ?_, fun b ps e => ?_⟩, I.loc, I.cell, I.free, I.freeC, fun p hp => I.pin p (List.mem_append_left _ hp), I.hok, I.len⟩
  · refine I.base.tups b xs ?_
    show liftH X.H₀ Hs b = _
    unfold liftH; rw [I0.base.tups b xs e]
  · refine I.base.frzs b o u ?_
    show liftH X.H₀ Hs b = _
    unfold liftH; rw [I0.base.frzs b o u e]
  · refine I.base.tbls b ps ?_
    show liftH X.H₀ Hs b = _
    obtain ⟨m, em⟩ := I0.base.tbls b ps e
    unfold liftH; rw [em]; exact e
theorem Inv.toH {oe : Obj} (I : Inv X pins σ H s) (ha : s.heap.get? a = some oe) (hn : H a = none) (hL : a ≠ X.env.locals) (hf : a ∉ X.fs) (hc : ∀ v, oe.data ≠ .cell v) : Inv (cxH X a oe (X.pn ++ pins)) [] σ H s :=
  ⟨⟨I.ok.mod, I.ok.kind, I.ok.glob, I.ok.blt, I.ok.above, I.ok.inj, I.ok.has, I.ok.cab, fun z => (by cases z), I.ok.frames, I.ok.stk, I.ok.exf, I.ok.bs, I.ok.bsz, I.ok.noex, I.ok.exfs, I.ok.funs, I.ok.frf⟩,
    I.os, I.bare, I.base, I.loc, I.cell, I.free, I.freeC, fun p hp => by
      rw [List.append_nil] at hp
      rcases List.mem_append.mp hp with z | z
      · exact I.pin p z
      · have e : p = (a, oe) := by simpa using z
        subst e
        exact ⟨ha, hn, hL, hf, hc⟩, I.hok, I.len⟩
theorem Inv.ofH {oe : Obj} (ok : X.Ok) (I : Inv (cxH X a oe (X.pn ++ pins)) [] σ H s) : Inv X pins σ H s :=
  ⟨ok, I.os, I.bare, I.base, I.loc, I.cell, I.free, I.freeC, fun p hp => I.pin p (by simp only [List.append_nil]; exact List.mem_append_left _ hp), I.hok, I.len⟩
end
end L2
namespace R
open PySem PySem.Spec PyProof.Rows L2
def endsH (i : Nat) (D : RD) : RD := { nx := fun σ M => D.nx (σ.set i none) M, rt := D.rt, bk := fun σ M => D.bk (σ.set i none) M, ct := fun σ M => D.ct (σ.set i none) M }
def rTry (n i : Nat) (C : Value) (tb : RXK → RTS) (ts : Addr → RTS) : RTS := fun D σ M =>
  tb (fun c M' => c = C ∧ ∀ a, ts a (endsH i D) ((List.replicate n none).set i (some (.ref a))) M') D σ M
theorem repSt_setNone {K : PySem.W.Frag} {H : Hp} {σ : RSt} {σ0 : L2.St} (h : RepSt K H σ σ0) (i : Nat) : RepSt K H (σ.set i none) (σ0.set i none) := by
  refine ⟨by simp [h.1], fun j r' q => ?_⟩
  by_cases hj : i = j
  · subst hj
    rw [List.getElem?_set] at q
    split at q
    · split at q
      · cases q
      · cases q
    · rename_i z; exact absurd rfl z
  · rw [List.getElem?_set_ne hj] at q
    obtain ⟨w, e1, h1⟩ := h.2 j r' q
    exact ⟨w, by rw [List.getElem?_set_ne hj]; exact e1, h1⟩
theorem stry {X : Cx} {i : Nat} {n g : Str} {G : Addr} {C : Value} {np hpos pos : Pos} {body : List Stmt} {b₀ : Stmt} {suite : List Stmt} {tb : RXK → RTS} {ts : Addr → RTS} (hex : X.ex = []) (hst : X.stack = X.env :: X.outer) (hf : X.env.frame = some X.env.locals) (hN : X.N.Nodup) (hi : X.N[i]? = some n) (hloc : X.env.scope.names.lookup n = some .local)
    (hm : X.mg g = some (.ref G)) (exm : PySem.W.exmOne X.K C (.ref G) = some true)
    (hb : ∀ H pn xe E E0, Wx (cxB X H pn xe) E E0 → RPSs (cxB X H pn xe) body (tb E))
    (hh : ∀ a oe pn, oe.cls = C → RPSs (cxH X a oe pn) (b₀ :: suite) (ts a)) (hgl : Gl X g := by rfl) (hdb : (g == ("__debug__" : Str)) = false := by decide) :
    RPS X (.Try body [.ExceptHandler (some (.Name g np)) (some n) (b₀ :: suite) hpos] [] [] pos) (rTry X.N.length i C tb ts) := by
  intro pins s σ0 H D0 I h
  obtain ⟨σ, M, D, hs, hv, ht, hd⟩ := h
  let E : RXK := fun c M' => c = C ∧ ∀ a, ts a (endsH i D) ((List.replicate X.N.length none).set i (some (.ref a))) M'
  let E0 : XK := fun c _ H' => ∃ M', E c M' ∧ Ext H H' ∧ View X.K H' M'
  let xe : Value → Shared → Prop := fun e s' => ∃ σ' H' a g, e = .ref a ∧ Inv X pins σ' H' s' ∧ Ahead X pins g ∧ Fly g s'.heap H' a C ∧ (∀ b o, g.get? b = some o → ∃ u, s'.heap.get? b = some u) ∧ ∃ M', E C M' ∧ Ext H H' ∧ View X.K H' M'
  have extL : ∀ {H'}, Ext (liftH X.H₀ H) H' → Ext H H' := fun {H'} e => ⟨fun b xs q => e.tups b xs (by unfold liftH; rw [q]), fun b o u q => e.frzs b o u (by unfold liftH; rw [q])⟩
  have W : Wx (cxB X H (X.pn ++ pins) xe) E E0 := by
    refine ⟨fun c M' H' q e v => ⟨M', q, extL e, v⟩, fun pins' σ' H' s' e s'' I' hx => ?_⟩
    obtain ⟨a, cls, H'', rfl, os, bare, un, hok, fl, M', q, e1, v1⟩ := hx
    obtain ⟨rfl, q2⟩ := id q
    have I1 := Inv.ofB I hex I'
    exact ⟨σ', H'', a, s'.heap, rfl, I1.call' (ch := []) os un hok bare (fun b z => absurd z (by simp)), I1.ahead hex, fl, fun b o e => un.there b o e List.not_mem_nil, M', q, e1, v1⟩
  have hbody := hb H (X.pn ++ pins) xe E E0 W [] s σ0 H D0 (I.toB hex xe) ⟨σ, M, D, hs, hv, ht, hd⟩
  refine wpAny_Try_except (wpAny_mono hbody (fun f s1 h1 => ?_) fun e s1 h1 => ?_)
  · cases f with
    | next =>
      obtain ⟨σ', H', I', q⟩ := h1
      refine wpAny_execs_nil ?_
      exact ⟨σ', H', Inv.ofB I hex I', q⟩
    | brk => obtain ⟨σ', H', I', q⟩ := h1; exact ⟨σ', H', Inv.ofB I hex I', q⟩
    | cont => obtain ⟨σ', H', I', q⟩ := h1; exact ⟨σ', H', Inv.ofB I hex I', q⟩
    | ret u => obtain ⟨v, σ', H', I', r, q⟩ := h1; exact ⟨v, σ', H', Inv.ofB I hex I', r, q⟩
  · obtain ⟨σ1, H1, a, g0, rfl, I1, ah, fl, hgs, M1, ⟨_, q⟩, e1, v1⟩ := h1
    refine fly_note I1 hex hst hf ah fl hgs fun h2 I2 fl2 hgs2 => ?_
    have pinOk : ∀ {σ2 : L2.St} {s2 : Shared}, Inv X pins σ2 H1 s2 → Fly g0 s2.heap H1 a C → ∃ oe, s2.heap.get? a = some oe ∧ oe.cls = C ∧ Inv (cxH X a oe (X.pn ++ pins)) [] σ2 H1 s2 := fun {σ2 s2} J f => by
      obtain ⟨oe, vs, T, oT, ts', a0, f1, f2, f3, f4, _⟩ := f.ex
      refine ⟨oe, f1, f2, J.toH f1 f.un (Ne.symm (ah.ne f.new).2.2.2) (fun z => ?_) fun v z => ?_⟩
      · obtain ⟨_, o', e', nf⟩ := J.funs.mem z
        rw [f1] at e'; cases e'
        exact nf _ f4
      · rw [f4] at z; cases z
    obtain ⟨oe, ha, hcls, I3⟩ := pinOk I2 fl2
    refine wpAny_handleBy_cons (codeAny_handlers_test (ld_glob (X := cxH X a oe (X.pn ++ pins)) I3 hgl hm ?_ hdb)) (by intro z; cases z)
    have LT : PySem.W.Looks (model X.prog X.w) h2 (typeOf (.ref a)) C := hcls ▸ (PySem.W.Looks.ld ha).andThen .now
    obtain ⟨h1', g1', d1', t1', o1'⟩ := s1
    refine (PySem.W.exm_one I3.kIn LT exm).at ?_
    show codeAny _ _ (.handlers (.ref a) [.ExceptHandler none (some n) (b₀ :: suite) hpos] X.env) _ _
    refine codeAny_handlers_suite_as (fly_land I2 hex ah fl2 hgs2 fun h5 I5 fl5 _ => ?_)
    have I5w := I5.weak (σ' := List.replicate X.N.length none) (by rw [List.length_replicate]; exact I5.len.symm) (fun j v z => by
      rw [List.getElem?_replicate] at z
      split at z <;> cases z)
    obtain ⟨oe5, ha5, hcls5, I6⟩ := pinOk I5w fl5
    refine store_ok (X := cxH X a oe5 (X.pn ++ pins)) (v := .ref a) I6 hN hi (.inl hloc) rfl (fun s6 I7 => ?_) (.inr hloc)
    have hd1 := hd.ext e1
    have rep0 : RepSt X.K H1 (List.replicate X.N.length none) (List.replicate X.N.length none) := ⟨by simp, fun j r z => by
      rw [List.getElem?_replicate] at z
      split at z <;> cases z⟩
    refine wpAny_mono (hh a oe5 _ hcls5 [] s6 _ H1 { nx := fun σ H => D0.nx (σ.set i none) H, rt := D0.rt, bk := fun σ H => D0.bk (σ.set i none) H, ct := fun σ H => D0.ct (σ.set i none) H } I7
      ⟨_, M1, endsH i D, RepSt.set rep0 (r := .ref a) (by simp only [Rep]) i, v1, q a,
        ⟨fun σ M σ0 H' q e v r => hd1.nx _ M _ H' q e v (repSt_setNone r i), hd1.rt, fun σ M σ0 H' q e v r => hd1.bk _ M _ H' q e v (repSt_setNone r i), fun σ M σ0 H' q e v r => hd1.ct _ M _ H' q e v (repSt_setNone r i)⟩⟩) (fun f s7 h7 => ?_) fun _ _ z => z.elim
    cases f with
    | next =>
      obtain ⟨σ', H', I', q⟩ := h7
      exact name_goes (Inv.ofH I.ok I') hN hi hloc fun s' J => ⟨_, H', J, q⟩
    | brk =>
      obtain ⟨σ', H', I', q⟩ := h7
      exact name_goes (Inv.ofH I.ok I') hN hi hloc fun s' J => ⟨_, H', J, q⟩
    | cont =>
      obtain ⟨σ', H', I', q⟩ := h7
      exact name_goes (Inv.ofH I.ok I') hN hi hloc fun s' J => ⟨_, H', J, q⟩
    | ret u =>
      obtain ⟨v, σ', H', I', r, q⟩ := h7
      exact name_goes (Inv.ofH I.ok I') hN hi hloc fun s' J => ⟨v, _, H', J, r, q⟩
end R
namespace R
open PySem PySem.Spec PyProof.Rows L2
def refsOf : List RV → Option (List Value)
  | [] => some []
  | .ref a :: r => (refsOf r).map (.ref a :: ·)
  | _ => none
def isxK (K : PySem.W.Frag) (C : Addr) : RV → Option Bool
  | .ref D => PySem.W.kitOne K (.ref C) (.ref D)
  | .ty T => PySem.W.kitOne K (.ref C) (.type T)
  | .tup ds => (refsOf ds).bind (PySem.W.kitAny K (.ref C))
  | _ => none
def rIsx (K : PySem.W.Frag) (a C : Addr) : List RV → RM → RVK → Prop := fun rs M Q => match rs with
  | [.ref b, y] => b = a ∧ (match isxK K C y with | some v => Q (.bl v) M | none => False)
  | _ => False
theorem refs_vals {K : PySem.W.Frag} {H : Hp} : ∀ {ds : List RV} {vs : List V} {us ws : List Value}, refsOf ds = some ws → Reps K H ds vs → Vals vs us → us = ws
  | [], vs, us, ws, e, r, v => by
    cases e
    simp only [Reps] at r
    subst r
    cases v; rfl
  | d :: ds, vs, us, ws, e, r, v => by
    cases d with
    | ref a =>
      simp only [Reps] at r
      obtain ⟨x, t, rfl, h1, h2⟩ := r
      simp only [Rep] at h1
      subst h1
      cases v with
      | cons q1 q2 =>
        unfold refsOf at e
        cases eq : refsOf ds with
        | none => rw [eq] at e; cases e
        | some w' =>
          rw [eq] at e
          cases e
          cases q1
          rw [refs_vals eq h2 q2]
    | _ => cases e
section
variable {X : Cx} {a C : Addr} {oe : Obj}
theorem cisx (hp : (a, oe) ∈ X.pn) (hc : oe.cls = .ref C) (hx : PySem.W.xcOk X.K C = true) : CallR X (.builtin "isinstance") (upC X.K (rIsx X.K a C)) := by
  intro pins s σ H xs us Q0 I rl h
  obtain ⟨rs, M, Q, rr, hv, hq, hk⟩ := h
  unfold rIsx at hq
  split at hq
  · rename_i b y
    obtain ⟨rfl, hq⟩ := hq
    obtain ⟨v, w, rfl, r1, r2⟩ := rr.two
    obtain ⟨u, u', rfl, w1, w2⟩ := vals2 rl
    simp only [Rep] at r1
    subst r1
    cases (show u = Value.ref b from w1)
    have at_ : PySem.W.ExAt s.heap b C := ⟨oe, (I.pin _ (List.mem_append_left _ hp)).1, hc⟩
    cases e : isxK X.K C y with
    | none => rw [e] at hq; exact hq.elim
    | some v =>
      rw [e] at hq
      have fin : ∀ tk, EP X pins σ Q0 (.bool v) { s with toks := tk } := fun tk => ⟨.bl v, H, I.tok tk, rfl, hk _ M _ H hq (.refl H) hv (by simp only [Rep])⟩
      cases y with
      | ref D =>
        simp only [Rep] at r2
        subst r2
        cases (show u' = Value.ref D from w2)
        exact PySem.W.kia_one (PySem.W.kitx_exc hx) I.kIn at_ e (fun z => nomatch z) fin
      | ty T =>
        simp only [Rep] at r2
        subst r2
        cases (show u' = Value.type T from w2)
        exact PySem.W.kia_one (PySem.W.kitx_exc hx) I.kIn at_ e (fun z => nomatch z) fin
      | tup ds =>
        simp only [Rep] at r2
        obtain ⟨p, vs, rfl, hp', hr⟩ := r2
        cases (show u' = Value.ref p from w2)
        obtain ⟨its, vi, ⟨o, h1, h2, n, h3⟩, _⟩ := I.tuple hp'
        have e' : (refsOf ds).bind (PySem.W.kitAny X.K (.ref C)) = some v := e
        cases eq : refsOf ds with
        | none => rw [eq] at e'; cases e'
        | some ws =>
          rw [eq] at e'
          have := refs_vals eq hr vi
          subst this
          obtain ⟨oc, od, oda, osl⟩ := o
          dsimp only at h2 h3
          subst h2 h3
          exact PySem.W.kia_tup (PySem.W.kitx_exc hx) I.kIn at_ h1 e' (fun z => nomatch z) fin
      | _ => cases e
  · exact hq.elim
theorem rgc {x : Str} {D : Addr} {pos : Pos} (hm : X.mg x = some (.ref D)) (hg : Gl X x := by rfl) (hd : (x == ("__debug__" : Str)) = false := by decide) : RPE X (.Name x pos) (rC (.ref D)) :=
  rglob hm (v := .ref D) rfl (fun H => by simp only [Rep]) hg hd
theorem bt_ValueError : bootBuiltins "ValueError" = some (.type "ValueError") := by decide +kernel
theorem rty_ValueError {pos : Pos} (hm : X.mg "ValueError" = none) (hg : Gl X "ValueError" := by rfl) : RPE X (.Name "ValueError" pos) (rC (.ty "ValueError")) := rbltn hm bt_ValueError (v := .ty "ValueError") rfl (fun H => by simp only [Rep]) hg
theorem rmakeF0 {x : Str} {p pos : Pos} {k : Nat} {ps : List Str} {sp : RSp} (F : RIn X.prog X.w X.K X.mg X.base C k ps sp) (hr : Room (k + 1) X.A) (hm : X.mg x = some (.ref C)) (hg : Gl X x := by rfl) (hdb : (x == ("__debug__" : Str)) = false := by decide) : RPE X (.Call (.Name x p) [] [] pos) (rMake C sp rNil) := by
  obtain ⟨g, fd, hM, hb, F⟩ := F.ex
  refine PE.imp (pe_make0 hM F hr hg hm hb .nil pass0 hdb) fun σ0 H Q0 h => ?_
  obtain ⟨σ, M, Q, hs, hv, ht, hk⟩ := h
  intro a dx na nd ne
  have ex1 : Ext H (upd H dx (.own a)) := Ext.new nd
  have na' : (upd H dx (.own a)) a = none := by rw [upd_ne (Ne.symm ne)]; exact na
  have ex2 : Ext H (upd (upd H dx (.own a)) a (.ins C dx [])) := ex1.trans (Ext.new na')
  refine ⟨[.ref a], put M a (.ins C []), _, Reps.cons (by simp only [Rep]) Reps.nil, (hv.new nd).newPut na' ⟨dx, [], rfl, rfl⟩, ht a (hv.free na), fun rv M2 v H2 q2 e2 v2 r2 => ?_⟩
  obtain ⟨rfl, q2⟩ := q2
  simp only [Rep] at r2
  exact ⟨r2, hk _ M2 _ H2 q2 (ex2.trans e2) v2 (by simp only [Rep])⟩
end
end R
namespace R
open PySem PySem.Spec PyProof.Rows L2
def It0 (K : PySem.W.Frag) (l : Addr) : It := ⟨fun _ _ => False, fun _ _ _ _ => False, fun _ H => SqL K H l []⟩
structure EnTn (h : Heap) (e it l : Addr) (n : Nat) : Prop where
  zero : n = 0
  en : IsEnum h e it 0 .none
  it1 : h.IsListIter it l 0
theorem turn_enum0 {P : Program} {w : World} {K : PySem.W.Frag} {tg : Expr} {e it l : Addr} (hne : e ≠ it) : Turn P w K tg (It0 K l) [e, it] e (fun n h => EnTn h e it l n) where
  mem := by simp
  obj := fun n h st b hb => by
    obtain ⟨_, q1, ⟨o2, q2, _, d2⟩⟩ := st
    simp only [List.mem_cons, List.not_mem_nil, or_false] at hb
    rcases hb with rfl | rfl
    · exact ⟨_, q1, fun v e => by cases e⟩
    · exact ⟨o2, q2, fun v e => by rw [d2] at e; cases e⟩
  keep := fun n h h' st kp => by
    obtain ⟨z, q1, q2⟩ := st
    exact ⟨z, kp _ (by simp) _ q1, q2.at fun o e => kp _ (by simp) o e⟩
  item := fun X _ _ _ _ i pins s σ H E _ _ _ hg => hg.elim
  done := by
    intro X hP hw hK hc n pins s σ H E I hf st hg
    subst hP hw hK
    obtain ⟨hn, q1, q2⟩ := st
    subst hn
    obtain ⟨its, rv, p, hz⟩ := I.list hg
    cases rv
    refine wpAny_pyNext_enum_end (i := 0) (I.ok.hd hc) q1 q2 p.isList rfl fun h' ex => ⟨rfl, ?_⟩
    exact turnedL (h' := h') (t' := s.toks) (its := [it]) I (fun b o hb e => ex b o (fun z => hb (by simp [z])) e) fun b hb => hf b (by simp at hb ⊢; exact .inr hb)
  self := fun A n s Q E st h => wpAny_pyIter_enum st.en h
def eRs (Q : List RV → RM → Prop) : List RV → RM → Prop := fun rs M2 => match rs with
  | [.ls []] => Q [] M2
  | _ => False
def rItE (t : RTE) : RTI := fun σ M Q => rCons t rNil σ M (eRs Q)
def kItE (Q : List RV → RM → Prop) : RVK := fun y M2 => eRs Q [y] M2
theorem do_itE {t : RTE} {σ : RSt} {M : RM} {Q : List RV → RM → Prop} (h : t σ M (kItE Q)) : rItE t σ M Q := h
theorem do_kite {M : RM} {Q : List RV → RM → Prop} (h : Q [] M) : kItE Q (.ls []) M := h
theorem ienum0 {X : Cx} {tg a : Expr} {t : RTE} {p pos : Pos} (hm : X.mg "enumerate" = none) (ha : RPE X a t) (hgl : Gl X "enumerate" := by rfl)
    (hst : starEach [a] X.env = [(false, eval a X.env)] := by rfl) (he1 : starEach [a] X.env = (false, eval a X.env) :: starEach [] X.env := by rfl) : RPI X tg (.Call (.Name "enumerate" p) [a] [] pos) (rItE t) := by
  intro pins s σ0 H R I h
  obtain ⟨σ, M, Q, hs, hv, ht, hk⟩ := h
  have args : RPA X [a] (rCons t rNil) := acons ha anil he1
  refine Call_ (ld_blt I hgl hm boot_enumerate (PyProof.Rows.callWith_type1 (thn (args pos pins s σ0 H (fun vs H1 => ∃ M1, Reps X.K H1 [.ls []] vs ∧ Q [] M1 ∧ Ext H H1 ∧ View X.K H1 M1) I ⟨σ, M, _, hs, hv, ht, fun rs M1 vs H1 q e1 v1 r1 => ?_⟩) fun us s1 q1 => ?_) hst rfl))
  · unfold eRs at q
    split at q
    · exact ⟨M1, r1, q, e1, v1⟩
    · exact q.elim
  · obtain ⟨vs, H1, I1, rv, M1, rr, q, e1, v1⟩ := q1
    simp only [Reps, Rep] at rr
    obtain ⟨v, r, rfl, ⟨l, ws, rfl, hf, hr⟩, rfl⟩ := rr
    subst hr
    obtain ⟨u1, us1, rfl, q1, rv⟩ := Vals.cons_inv rv
    cases rv
    cases q1
    obtain ⟨its, vv, pl, z1⟩ := I1.list hf.sq
    refine call_enumerate_list pl.isList fun h' he hit hsz hk' => ?_
    have I2 : Inv X pins σ0 H1 { s1 with heap := h' } := I1.kept (t' := s1.toks) hk'
    refine wpAny_pyIter_enum he ⟨s1.heap.objs.size + 1, _, _, It0 X.K l, H1, rfl, I2, turn_enum0 (Nat.succ_ne_self _), ⟨rfl, he, hit⟩, fun b hb => ?_, hk _ M1 _ H1 q e1 v1 ⟨fun i H e x hx => by simp at hx, fun i H e hi => (hf.ext e).sq⟩⟩
    have hge : s1.heap.objs.size ≤ b := by
      simp only [List.mem_cons, List.not_mem_nil, or_false] at hb
      rcases hb with q | q <;> rw [q] <;> first | exact Nat.le_add_right _ _ | exact Nat.le_refl _
    exact I1.fpOk hge (I1.hok.fresh hge)
theorem do_makeX {C : Addr} {sp : RSpX} {E : RXK} {t : RTA} {σ : RSt} {M : RM} {Q : RVK} (h : t σ M fun rs M1 => ∀ a, M1 a = none → sp (.ref a :: rs) (put M1 a (.ins C [])) (fun v M2 => v = .non ∧ Q (.ref a) M2) E) : rMakeX C sp E t σ M Q := h
theorem do_callX {sp : RSpX} {E : RXK} {t : RTA} {σ : RSt} {M : RM} {Q : RVK} (h : t σ M fun rs M1 => sp rs M1 Q E) : rCallX sp E t σ M Q := h
theorem do_raise {E : RXK} {C : Addr} {t : RTA} {D : RD} {σ : RSt} {M : RM} (h : t σ M fun rs M1 => rs.length ≤ sizeLine ∧ E (.ref C) M1) : rRaise E C t D σ M := h
def tryBody : Stmt → List Stmt
  | .Try b _ _ _ _ => b
  | _ => []
def tryHand : Stmt → List Stmt
  | .Try _ (.ExceptHandler _ _ b _ :: _) _ _ _ => b
  | _ => []
end R
namespace R
open PySem PySem.Spec PyProof.Rows L2
theorem do_try {n i : Nat} {C : Value} {tb : RXK → RTS} {ts : Addr → RTS} {D : RD} {σ : RSt} {M : RM} (h : tb (fun c M' => c = C ∧ ∀ a, ts a (endsH i D) ((List.replicate n none).set i (some (.ref a))) M') D σ M) : rTry n i C tb ts D σ M := h
theorem do_isx {K : PySem.W.Frag} {a C : Addr} {y : RV} {v : Bool} {M : RM} {Q : RVK} (e : isxK K C y = some v) (h : Q (.bl v) M) : rIsx K a C [.ref a, y] M Q := by
  refine ⟨rfl, ?_⟩
  rw [e]; exact h
end R
namespace R
open PySem PySem.Spec PyProof.Rows L2
theorem cisxK {X : Cx} {K : PySem.W.Frag} {a C : Addr} {oe : Obj} (hK : X.K = K) (hp : (a, oe) ∈ X.pn) (hc : oe.cls = .ref C) (hx : PySem.W.xcOk K C = true) : CallR X (.builtin "isinstance") (upC X.K (rIsx K a C)) := by
  subst hK; exact cisx hp hc hx
theorem stryN {X : Cx} {m i : Nat} {n g : Str} {G : Addr} {C : Value} {np hpos pos : Pos} {body : List Stmt} {b₀ : Stmt} {suite : List Stmt} {tb : RXK → RTS} {ts : Addr → RTS} (hm' : X.N.length = m) (hex : X.ex = []) (hst : X.stack = X.env :: X.outer) (hf : X.env.frame = some X.env.locals) (hN : X.N.Nodup) (hi : X.N[i]? = some n) (hloc : X.env.scope.names.lookup n = some .local)
    (hm : X.mg g = some (.ref G)) (exm : PySem.W.exmOne X.K C (.ref G) = some true)
    (hb : ∀ H pn xe E E0, Wx (cxB X H pn xe) E E0 → RPSs (cxB X H pn xe) body (tb E))
    (hh : ∀ a oe pn, oe.cls = C → RPSs (cxH X a oe pn) (b₀ :: suite) (ts a)) (hgl : Gl X g := by rfl) (hdb : (g == ("__debug__" : Str)) = false := by decide) :
    RPS X (.Try body [.ExceptHandler (some (.Name g np)) (some n) (b₀ :: suite) hpos] [] [] pos) (rTry m i C tb ts) := by
  subst hm'; exact stry hex hst hf hN hi hloc hm exm hb hh hgl hdb
end R
namespace R
open PySem PySem.Spec PyProof.Rows L2
section
variable {X : Cx}
def rMin2 : List RV → RM → RVK → Prop := fun rs M Q => match rs with
  | [.int i, .int j] => Q (.int (if j < i then j else i)) M
  | _ => False
theorem cmin (hc : X.calm = true) : CallR X (.builtin "min") (upC X.K rMin2) := by
  intro pins s σ H xs us Q0 I rl h
  obtain ⟨rs, M, Q, rr, hv, hq, hk⟩ := h
  match rs, hq with
  | [.int i, .int j], hq =>
    simp only [Reps, Rep] at rr
    obtain ⟨v, r, rfl, rfl, v', r', rfl, rfl, rfl⟩ := rr
    exact call_min2 hc pins s σ H _ us Q0 I rl ⟨i, j, rfl, hk _ M _ H hq (.refl H) hv (by simp only [Rep])⟩
theorem bt_min : bootBuiltins "min" = some (.builtin "min") := by decide +kernel
theorem do_min2 {i j : Int} {M : RM} {Q : RVK} (h : Q (.int (if j < i then j else i)) M) : rMin2 [.int i, .int j] M Q := h
def rIntB : List RV → RM → RVK → Prop := fun rs M Q => match rs with
  | [.bl b] => Q (.int (if b then 1 else 0)) M
  | _ => False
theorem cintB : CallR X (.type "int") (upC X.K rIntB) := by
  intro pins s σ H xs us Q0 I rl h
  obtain ⟨rs, M, Q, rr, hv, hq, hk⟩ := h
  match rs, hq with
  | [.bl b], hq =>
    simp only [Reps, Rep] at rr
    obtain ⟨v, r, rfl, rfl, rfl⟩ := rr
    obtain ⟨u, rfl, q⟩ := vals1 rl
    cases q
    exact call_int_bool ⟨.int (if b then 1 else 0), H, I.tok _, ⟨_, rfl⟩, hk _ M _ H hq (.refl H) hv (by simp only [Rep])⟩
theorem do_intB {b : Bool} {M : RM} {Q : RVK} (h : Q (.int (if b then 1 else 0)) M) : rIntB [.bl b] M Q := h
end
end R
namespace K03
local macro_rules | `(tactic| walk_at $s:str) => do
  let [hd, bd] := s.getString.splitOn "|" | Lean.Macro.throwUnsupported
  let c :: no :: st := hd.splitOn " " | Lean.Macro.throwUnsupported
  let id (x : String) : Lean.Ident := Lean.mkIdent x.toName
  let mut stack := st
  let mut c := c.toNat!
  let mut ts : Array (Lean.TSyntax `tactic) := #[]
  for w in bd.splitOn " " do
    let x :: rest := stack | Lean.Macro.throwUnsupported
    let f :: as := w.splitOn ":" | Lean.Macro.throwUnsupported
    let (f, n) := match f.splitOn "/" with
      | [f, n] => (f, n.toNat!)
      | _ => (f, 0)
    let mut args : Array Lean.Term := #[]
    let mut fn : Lean.Term := id f
    if f.isNat then
      fn := id "rvN"
      args := #[Lean.Quote.quote f.toNat!, id no]
    for a in as do
      match a.splitOn "=" with
      | [k, v] => args := args.push ⟨(← `(Lean.Parser.Term.namedArgument| ($(id k):ident := $(id v)))).raw⟩
      | _ => args := args.push (← if a == "%" then `($(id "hr.mono") (by decide)) else if a.isNat then pure (Lean.Quote.quote a.toNat!) else pure (id a))
    let mut new := []
    for _ in [0:n] do
      let g := "g" ++ toString c
      c := c + 1
      new := new ++ [g]
      args := args.push (← `(?$(id g)))
    let tm : Lean.Term := if args.isEmpty then fn else Lean.Syntax.mkApp fn args
    ts := ts.push (← if n == 0 then `(tactic| case' $(id x):ident => exact $tm) else `(tactic| case' $(id x):ident => refine' $tm))
    stack := new ++ rest
  `(tactic| ($[$ts]*))
open PySem PySem.Spec PyProof.Rows L2 R
def top (i : Nat) : Stmt := PySem.Challenge.pw_lentgate_k03_forms_of_any_form.main.body.getD i (.Pass ⟨0, 0, 0, 0⟩)
abbrev s_is_whole : Stmt := top 14
abbrev N_is_whole : List Str := ["thing"]
theorem sc_is_whole : FnScope N_is_whole ["thing"] (defScope s_is_whole) := ⟨rfl, rfl, rfl, by decide +kernel, rfl, by decide +kernel, by decide +kernel⟩
theorem no_is_whole : NameOk N_is_whole (defScope s_is_whole) := ⟨by decide +kernel, by decide +kernel, by decide +kernel⟩
theorem gl_is_whole_bool : (defScope s_is_whole).names.lookup ("bool" : Str) = some .globalImplicit := by decide +kernel
theorem gl_is_whole_int : (defScope s_is_whole).names.lookup ("int" : Str) = some .globalImplicit := by decide +kernel
theorem gl_is_whole_isinstance : (defScope s_is_whole).names.lookup ("isinstance" : Str) = some .globalImplicit := by decide +kernel
abbrev s_Rules_init : Stmt := inClass (top 62) 0
abbrev N_Rules_init : List Str := ["self"]
theorem sc_Rules_init : FnScope N_Rules_init ["self"] (defScope s_Rules_init) := ⟨rfl, rfl, rfl, by decide +kernel, rfl, by decide +kernel, by decide +kernel⟩
theorem no_Rules_init : NameOk N_Rules_init (defScope s_Rules_init) := ⟨by decide +kernel, by decide +kernel, by decide +kernel⟩
abbrev s_Pool_init : Stmt := inClass (top 64) 0
abbrev N_Pool_init : List Str := ["self", "low", "high"]
theorem sc_Pool_init : FnScope N_Pool_init ["self", "low", "high"] (defScope s_Pool_init) := ⟨rfl, rfl, rfl, by decide +kernel, rfl, by decide +kernel, by decide +kernel⟩
theorem no_Pool_init : NameOk N_Pool_init (defScope s_Pool_init) := ⟨by decide +kernel, by decide +kernel, by decide +kernel⟩
abbrev s__law_cell : Stmt := top 94
abbrev N__law_cell : List Str := ["script", "k"]
theorem sc__law_cell : FnScope N__law_cell ["script", "k"] (defScope s__law_cell) := ⟨rfl, rfl, rfl, by decide +kernel, rfl, by decide +kernel, by decide +kernel⟩
theorem no__law_cell : NameOk N__law_cell (defScope s__law_cell) := ⟨by decide +kernel, by decide +kernel, by decide +kernel⟩
theorem gl__law_cell_len : (defScope s__law_cell).names.lookup ("len" : Str) = some .globalImplicit := by decide +kernel
abbrev s__law_well : Stmt := top 95
abbrev N__law_well : List Str := ["cell", "turn"]
theorem sc__law_well : FnScope N__law_well ["cell", "turn"] (defScope s__law_well) := ⟨rfl, rfl, rfl, by decide +kernel, rfl, by decide +kernel, by decide +kernel⟩
theorem no__law_well : NameOk N__law_well (defScope s__law_well) := ⟨by decide +kernel, by decide +kernel, by decide +kernel⟩
abbrev s__law_take : Stmt := top 96
abbrev N__law_take : List Str := ["bag", "many", "p", "n", "found"]
theorem sc__law_take : FnScope N__law_take ["bag", "many"] (defScope s__law_take) := ⟨rfl, rfl, rfl, by decide +kernel, rfl, by decide +kernel, by decide +kernel⟩
theorem no__law_take : NameOk N__law_take (defScope s__law_take) := ⟨by decide +kernel, by decide +kernel, by decide +kernel⟩
abbrev s__law_whole : Stmt := top 97
abbrev N__law_whole : List Str := ["found"]
theorem sc__law_whole : FnScope N__law_whole ["found"] (defScope s__law_whole) := ⟨rfl, rfl, rfl, by decide +kernel, rfl, by decide +kernel, by decide +kernel⟩
theorem no__law_whole : NameOk N__law_whole (defScope s__law_whole) := ⟨by decide +kernel, by decide +kernel, by decide +kernel⟩
theorem gl__law_whole_bool : (defScope s__law_whole).names.lookup ("bool" : Str) = some .globalImplicit := by decide +kernel
theorem gl__law_whole_int : (defScope s__law_whole).names.lookup ("int" : Str) = some .globalImplicit := by decide +kernel
theorem gl__law_whole_isinstance : (defScope s__law_whole).names.lookup ("isinstance" : Str) = some .globalImplicit := by decide +kernel
abbrev s__law_is_one : Stmt := top 101
abbrev N__law_is_one : List Str := ["thing", "words"]
theorem sc__law_is_one : FnScope N__law_is_one ["thing", "words"] (defScope s__law_is_one) := ⟨rfl, rfl, rfl, by decide +kernel, rfl, by decide +kernel, by decide +kernel⟩
theorem no__law_is_one : NameOk N__law_is_one (defScope s__law_is_one) := ⟨by decide +kernel, by decide +kernel, by decide +kernel⟩
theorem gl__law_is_one_isinstance : (defScope s__law_is_one).names.lookup ("isinstance" : Str) = some .globalImplicit := by decide +kernel
theorem gl__law_is_one_str : (defScope s__law_is_one).names.lookup ("str" : Str) = some .globalImplicit := by decide +kernel
abbrev s_is_whole_within : Stmt := top 15
abbrev N_is_whole_within : List Str := ["thing", "least", "greatest"]
theorem sc_is_whole_within : FnScope N_is_whole_within ["thing", "least", "greatest"] (defScope s_is_whole_within) := ⟨rfl, rfl, rfl, by decide +kernel, rfl, by decide +kernel, by decide +kernel⟩
theorem no_is_whole_within : NameOk N_is_whole_within (defScope s_is_whole_within) := ⟨by decide +kernel, by decide +kernel, by decide +kernel⟩
theorem gl_is_whole_within_is_whole : (defScope s_is_whole_within).names.lookup ("is_whole" : Str) = some .globalImplicit := by decide +kernel
abbrev s__law_a_form : Stmt := top 98
abbrev N__law_a_form : List Str := ["bag", "many", "low", "lending", "sieve", "pick", "most", "renew", "far", "times", "rest"]
theorem sc__law_a_form : FnScope N__law_a_form ["bag"] (defScope s__law_a_form) := ⟨rfl, rfl, rfl, by decide +kernel, rfl, by decide +kernel, by decide +kernel⟩
theorem no__law_a_form : NameOk N__law_a_form (defScope s__law_a_form) := ⟨by decide +kernel, by decide +kernel, by decide +kernel⟩
theorem gl__law_a_form__law_take : (defScope s__law_a_form).names.lookup ("_law_take" : Str) = some .globalImplicit := by decide +kernel
theorem gl__law_a_form_range : (defScope s__law_a_form).names.lookup ("range" : Str) = some .globalImplicit := by decide +kernel
theorem gl__law_a_form_tuple : (defScope s__law_a_form).names.lookup ("tuple" : Str) = some .globalImplicit := by decide +kernel
abbrev s__law_odd : Stmt := top 99
abbrev N__law_odd : List Str := ["bag", "part", "near", "ends", "some"]
theorem sc__law_odd : FnScope N__law_odd ["bag", "part"] (defScope s__law_odd) := ⟨rfl, rfl, rfl, by decide +kernel, rfl, by decide +kernel, by decide +kernel⟩
theorem no__law_odd : NameOk N__law_odd (defScope s__law_odd) := ⟨by decide +kernel, by decide +kernel, by decide +kernel⟩
theorem gl__law_odd__law_take : (defScope s__law_odd).names.lookup ("_law_take" : Str) = some .globalImplicit := by decide +kernel
theorem gl__law_odd__law_whole : (defScope s__law_odd).names.lookup ("_law_whole" : Str) = some .globalImplicit := by decide +kernel
theorem gl__law_odd_len : (defScope s__law_odd).names.lookup ("len" : Str) = some .globalImplicit := by decide +kernel
abbrev s__law_in_bounds : Stmt := top 100
abbrev N__law_in_bounds : List Str := ["thing", "low", "high"]
theorem sc__law_in_bounds : FnScope N__law_in_bounds ["thing", "low", "high"] (defScope s__law_in_bounds) := ⟨rfl, rfl, rfl, by decide +kernel, rfl, by decide +kernel, by decide +kernel⟩
theorem no__law_in_bounds : NameOk N__law_in_bounds (defScope s__law_in_bounds) := ⟨by decide +kernel, by decide +kernel, by decide +kernel⟩
theorem gl__law_in_bounds__law_whole : (defScope s__law_in_bounds).names.lookup ("_law_whole" : Str) = some .globalImplicit := by decide +kernel
abbrev s_is_door : Stmt := top 17
abbrev N_is_door : List Str := ["thing"]
theorem sc_is_door : FnScope N_is_door ["thing"] (defScope s_is_door) := ⟨rfl, rfl, rfl, by decide +kernel, rfl, by decide +kernel, by decide +kernel⟩
theorem no_is_door : NameOk N_is_door (defScope s_is_door) := ⟨by decide +kernel, by decide +kernel, by decide +kernel⟩
theorem gl_is_door_GREATEST_DOOR : (defScope s_is_door).names.lookup ("GREATEST_DOOR" : Str) = some .globalImplicit := by decide +kernel
theorem gl_is_door_is_whole_within : (defScope s_is_door).names.lookup ("is_whole_within" : Str) = some .globalImplicit := by decide +kernel
abbrev s_is_times : Stmt := top 44
abbrev N_is_times : List Str := ["thing", "lives"]
theorem sc_is_times : FnScope N_is_times ["thing"] (defScope s_is_times) := ⟨rfl, rfl, rfl, by decide +kernel, rfl, by decide +kernel, by decide +kernel⟩
theorem no_is_times : NameOk N_is_times (defScope s_is_times) := ⟨by decide +kernel, by decide +kernel, by decide +kernel⟩
theorem gl_is_times_GREATEST_TIME : (defScope s_is_times).names.lookup ("GREATEST_TIME" : Str) = some .globalImplicit := by decide +kernel
theorem gl_is_times_all : (defScope s_is_times).names.lookup ("all" : Str) = some .globalImplicit := by decide +kernel
theorem gl_is_times_is_whole_within : (defScope s_is_times).names.lookup ("is_whole_within" : Str) = some .globalImplicit := by decide +kernel
theorem gl_is_times_isinstance : (defScope s_is_times).names.lookup ("isinstance" : Str) = some .globalImplicit := by decide +kernel
theorem gl_is_times_len : (defScope s_is_times).names.lookup ("len" : Str) = some .globalImplicit := by decide +kernel
theorem gl_is_times_tuple : (defScope s_is_times).names.lookup ("tuple" : Str) = some .globalImplicit := by decide +kernel
abbrev s_Talks_init : Stmt := inClass (top 67) 0
abbrev N_Talks_init : List Str := ["self", "form"]
theorem sc_Talks_init : FnScope N_Talks_init ["self", "form"] (defScope s_Talks_init) := ⟨rfl, rfl, rfl, by decide +kernel, rfl, by decide +kernel, by decide +kernel⟩
theorem no_Talks_init : NameOk N_Talks_init (defScope s_Talks_init) := ⟨by decide +kernel, by decide +kernel, by decide +kernel⟩
theorem gl_Talks_init_Pool : (defScope s_Talks_init).names.lookup ("Pool" : Str) = some .globalImplicit := by decide +kernel
abbrev s__law_is_right : Stmt := top 102
abbrev N__law_is_right : List Str := ["thing", "times", "low", "high"]
theorem sc__law_is_right : FnScope N__law_is_right ["thing"] (defScope s__law_is_right) := ⟨rfl, rfl, rfl, by decide +kernel, rfl, by decide +kernel, by decide +kernel⟩
theorem no__law_is_right : NameOk N__law_is_right (defScope s__law_is_right) := ⟨by decide +kernel, by decide +kernel, by decide +kernel⟩
theorem gl__law_is_right__law_in_bounds : (defScope s__law_is_right).names.lookup ("_law_in_bounds" : Str) = some .globalImplicit := by decide +kernel
theorem gl__law_is_right__law_is_one : (defScope s__law_is_right).names.lookup ("_law_is_one" : Str) = some .globalImplicit := by decide +kernel
theorem gl__law_is_right_bool : (defScope s__law_is_right).names.lookup ("bool" : Str) = some .globalImplicit := by decide +kernel
theorem gl__law_is_right_isinstance : (defScope s__law_is_right).names.lookup ("isinstance" : Str) = some .globalImplicit := by decide +kernel
theorem gl__law_is_right_len : (defScope s__law_is_right).names.lookup ("len" : Str) = some .globalImplicit := by decide +kernel
theorem gl__law_is_right_min : (defScope s__law_is_right).names.lookup ("min" : Str) = some .globalImplicit := by decide +kernel
theorem gl__law_is_right_range : (defScope s__law_is_right).names.lookup ("range" : Str) = some .globalImplicit := by decide +kernel
theorem gl__law_is_right_tuple : (defScope s__law_is_right).names.lookup ("tuple" : Str) = some .globalImplicit := by decide +kernel
abbrev s_is_pool : Stmt := top 43
abbrev N_is_pool : List Str := ["low", "high"]
theorem sc_is_pool : FnScope N_is_pool ["low", "high"] (defScope s_is_pool) := ⟨rfl, rfl, rfl, by decide +kernel, rfl, by decide +kernel, by decide +kernel⟩
theorem no_is_pool : NameOk N_is_pool (defScope s_is_pool) := ⟨by decide +kernel, by decide +kernel, by decide +kernel⟩
theorem gl_is_pool_WIDEST_STEP : (defScope s_is_pool).names.lookup ("WIDEST_STEP" : Str) = some .globalImplicit := by decide +kernel
theorem gl_is_pool_is_door : (defScope s_is_pool).names.lookup ("is_door" : Str) = some .globalImplicit := by decide +kernel
abbrev s__law_bent : Stmt := top 103
abbrev N__law_bent : List Str := ["bag", "parts", "at", "way"]
theorem sc__law_bent : FnScope N__law_bent ["bag", "parts"] (defScope s__law_bent) := ⟨rfl, rfl, rfl, by decide +kernel, rfl, by decide +kernel, by decide +kernel⟩
theorem no__law_bent : NameOk N__law_bent (defScope s__law_bent) := ⟨by decide +kernel, by decide +kernel, by decide +kernel⟩
theorem gl__law_bent__law_bent : (defScope s__law_bent).names.lookup ("_law_bent" : Str) = some .globalImplicit := by decide +kernel
theorem gl__law_bent__law_odd : (defScope s__law_bent).names.lookup ("_law_odd" : Str) = some .globalImplicit := by decide +kernel
theorem gl__law_bent__law_take : (defScope s__law_bent).names.lookup ("_law_take" : Str) = some .globalImplicit := by decide +kernel
theorem gl__law_bent_isinstance : (defScope s__law_bent).names.lookup ("isinstance" : Str) = some .globalImplicit := by decide +kernel
theorem gl__law_bent_len : (defScope s__law_bent).names.lookup ("len" : Str) = some .globalImplicit := by decide +kernel
theorem gl__law_bent_list : (defScope s__law_bent).names.lookup ("list" : Str) = some .globalImplicit := by decide +kernel
theorem gl__law_bent_tuple : (defScope s__law_bent).names.lookup ("tuple" : Str) = some .globalImplicit := by decide +kernel
abbrev s_is_form : Stmt := top 45
abbrev N_is_form : List Str := ["thing", "low", "high", "lending", "sieve", "pick", "most", "renew", "times"]
theorem sc_is_form : FnScope N_is_form ["thing"] (defScope s_is_form) := ⟨rfl, rfl, rfl, by decide +kernel, rfl, by decide +kernel, by decide +kernel⟩
theorem no_is_form : NameOk N_is_form (defScope s_is_form) := ⟨by decide +kernel, by decide +kernel, by decide +kernel⟩
theorem gl_is_form_GREATEST_MOST : (defScope s_is_form).names.lookup ("GREATEST_MOST" : Str) = some .globalImplicit := by decide +kernel
theorem gl_is_form_LENDINGS : (defScope s_is_form).names.lookup ("LENDINGS" : Str) = some .globalImplicit := by decide +kernel
theorem gl_is_form_PICKS : (defScope s_is_form).names.lookup ("PICKS" : Str) = some .globalImplicit := by decide +kernel
theorem gl_is_form_SIEVES : (defScope s_is_form).names.lookup ("SIEVES" : Str) = some .globalImplicit := by decide +kernel
theorem gl_is_form_bool : (defScope s_is_form).names.lookup ("bool" : Str) = some .globalImplicit := by decide +kernel
theorem gl_is_form_is_pool : (defScope s_is_form).names.lookup ("is_pool" : Str) = some .globalImplicit := by decide +kernel
theorem gl_is_form_is_times : (defScope s_is_form).names.lookup ("is_times" : Str) = some .globalImplicit := by decide +kernel
theorem gl_is_form_is_whole_within : (defScope s_is_form).names.lookup ("is_whole_within" : Str) = some .globalImplicit := by decide +kernel
theorem gl_is_form_isinstance : (defScope s_is_form).names.lookup ("isinstance" : Str) = some .globalImplicit := by decide +kernel
theorem gl_is_form_len : (defScope s_is_form).names.lookup ("len" : Str) = some .globalImplicit := by decide +kernel
theorem gl_is_form_tuple : (defScope s_is_form).names.lookup ("tuple" : Str) = some .globalImplicit := by decide +kernel
abbrev s_Gate_init : Stmt := inClass (top 70) 0
abbrev N_Gate_init : List Str := ["self", "form"]
theorem sc_Gate_init : FnScope N_Gate_init ["self", "form"] (defScope s_Gate_init) := ⟨rfl, rfl, rfl, by decide +kernel, rfl, by decide +kernel, by decide +kernel⟩
theorem no_Gate_init : NameOk N_Gate_init (defScope s_Gate_init) := ⟨by decide +kernel, by decide +kernel, by decide +kernel⟩
theorem gl_Gate_init_NoForm : (defScope s_Gate_init).names.lookup ("NoForm" : Str) = some .globalImplicit := by decide +kernel
theorem gl_Gate_init_Rules : (defScope s_Gate_init).names.lookup ("Rules" : Str) = some .globalImplicit := by decide +kernel
theorem gl_Gate_init_Talks : (defScope s_Gate_init).names.lookup ("Talks" : Str) = some .globalImplicit := by decide +kernel
theorem gl_Gate_init_is_form : (defScope s_Gate_init).names.lookup ("is_form" : Str) = some .globalImplicit := by decide +kernel
abbrev s_Desk_init : Stmt := inClass (top 85) 0
abbrev N_Desk_init : List Str := ["self", "form"]
theorem sc_Desk_init : FnScope N_Desk_init ["self", "form"] (defScope s_Desk_init) := ⟨rfl, rfl, rfl, by decide +kernel, rfl, by decide +kernel, by decide +kernel⟩
theorem no_Desk_init : NameOk N_Desk_init (defScope s_Desk_init) := ⟨by decide +kernel, by decide +kernel, by decide +kernel⟩
theorem gl_Desk_init_Gate : (defScope s_Desk_init).names.lookup ("Gate" : Str) = some .globalImplicit := by decide +kernel
abbrev s_replayed : Stmt := top 87
abbrev N_replayed : List Str := ["form", "deeds", "gate", "deed"]
theorem sc_replayed : FnScope N_replayed ["form", "deeds"] (defScope s_replayed) := ⟨rfl, rfl, rfl, by decide +kernel, rfl, by decide +kernel, by decide +kernel⟩
theorem no_replayed : NameOk N_replayed (defScope s_replayed) := ⟨by decide +kernel, by decide +kernel, by decide +kernel⟩
theorem gl_replayed_Gate : (defScope s_replayed).names.lookup ("Gate" : Str) = some .globalImplicit := by decide +kernel
abbrev s_looked : Stmt := top 92
abbrev N_looked : List Str := ["form", "book", "gate", "at", "row"]
theorem sc_looked : FnScope N_looked ["form", "book"] (defScope s_looked) := ⟨rfl, rfl, rfl, by decide +kernel, rfl, by decide +kernel, by decide +kernel⟩
theorem no_looked : NameOk N_looked (defScope s_looked) := ⟨by decide +kernel, by decide +kernel, by decide +kernel⟩
theorem gl_looked_Gate : (defScope s_looked).names.lookup ("Gate" : Str) = some .globalImplicit := by decide +kernel
theorem gl_looked_enumerate : (defScope s_looked).names.lookup ("enumerate" : Str) = some .globalImplicit := by decide +kernel
abbrev s__law_made : Stmt := top 104
abbrev N__law_made : List Str := ["way", "thing", "kinds", "e"]
theorem sc__law_made : FnScope N__law_made ["way", "thing"] (defScope s__law_made) := ⟨rfl, rfl, rfl, by decide +kernel, rfl, by decide +kernel, by decide +kernel⟩
theorem no__law_made : NameOk N__law_made (defScope s__law_made) := ⟨by decide +kernel, by decide +kernel, by decide +kernel⟩
theorem lo__law_made : (defScope s__law_made).names.lookup ("e" : Str) = some .local := by decide +kernel
theorem gl__law_made_Desk : (defScope s__law_made).names.lookup ("Desk" : Str) = some .globalImplicit := by decide +kernel
theorem gl__law_made_Gate : (defScope s__law_made).names.lookup ("Gate" : Str) = some .globalImplicit := by decide +kernel
theorem gl__law_made_GateError : (defScope s__law_made).names.lookup ("GateError" : Str) = some .globalImplicit := by decide +kernel
theorem gl__law_made_NoDeed : (defScope s__law_made).names.lookup ("NoDeed" : Str) = some .globalImplicit := by decide +kernel
theorem gl__law_made_NoForm : (defScope s__law_made).names.lookup ("NoForm" : Str) = some .globalImplicit := by decide +kernel
theorem gl__law_made_NoPlan : (defScope s__law_made).names.lookup ("NoPlan" : Str) = some .globalImplicit := by decide +kernel
theorem gl__law_made_NoRow : (defScope s__law_made).names.lookup ("NoRow" : Str) = some .globalImplicit := by decide +kernel
theorem gl__law_made_NoRule : (defScope s__law_made).names.lookup ("NoRule" : Str) = some .globalImplicit := by decide +kernel
theorem gl__law_made_ValueError : (defScope s__law_made).names.lookup ("ValueError" : Str) = some .globalImplicit := by decide +kernel
theorem gl__law_made_isinstance : (defScope s__law_made).names.lookup ("isinstance" : Str) = some .globalImplicit := by decide +kernel
theorem gl__law_made_looked : (defScope s__law_made).names.lookup ("looked" : Str) = some .globalImplicit := by decide +kernel
theorem gl__law_made_replayed : (defScope s__law_made).names.lookup ("replayed" : Str) = some .globalImplicit := by decide +kernel
abbrev s_law : Stmt := top 105
abbrev N_law : List Str := ["script", "cell", "bag", "bends", "thing", "turn", "found", "due", "way"]
theorem sc_law : FnScope N_law ["script"] (defScope s_law) := ⟨rfl, rfl, rfl, by decide +kernel, rfl, by decide +kernel, by decide +kernel⟩
theorem no_law : NameOk N_law (defScope s_law) := ⟨by decide +kernel, by decide +kernel, by decide +kernel⟩
theorem gl_law__law_a_form : (defScope s_law).names.lookup ("_law_a_form" : Str) = some .globalImplicit := by decide +kernel
theorem gl_law__law_bent : (defScope s_law).names.lookup ("_law_bent" : Str) = some .globalImplicit := by decide +kernel
theorem gl_law__law_cell : (defScope s_law).names.lookup ("_law_cell" : Str) = some .globalImplicit := by decide +kernel
theorem gl_law__law_is_right : (defScope s_law).names.lookup ("_law_is_right" : Str) = some .globalImplicit := by decide +kernel
theorem gl_law__law_made : (defScope s_law).names.lookup ("_law_made" : Str) = some .globalImplicit := by decide +kernel
theorem gl_law__law_take : (defScope s_law).names.lookup ("_law_take" : Str) = some .globalImplicit := by decide +kernel
theorem gl_law__law_well : (defScope s_law).names.lookup ("_law_well" : Str) = some .globalImplicit := by decide +kernel
theorem gl_law_bool : (defScope s_law).names.lookup ("bool" : Str) = some .globalImplicit := by decide +kernel
theorem gl_law_is_form : (defScope s_law).names.lookup ("is_form" : Str) = some .globalImplicit := by decide +kernel
theorem gl_law_isinstance : (defScope s_law).names.lookup ("isinstance" : Str) = some .globalImplicit := by decide +kernel
theorem gl_law_range : (defScope s_law).names.lookup ("range" : Str) = some .globalImplicit := by decide +kernel
theorem gl_law_tuple : (defScope s_law).names.lookup ("tuple" : Str) = some .globalImplicit := by decide +kernel
theorem db_Desk : (("Desk" : Str) == ("__debug__" : Str)) = false := by decide +kernel
theorem db_GREATEST_DOOR : (("GREATEST_DOOR" : Str) == ("__debug__" : Str)) = false := by decide +kernel
theorem db_GREATEST_MOST : (("GREATEST_MOST" : Str) == ("__debug__" : Str)) = false := by decide +kernel
theorem db_GREATEST_TIME : (("GREATEST_TIME" : Str) == ("__debug__" : Str)) = false := by decide +kernel
theorem db_Gate : (("Gate" : Str) == ("__debug__" : Str)) = false := by decide +kernel
theorem db_GateError : (("GateError" : Str) == ("__debug__" : Str)) = false := by decide +kernel
theorem db_LENDINGS : (("LENDINGS" : Str) == ("__debug__" : Str)) = false := by decide +kernel
theorem db_NoDeed : (("NoDeed" : Str) == ("__debug__" : Str)) = false := by decide +kernel
theorem db_NoForm : (("NoForm" : Str) == ("__debug__" : Str)) = false := by decide +kernel
theorem db_NoPlan : (("NoPlan" : Str) == ("__debug__" : Str)) = false := by decide +kernel
theorem db_NoRow : (("NoRow" : Str) == ("__debug__" : Str)) = false := by decide +kernel
theorem db_NoRule : (("NoRule" : Str) == ("__debug__" : Str)) = false := by decide +kernel
theorem db_PICKS : (("PICKS" : Str) == ("__debug__" : Str)) = false := by decide +kernel
theorem db_Pool : (("Pool" : Str) == ("__debug__" : Str)) = false := by decide +kernel
theorem db_Rules : (("Rules" : Str) == ("__debug__" : Str)) = false := by decide +kernel
theorem db_SIEVES : (("SIEVES" : Str) == ("__debug__" : Str)) = false := by decide +kernel
theorem db_Talks : (("Talks" : Str) == ("__debug__" : Str)) = false := by decide +kernel
theorem db_WIDEST_STEP : (("WIDEST_STEP" : Str) == ("__debug__" : Str)) = false := by decide +kernel
theorem db__law_a_form : (("_law_a_form" : Str) == ("__debug__" : Str)) = false := by decide +kernel
theorem db__law_bent : (("_law_bent" : Str) == ("__debug__" : Str)) = false := by decide +kernel
theorem db__law_cell : (("_law_cell" : Str) == ("__debug__" : Str)) = false := by decide +kernel
theorem db__law_in_bounds : (("_law_in_bounds" : Str) == ("__debug__" : Str)) = false := by decide +kernel
theorem db__law_is_one : (("_law_is_one" : Str) == ("__debug__" : Str)) = false := by decide +kernel
theorem db__law_is_right : (("_law_is_right" : Str) == ("__debug__" : Str)) = false := by decide +kernel
theorem db__law_made : (("_law_made" : Str) == ("__debug__" : Str)) = false := by decide +kernel
theorem db__law_odd : (("_law_odd" : Str) == ("__debug__" : Str)) = false := by decide +kernel
theorem db__law_take : (("_law_take" : Str) == ("__debug__" : Str)) = false := by decide +kernel
theorem db__law_well : (("_law_well" : Str) == ("__debug__" : Str)) = false := by decide +kernel
theorem db__law_whole : (("_law_whole" : Str) == ("__debug__" : Str)) = false := by decide +kernel
theorem db_all : (("all" : Str) == ("__debug__" : Str)) = false := by decide +kernel
theorem nn_all : ("all" : Str) ≠ "__name__" := by decide +kernel
theorem db_int : (("int" : Str) == ("__debug__" : Str)) = false := by decide +kernel
theorem nn_int : ("int" : Str) ≠ "__name__" := by decide +kernel
theorem db_is_door : (("is_door" : Str) == ("__debug__" : Str)) = false := by decide +kernel
theorem db_is_form : (("is_form" : Str) == ("__debug__" : Str)) = false := by decide +kernel
theorem db_is_pool : (("is_pool" : Str) == ("__debug__" : Str)) = false := by decide +kernel
theorem db_is_times : (("is_times" : Str) == ("__debug__" : Str)) = false := by decide +kernel
theorem db_is_whole : (("is_whole" : Str) == ("__debug__" : Str)) = false := by decide +kernel
theorem db_is_whole_within : (("is_whole_within" : Str) == ("__debug__" : Str)) = false := by decide +kernel
theorem db_isinstance : (("isinstance" : Str) == ("__debug__" : Str)) = false := by decide +kernel
theorem nn_isinstance : ("isinstance" : Str) ≠ "__name__" := by decide +kernel
theorem db_len : (("len" : Str) == ("__debug__" : Str)) = false := by decide +kernel
theorem nn_len : ("len" : Str) ≠ "__name__" := by decide +kernel
theorem db_list : (("list" : Str) == ("__debug__" : Str)) = false := by decide +kernel
theorem nn_list : ("list" : Str) ≠ "__name__" := by decide +kernel
theorem db_looked : (("looked" : Str) == ("__debug__" : Str)) = false := by decide +kernel
theorem db_min : (("min" : Str) == ("__debug__" : Str)) = false := by decide +kernel
theorem nn_min : ("min" : Str) ≠ "__name__" := by decide +kernel
theorem db_replayed : (("replayed" : Str) == ("__debug__" : Str)) = false := by decide +kernel
theorem db_tuple : (("tuple" : Str) == ("__debug__" : Str)) = false := by decide +kernel
theorem nn_tuple : ("tuple" : Str) ≠ "__name__" := by decide +kernel
structure Cs where
  Rules : Addr
  Pool : Addr
  Talks : Addr
  Gate : Addr
  Desk : Addr
  GateError : Addr
  NoForm : Addr
  NoDeed : Addr
  NoRule : Addr
  NoPlan : Addr
  NoRow : Addr
structure Txt (P : Program) (w : World) (K : PySem.W.Frag) (mg : Str → Option Value) (C : Cs) : Prop where
  cl_Rules : Cls K C.Rules
  n_Rules_many_told : NoAttr K C.Rules "many_told"
  n_Rules_standing : NoAttr K C.Rules "standing"
  cl_Pool : Cls K C.Pool
  n_Pool_low : NoAttr K C.Pool "low"
  n_Pool_high : NoAttr K C.Pool "high"
  n_Pool_mark : NoAttr K C.Pool "mark"
  n_Pool_taken : NoAttr K C.Pool "taken"
  n_Pool_until : NoAttr K C.Pool "until"
  cl_Talks : Cls K C.Talks
  n_Talks_form : NoAttr K C.Talks "form"
  n_Talks_pool : NoAttr K C.Talks "pool"
  n_Talks_now : NoAttr K C.Talks "now"
  n_Talks_by_inner : NoAttr K C.Talks "by_inner"
  n_Talks_by_number : NoAttr K C.Talks "by_number"
  n_Talks_holders : NoAttr K C.Talks "holders"
  n_Talks_numbers : NoAttr K C.Talks "numbers"
  cl_Gate : Cls K C.Gate
  n_Gate_form : NoAttr K C.Gate "form"
  n_Gate_table : NoAttr K C.Gate "table"
  n_Gate_strangers : NoAttr K C.Gate "strangers"
  n_Gate_done : NoAttr K C.Gate "done"
  n_Gate_wish : NoAttr K C.Gate "wish"
  cl_Desk : Cls K C.Desk
  n_Desk_gate : NoAttr K C.Desk "gate"
  m_Rules : mg "Rules" = some (.ref C.Rules)
  m_Pool : mg "Pool" = some (.ref C.Pool)
  m_Talks : mg "Talks" = some (.ref C.Talks)
  m_Gate : mg "Gate" = some (.ref C.Gate)
  m_Desk : mg "Desk" = some (.ref C.Desk)
  m_GateError : mg "GateError" = some (.ref C.GateError)
  m_NoForm : mg "NoForm" = some (.ref C.NoForm)
  m_NoDeed : mg "NoDeed" = some (.ref C.NoDeed)
  m_NoRule : mg "NoRule" = some (.ref C.NoRule)
  m_NoPlan : mg "NoPlan" = some (.ref C.NoPlan)
  m_NoRow : mg "NoRow" = some (.ref C.NoRow)
  x_NoForm : PySem.W.excIn K C.NoForm [.type "ValueError", .type "Exception", .type "BaseException", .type "object"] "ValueError.__new__" = true
  xm : PySem.W.exmOne K (.ref C.NoForm) (.ref C.GateError) = some true
  xk : PySem.W.xcOk K C.NoForm = true
  k1 : PySem.W.kitOne K (.ref C.NoForm) (.ref C.NoForm) = some true
  k2 : PySem.W.kitOne K (.ref C.NoForm) (.type "ValueError") = some true
  k3 : PySem.W.kitAny K (.ref C.NoForm) [.ref C.NoDeed, .ref C.NoPlan, .ref C.NoRow, .ref C.NoRule] = some false
  b_ValueError : mg "ValueError" = none
  b_all : mg "all" = none
  b_bool : mg "bool" = none
  b_enumerate : mg "enumerate" = none
  b_int : mg "int" = none
  b_isinstance : mg "isinstance" = none
  b_len : mg "len" = none
  b_list : mg "list" = none
  b_min : mg "min" = none
  b_range : mg "range" = none
  b_str : mg "str" = none
  b_tuple : mg "tuple" = none
  c_GREATEST_DOOR : IntC mg "GREATEST_DOOR" 9999
  c_WIDEST_STEP : IntC mg "WIDEST_STEP" 199
  c_GREATEST_MOST : IntC mg "GREATEST_MOST" 200
  c_GREATEST_TIME : IntC mg "GREATEST_TIME" 1000000
  c_LENDINGS : TupC K mg "LENDINGS" ["door", "place", "talk"]
  c_SIEVES : TupC K mg "SIEVES" ["all", "place", "talk"]
  c_PICKS : TupC K mg "PICKS" ["next", "keep"]
section
variable {P : Program} {w : World} {K : PySem.W.Frag} {mg : Str → Option Value} {base : Heap} {C : Cs}
local macro_rules | `(tactic| walk_at "rs1") => `(tactic| first | ((with_reducible refine' do_norm ?_ ?_); rotate_left; simp only [List.set_cons_succ, List.set_cons_zero]; exact rfl) | ((with_reducible refine' do_normU ?_ ?_); rotate_left; simp only [setAll, List.set_cons_succ, List.set_cons_zero]; exact rfl) | ((with_reducible refine' do_var ?_ ?_); rotate_left; exact rfl) | (with_reducible first | refine do_c ?_ | refine do_tab ?_ | refine do_op ?_ | refine do_seq ?_ | refine do_set ?_ | refine do_cons ?_ | refine do_nil ?_ | refine do_call ?_ | refine do_ifs ?_ | refine do_test ?_ | refine do_ktest ?_ | refine do_kT ?_ | refine do_kF ?_ | refine do_knT ?_ | refine do_knF ?_ | refine do_and ?_ | refine do_or ?_ | refine do_not ?_ | refine do_if ?_ | refine do_un ?_ | refine do_chain ?_ | refine do_kchT ?_ | refine do_kchF ?_ | refine do_tup ?_ | refine do_lsf ?_ | refine do_lst ?_) | ((with_reducible refine' do_size ?_ ?_); exact rfl) | (with_reducible first | refine do_next ?_ | refine do_ret ?_ | refine do_retN ?_ | refine do_drop ?_ | refine do_asg ?_ | refine do_gN ?_) | ((with_reducible refine' do_gU ?_ ?_); exact rfl) | (with_reducible first | refine do_gSub ?_ | refine do_forI ?_ | refine do_itS ?_ | refine do_kits_t ?_ | refine do_kits_l ?_ | refine do_itR ?_ | refine do_forNil ?_ | refine do_forCons ?_ | refine do_comp ?_ | refine do_fld ?_ | refine do_sfld ?_ | refine do_make ?_ | refine do_makeX ?_ | refine do_callX ?_ | refine do_itE ?_ | refine do_kite ?_ | refine do_dnew ?_ | refine do_compNil ?_ | refine do_compYes ?_ | refine do_compT ?_ | refine do_sl ?_ | refine do_noP ?_ | refine do_part ?_ | refine do_kpart ?_ | refine do_slT ?_ | refine do_slL ?_ | refine do_int0 ?_ | refine do_addI ?_) | ((with_reducible refine' do_addT ?_ ?_); exact rfl) | ((with_reducible refine' do_addL ?_ ?_); exact rfl) | ((with_reducible refine' do_eq ?_ ?_ ?_); exact rfl; exact rfl) | ((with_reducible refine' do_ne ?_ ?_ ?_); exact rfl; exact rfl) | (with_reducible first | refine do_is ?_ | refine do_isnot ?_ | refine do_ixT ?_ | refine do_ixL ?_ | refine do_len_t ?_ | refine do_len_l ?_ | refine do_tuple_l ?_ | refine do_tuple_t ?_) | ((with_reducible refine' do_isi ?_ ?_); rotate_left; exact rfl) | (with_reducible first | refine do_break ?_ | refine do_cont ?_ | refine do_andv ?_ | refine do_orv ?_ | refine do_notv ?_ | refine do_knotv ?_ | refine do_kandT ?_ | refine do_kandF ?_ | refine do_korT ?_ | refine do_korF ?_ | refine do_ord ?_ | refine do_itX ?_ | refine do_kitx ?_ | refine do_list_t ?_ | refine do_ltS ?_ | refine do_gtS ?_ | refine do_callV ?_ | refine do_tabin ?_ | refine do_ktabnot ?_ | refine do_neg ?_ | refine do_join ?_ | refine do_kjoin ?_ | refine do_append ?_))
local macro_rules | `(tactic| walk_at "rs") => `(tactic| (repeat walk_at "rs1"))
local macro_rules | `(tactic| walk_at "rd1") => `(tactic| first | walk_at "rs1" | ((with_reducible refine' do_kT' ?_ ?_); exact rfl) | ((with_reducible refine' do_kF' ?_ ?_); exact rfl))
local macro_rules | `(tactic| walk_at "rd") => `(tactic| (repeat walk_at "rd1"))
def BagO (o : RO) (n : Int) : Prop := ∃ x y t : Int, o = .lst [.int x, .int y, .int t] ∧ 0 ≤ x ∧ 0 ≤ y ∧ y < 2305843009213693951 ∧ 0 ≤ t ∧ t ≤ n
def Bag (M : RM) (b : Addr) (n : Int) : Prop := ∃ o, M b = some o ∧ BagO o n
theorem Bag.put {M : RM} {b : Addr} {o : RO} {n : Int} (h : BagO o n) : Bag (put M b o) b n := ⟨o, put_same, h⟩
theorem BagO.mono {o : RO} {m n : Int} (h : BagO o m) (l : m ≤ n) : BagO o n := by
  obtain ⟨x, y, t, e, h1, h2, h3, h4, h5⟩ := h
  exact ⟨x, y, t, e, h1, h2, h3, h4, Int.le_trans h5 l⟩
theorem small64 {i : Int} (h0 : 0 ≤ i) (h1 : i < 18446744073709551616) : i.natAbs < 2 ^ 64 := by
  have : (2 : Nat) ^ 64 = 18446744073709551616 := by decide
  omega
theorem cmul_left {i j : Int} (h0 : -18446744073709551616 < i) (h1 : i < 18446744073709551616) : CMul i j := .inl ⟨h0, h1⟩
theorem szl {n : Nat} (h : n ≤ 1000 := by first | decide | (simp only [List.length_cons, List.length_nil, List.length_append]; decide)) : n ≤ sizeLine := Nat.le_trans h (by decide)
theorem at0 {a : RV} {r : List RV} : atI (a :: r) 0 = some a := atI_nat (j := 0) rfl
theorem at1 {a b : RV} {r : List RV} : atI (a :: b :: r) 1 = some b := atI_nat (j := 1) rfl
theorem at2 {a b c : RV} {r : List RV} : atI (a :: b :: c :: r) 2 = some c := atI_nat (j := 2) rfl
theorem ix0 {n : Nat} : ixN (n + 1) 0 = some 0 := by unfold ixN; rw [if_pos (by omega), if_pos (by omega)]; rfl
theorem ix2 {n : Nat} : ixN (n + 3) 2 = some 2 := by unfold ixN; rw [if_pos (by omega), if_pos (by omega)]; rfl
theorem at_some {xs : List RV} {i : Int} (h0 : 0 ≤ i) (h1 : i < xs.length) : ∃ v, atI xs i = some v ∧ v ∈ xs := by
  obtain ⟨j, rfl⟩ := Int.eq_ofNat_of_zero_le h0
  have hj : j < xs.length := by omega
  exact ⟨xs[j], atI_nat (by simp [hj]), List.getElem_mem hj⟩
theorem forL_inv {g : RTG} {tb : RTS} {D : RD} (J : RSt → RM → Prop) (p : RV → Prop) : ∀ (xs : List RV), (∀ x ∈ xs, p x) → (∀ x σ M (N : RSt → RM → Prop), p x → J σ M → (∀ σ' M', J σ' M' → N σ' M') → g x σ M fun σ2 M2 => tb { D with nx := N, ct := N, bk := D.nx } σ2 M2) →
    (∀ σ M, J σ M → D.nx σ M) → ∀ σ M, J σ M → rForL g tb D xs σ M
  | [], _, _, hd, σ, M, j => hd σ M j
  | x :: r, hp, hs, hd, σ, M, j => hs x σ M _ (hp x List.mem_cons_self) j fun σ' M' j' => forL_inv J p r (fun y hy => hp y (List.mem_cons_of_mem _ hy)) hs hd σ' M' j'
theorem at_do {xs : List RV} {i : Int} {P : RV → Prop} (h0 : 0 ≤ i) (h1 : i < xs.length) (h : ∀ v ∈ xs, P v) : (match atI xs i with | some v => P v | none => False) := by
  obtain ⟨v, e, m⟩ := at_some h0 h1
  rw [e]
  exact h v m
def wholeR : RV → Option Bool
  | .int _ => some true
  | .bl _ => some false
  | .non => some false
  | .str _ => some false
  | .tup _ => some false
  | .ls _ => some false
  | _ => none
def AllI (lo hi : Int) : List RV → Prop
  | [] => True
  | .int k :: r => (lo ≤ k ∧ k ≤ hi) ∧ AllI lo hi r
  | _ :: _ => False
def AllS (p : Str → Prop) : List RV → Prop
  | [] => True
  | .str k :: r => p k ∧ AllS p r
  | _ :: _ => False
theorem allI_mem {lo hi : Int} : ∀ {xs : List RV}, AllI lo hi xs → ∀ v ∈ xs, ∃ k : Int, v = .int k ∧ lo ≤ k ∧ k ≤ hi
  | x :: r, h, v, m => by
    cases x with
    | int k =>
      rcases List.mem_cons.mp m with rfl | m
      · exact ⟨k, rfl, h.1.1, h.1.2⟩
      · exact allI_mem h.2 v m
    | _ => exact (show False from h).elim
theorem allS_mem {p : Str → Prop} : ∀ {xs : List RV}, AllS p xs → ∀ v ∈ xs, ∃ k : Str, v = .str k ∧ p k
  | x :: r, h, v, m => by
    cases x with
    | str k =>
      rcases List.mem_cons.mp m with rfl | m
      · exact ⟨k, rfl, h.1⟩
      · exact allS_mem h.2 v m
    | _ => exact (show False from h).elim
theorem at_ints (lo hi : Int) {xs : List RV} {i : Int} {P : RV → Prop} (h0 : 0 ≤ i) (h : ∀ k : Int, lo ≤ k → k ≤ hi → P (.int k)) (h1 : i < xs.length := by (simp only [List.length_cons, List.length_nil]; omega)) (ha : AllI lo hi xs := by (simp only [AllI, and_true]; omega)) : (match atI xs i with | some v => P v | none => False) :=
  at_do h0 h1 fun v hv => by obtain ⟨k, rfl, a, b⟩ := allI_mem ha v hv; exact h k a b
theorem at_strs (p : Str → Prop) {xs : List RV} {i : Int} {P : RV → Prop} (h0 : 0 ≤ i) (ha : AllS p xs) (h : ∀ k : Str, p k → P (.str k)) (h1 : i < xs.length := by (simp only [List.length_cons, List.length_nil]; omega)) : (match atI xs i with | some v => P v | none => False) :=
  at_do h0 h1 fun v hv => by obtain ⟨k, rfl, a⟩ := allS_mem ha v hv; exact h k a
theorem nums3 : R.nums (Int.toNat 3) = [.int 0, .int 1, .int 2] := rfl
theorem ok_mono : ∀ {n : Nat} {x : RV}, okR n x = true → okR (n + 1) x = true
  | 0, x, h => by cases x <;> first | rfl | (simp [okR] at h)
  | n + 1, x, h => by
    cases x with
    | tup xs =>
      have h' : xs.all (okR n) = true := h
      show xs.all (okR (n + 1)) = true
      rw [List.all_eq_true] at h' ⊢
      exact fun y hy => ok_mono (h' y hy)
    | ls xs =>
      have h' : xs.all (okR n) = true := h
      show xs.all (okR (n + 1)) = true
      rw [List.all_eq_true] at h' ⊢
      exact fun y hy => ok_mono (h' y hy)
    | ref a => simp [okR] at h
    | ty a => simp [okR] at h
    | _ => rfl
def okP (x : RV) : Prop := okR 14 x = true
theorem okP.ok15 {x : RV} (h : okP x) : okR 15 x = true := ok_mono h
theorem okP_ref {a : Addr} (h : okP (.ref a)) : False := by have : okR 14 (.ref a) = true := h; simp [okR] at this
theorem okP_ty {a : String} (h : okP (.ty a)) : False := by have : okR 14 (.ty a) = true := h; simp [okR] at this
theorem okP_tup {xs : List RV} (h : okP (.tup xs)) : ∀ y ∈ xs, okP y := fun y hy => by
  have h' : xs.all (okR 13) = true := h
  exact ok_mono (List.all_eq_true.mp h' y hy)
def isWh : RV → Bool
  | .int _ => true
  | _ => false
def isBl : RV → Bool
  | .bl _ => true
  | _ => false
def inB : RV → Int → Int → Bool
  | .int i, lo, hi => decide (lo ≤ i) && decide (i ≤ hi)
  | _, _, _ => false
abbrev txs (l : List Str) : List RV := l.map RV.str
def poolF : RV → RV → Bool
  | .int i, .int j => decide (i ≤ j) && decide (j ≤ i + 199)
  | _, _ => false
def timesF : RV → Bool
  | .tup [a, b, c, d] => (inB a 1 1000000 && (inB b 1 1000000 && (inB c 1 1000000 && true))) && inB d 0 1000000
  | _ => false
def formF : RV → Bool
  | .tup [lo, hi, le, si, pi, mo, re, ti] => inR le (txs ["door", "place", "talk"]) && (inR si (txs ["all", "place", "talk"]) && (inR pi (txs ["next", "keep"]) && (inB mo 1 200 && (isBl re && ((inB lo 1 9999 && (inB hi 1 9999 && poolF lo hi)) && timesF ti)))))
  | _ => false
theorem andF {a b : Bool} {Q : RVK} {M : RM} (h : Q (.bl (a && b)) M) (e : a = false) : Q (.bl false) M := by subst e; exact h
theorem andT {a b : Bool} {Q : RVK} {M : RM} (h : Q (.bl (a && b)) M) (e : a = true) : Q (.bl b) M := by subst e; exact h
theorem neLen {n : Nat} {k : Nat} (e : (!eqR (.int (n : Int)) (.int (k : Int))) = false) : n = k := by
  simp [eqR] at e; omega
theorem neLen' {n : Nat} {k : Nat} (e : (!eqR (.int (n : Int)) (.int (k : Int))) = true) : n ≠ k := by
  simp [eqR] at e; omega
theorem len4 {ps : List RV} (h : ps.length = 4) : ∃ a b c d, ps = [a, b, c, d] := by
  match ps, h with
  | [a, b, c, d], _ => exact ⟨a, b, c, d, rfl⟩
theorem len8 {ps : List RV} (h : ps.length = 8) : ∃ a b c d e f g i, ps = [a, b, c, d, e, f, g, i] := by
  match ps, h with
  | [a, b, c, d, e, f, g, i], _ => exact ⟨a, b, c, d, e, f, g, i, rfl⟩
theorem times_no {ps : List RV} (h : ps.length ≠ 4) : timesF (.tup ps) = false := by
  unfold timesF
  split
  · rename_i e; cases e; exact absurd rfl h
  · rfl
theorem form_no {ps : List RV} (h : ps.length ≠ 8) : formF (.tup ps) = false := by
  unfold formF
  split
  · rename_i e; cases e; exact absurd rfl h
  · rfl
theorem isi_bool {x : RV} (h : okP x) : is_bool x = some (isBl x) := by
  cases x <;> first | rfl | exact (okP_ref h).elim | exact (okP_ty h).elim
def Grow (M M' : RM) : Prop := ∀ b o, M b = some o → M' b = some o
theorem Grow.refl (M : RM) : Grow M M := fun _ _ h => h
theorem Grow.trans {A B C : RM} (x : Grow A B) (y : Grow B C) : Grow A C := fun b o h => y b o (x b o h)
theorem Grow.put {M : RM} {a : Addr} {o : RO} (h : M a = none) : Grow M (R.put M a o) := fun b x e => by rw [put_ne (fun z => by rw [z, h] at e; cases e)]; exact e
def GB (p : Addr) (M M' : RM) : Prop := ∀ b o, b ≠ p → M b = some o → M' b = some o
theorem GB.made {M M' : RM} {p : Addr} {o : RO} (h : M p = none) (g : GB p (R.put M p o) M') : Grow M M' := fun b x e => by
  have n : b ≠ p := fun z => by rw [z, h] at e; cases e
  exact g b x n (by rw [put_ne n]; exact e)
def Own (C : Addr) (M0 M : RM) (a : Addr) (k : Nat) : Prop := (∃ fs, M a = some (.ins C fs) ∧ fs.length ≤ k) ∧ GB a M0 M
theorem Own.start {C : Addr} {M : RM} {a : Addr} (h : M a = some (.ins C [])) : Own C M M a 0 := ⟨⟨_, h, Nat.le_refl _⟩, fun _ _ _ e => e⟩
theorem putFR_len {f : Str} {v : RV} : ∀ {fs : List (Str × RV)}, (putFR f v fs).length ≤ fs.length + 1
  | [] => Nat.le_refl _
  | (g, x) :: r => by
    unfold putFR
    split
    · simp
    · simp only [List.length_cons]; have := putFR_len (f := f) (v := v) (fs := r); omega
theorem do_ksO {C a : Addr} {f : Str} {M0 M : RM} {y : RV} {σ : RSt} {n : RSt → RM → Prop} {k : Nat} (h : Own C M0 M a k) (hk : k ≤ 900) (hn : ∀ M', Own C M0 M' a (k + 1) → n σ M') : kSFld C f y σ n (.ref a) M := by
  obtain ⟨⟨fs, e, l⟩, g⟩ := h
  refine ⟨fs, e, by omega, hn _ ⟨⟨_, put_same, Nat.le_trans putFR_len (by omega)⟩, fun b o hb e' => ?_⟩⟩
  rw [put_ne hb]; exact g b o hb e'
theorem Own.grow {C : Addr} {M0 M M' : RM} {a : Addr} {k : Nat} (h : Own C M0 M a k) (g : Grow M M') : Own C M0 M' a k := by
  obtain ⟨⟨fs, e, l⟩, g0⟩ := h
  exact ⟨⟨fs, g a _ e, l⟩, fun b o hb e' => g b o (g0 b o hb e')⟩
theorem Own.new {C : Addr} {M0 M : RM} {a p : Addr} {k : Nat} {o : RO} (h : Own C M0 M a k) (hp : M p = none) : Own C M0 (R.put M p o) a k := h.grow (Grow.put hp)
theorem cut_in {xs : List RV} {lo hi : Option Int} {v : RV} (h : v ∈ cutR xs lo hi) : v ∈ xs := by
  unfold cutR at h
  exact List.mem_of_mem_drop (List.mem_of_mem_take h)
theorem Grow.over {M M1 : RM} {r : Addr} {o o' : RO} (g : Grow M M1) (hr : M1 r = none) : Grow M (R.put (R.put M1 r o) r o') := fun b x e => by
  have n : b ≠ r := fun z => by have := g b x e; rw [z, hr] at this; cases this
  rw [put_ne n, put_ne n]; exact g b x e
def okD (n : Nat) (x : RV) : Prop := okR n x = true
theorem okD.up {n : Nat} {x : RV} (h : okD n x) : okD (n + 1) x := ok_mono h
theorem okR_le {m n : Nat} {x : RV} (l : m ≤ n) (h : okR m x = true) : okR n x = true := by
  induction l with
  | refl => exact h
  | step _ ih => exact ok_mono ih
theorem okD.toP {n : Nat} {x : RV} (h : okD n x) (l : n ≤ 14) : okP x := okR_le l h
theorem okD_int {n : Nat} {i : Int} : okD n (.int i) := by cases n <;> rfl
theorem okD_non {n : Nat} : okD n .non := by cases n <;> rfl
theorem okD_bl {n : Nat} {b : Bool} : okD n (.bl b) := by cases n <;> rfl
theorem okD_str {n : Nat} {z : Str} (h : z.length ≤ 1000) : okD n (.str z) := by cases n <;> rfl
theorem okD_tup0 {n : Nat} : okD (n + 1) (.tup []) := rfl
theorem okD_ls0 {n : Nat} : okD (n + 1) (.ls []) := rfl
theorem okD_tup1 {n : Nat} {x : RV} (h : okD n x) : okD (n + 1) (.tup [x]) := by have h' : okR n x = true := h; show okR (n + 1) _ = true; simp [okR, h']
theorem okD_ls1 {n : Nat} {x : RV} (h : okD n x) : okD (n + 1) (.ls [x]) := by have h' : okR n x = true := h; show okR (n + 1) _ = true; simp [okR, h']
def AllD (n : Nat) : List RV → Prop
  | [] => True
  | x :: r => okD n x ∧ AllD n r
theorem AllD.mem {n : Nat} : ∀ {xs : List RV}, AllD n xs → ∀ v ∈ xs, okD n v
  | x :: r, h, v, m => by
    rcases List.mem_cons.mp m with rfl | m
    · exact h.1
    · exact AllD.mem h.2 v m
theorem AllD.of {n : Nat} : ∀ {xs : List RV}, (∀ v ∈ xs, okD n v) → AllD n xs
  | [], _ => trivial
  | x :: r, h => ⟨h x List.mem_cons_self, AllD.of fun v m => h v (List.mem_cons_of_mem _ m)⟩
theorem AllD.up {n : Nat} {xs : List RV} (h : AllD n xs) : AllD (n + 1) xs := AllD.of fun v m => (h.mem v m).up
theorem AllD.app {n : Nat} {xs ys : List RV} (h : AllD n xs) (h' : AllD n ys) : AllD n (xs ++ ys) := AllD.of fun v m => (List.mem_append.mp m).elim (h.mem v) (h'.mem v)
theorem cut_sub {xs : List RV} {lo hi : Option Int} {v : RV} (h : v ∈ cutR xs lo hi) : v ∈ xs := by
  unfold cutR at h
  exact List.mem_of_mem_drop (List.mem_of_mem_take h)
theorem AllD.cut {n : Nat} {xs : List RV} {lo hi : Option Int} (h : AllD n xs) : AllD n (cutR xs lo hi) := AllD.of fun v m => h.mem v (cut_sub m)
theorem cut_le (xs : List RV) (lo hi : Option Int) : (cutR xs lo hi).length ≤ xs.length := by
  unfold cutR
  rw [List.length_take, List.length_drop]
  omega
theorem wh_of {x : RV} (h : okP x) : wholeR x = some (isWh x) := by
  cases x <;> first | rfl | exact (okP_ref h).elim | exact (okP_ty h).elim
theorem Bag.other {M : RM} {b p : Addr} {n : Int} {x : RO} (h : Bag M b n) (hp : p ≠ b) : Bag (R.put M p x) b n := by
  obtain ⟨o, e, k⟩ := h
  exact ⟨o, by rw [put_ne (fun z => hp z.symm)]; exact e, k⟩
theorem repS_len {z : Str} {k : Nat} (h : z.length = 1) : (repS z k).length = k := by
  show Array.size (List.foldl _ _ _) = k
  rw [size_rep]
  have : z.cps.size = 1 := h
  rw [this]
  simp
theorem rep41 : (repS (Str.ofString "a") (Int.toNat 41)).length ≤ 1000 := by rw [repS_len (by decide)]; decide
theorem rep40 : (repS (Str.ofString "a") (Int.toNat 40)).length ≤ 1000 := by rw [repS_len (by decide)]; decide
theorem at_D {n : Nat} {xs : List RV} {i : Int} {P : RV → Prop} (h0 : 0 ≤ i) (h1 : i < xs.length) (ha : AllD n xs) (h : ∀ v, okD n v → P v) : (match atI xs i with | some v => P v | none => False) := at_do h0 h1 fun v hv => h v (ha.mem v hv)
def isSt : RV → Bool
  | .str _ => true
  | _ => false
theorem st_of {x : RV} (h : okP x) : is_str x = some (isSt x) := by
  cases x <;> first | rfl | exact (okP_ref h).elim | exact (okP_ty h).elim
theorem in_st {x : RV} {ws : List Str} (h : isSt x = false) : inR x (txs ws) = false := by
  unfold R.inR
  rw [List.any_eq_false]
  intro y hy
  obtain ⟨z, _, rfl⟩ := List.mem_map.mp hy
  cases x <;> first | (cases h; done) | simp [eqR]
theorem txs_ok {ws : List Str} : (txs ws).all (okR 15) = true := by
  rw [List.all_eq_true]; intro y hy; obtain ⟨z, _, rfl⟩ := List.mem_map.mp hy; rfl
theorem okD_str0 {n : Nat} {z : Str} : okD n (.str z) := by cases n <;> rfl
def F0 : RV → Prop
  | .tup ys => ys.length ≤ 1
  | _ => True
def F1 : List RV → Prop
  | [] => True
  | x :: r => F0 x ∧ F1 r
def FE (L : Nat) : RV → Prop
  | .tup ys => ys.length ≤ 1 ∨ (F1 ys ∧ ys.length ≤ L)
  | _ => True
def F2 (L : Nat) : List RV → Prop
  | [] => True
  | x :: r => FE L x ∧ F2 L r
theorem F0.int {i : Int} : F0 (.int i) := trivial
theorem F0.str {i : Str} : F0 (.str i) := trivial
theorem F0.bl {i : Bool} : F0 (.bl i) := trivial
theorem F0.fe {L : Nat} {x : RV} (h : F0 x) : FE L x := by
  cases x with
  | tup ys => exact .inl h
  | _ => trivial
theorem F2.cons0 {L : Nat} {x : RV} {r : List RV} (h : F0 x) (t : F2 L r) : F2 L (x :: r) := ⟨h.fe, t⟩
theorem F2.cons1 {L : Nat} {ys : List RV} {r : List RV} (h : F1 ys) (l : ys.length ≤ L) (t : F2 L r) : F2 L (.tup ys :: r) := ⟨.inr ⟨h, l⟩, t⟩
theorem F1.mem : ∀ {xs : List RV}, F1 xs → ∀ v ∈ xs, F0 v
  | x :: r, h, v, m => by
    rcases List.mem_cons.mp m with rfl | m
    · exact h.1
    · exact F1.mem h.2 v m
theorem F1.of : ∀ {xs : List RV}, (∀ v ∈ xs, F0 v) → F1 xs
  | [], _ => trivial
  | x :: r, h => ⟨h x List.mem_cons_self, F1.of fun v m => h v (List.mem_cons_of_mem _ m)⟩
theorem F2.mem {L : Nat} : ∀ {xs : List RV}, F2 L xs → ∀ v ∈ xs, FE L v
  | x :: r, h, v, m => by
    rcases List.mem_cons.mp m with rfl | m
    · exact h.1
    · exact F2.mem h.2 v m
theorem F2.of {L : Nat} : ∀ {xs : List RV}, (∀ v ∈ xs, FE L v) → F2 L xs
  | [], _ => trivial
  | x :: r, h => ⟨h x List.mem_cons_self, F2.of fun v m => h v (List.mem_cons_of_mem _ m)⟩
theorem F1.app {xs ys : List RV} (h : F1 xs) (h' : F1 ys) : F1 (xs ++ ys) := F1.of fun v m => (List.mem_append.mp m).elim (h.mem v) (h'.mem v)
theorem F2.app {L : Nat} {xs ys : List RV} (h : F2 L xs) (h' : F2 L ys) : F2 L (xs ++ ys) := F2.of fun v m => (List.mem_append.mp m).elim (h.mem v) (h'.mem v)
theorem F1.cut {xs : List RV} {lo hi : Option Int} (h : F1 xs) : F1 (cutR xs lo hi) := F1.of fun v m => h.mem v (cut_sub m)
theorem F2.cut {L : Nat} {xs : List RV} {lo hi : Option Int} (h : F2 L xs) : F2 L (cutR xs lo hi) := F2.of fun v m => h.mem v (cut_sub m)
theorem pool_same {i : Int} {hi : RV} (e : inB (.int i) 1 9999 = true) : inB hi i (if i + 199 < 9999 then i + 199 else 9999) = (inB hi 1 9999 && poolF (.int i) hi) := by
  cases hi with
  | int j =>
    have h1 : 1 ≤ i ∧ i ≤ 9999 := by simpa [inB] using e
    unfold inB poolF
    rw [Bool.eq_iff_iff]
    simp only [Bool.and_eq_true, decide_eq_true_eq]
    split <;> constructor <;> intro z <;> omega
  | _ => rfl
def tmF (a b c d : RV) : RV → Bool
  | .int k => if k = 0 then !inB a 1 1000000 else if k = 1 then !inB b 1 1000000 else if k = 2 then !inB c 1 1000000 else !inB d 0 1000000
  | _ => false
theorem nums4 : R.nums (Int.toNat 4) = [.int 0, .int 1, .int 2, .int 3] := rfl
theorem tm_list (a b c d : RV) : okR 16 (.ls ([] ++ ([.int 0, .int 1, .int 2, .int 3].filter (tmF a b c d)).map fun v => v)) = true ∧ eqR (.ls ([] ++ ([.int 0, .int 1, .int 2, .int 3].filter (tmF a b c d)).map fun v => v)) (.ls []) = timesF (.tup [a, b, c, d]) := by
  have e0 : tmF a b c d (.int 0) = !inB a 1 1000000 := rfl
  have e1 : tmF a b c d (.int 1) = !inB b 1 1000000 := rfl
  have e2 : tmF a b c d (.int 2) = !inB c 1 1000000 := rfl
  have e3 : tmF a b c d (.int 3) = !inB d 0 1000000 := rfl
  simp only [List.filter_cons, List.filter_nil, e0, e1, e2, e3]
  show _ ∧ _ = ((inB a 1 1000000 && (inB b 1 1000000 && (inB c 1 1000000 && true))) && inB d 0 1000000)
  cases inB a 1 1000000 <;> cases inB b 1 1000000 <;> cases inB c 1 1000000 <;> cases inB d 0 1000000 <;> exact ⟨rfl, rfl⟩
theorem nbT {b : Bool} (e : (!b) = true) : b = false := by cases b <;> first | rfl | cases e
theorem nbF {b : Bool} (e : (!b) = false) : b = true := by cases b <;> first | rfl | cases e
theorem formF_def {lo hi le si pi mo re ti : RV} : formF (.tup [lo, hi, le, si, pi, mo, re, ti]) = (R.inR le (txs ["door", "place", "talk"]) && (R.inR si (txs ["all", "place", "talk"]) && (R.inR pi (txs ["next", "keep"]) && (inB mo 1 200 && (isBl re && ((inB lo 1 9999 && (inB hi 1 9999 && poolF lo hi)) && timesF ti)))))) := rfl
theorem FE.up {L L' : Nat} {x : RV} (h : FE L x) (l : L ≤ L') : FE L' x := by
  cases x with
  | tup ys => exact h.imp id fun z => ⟨z.1, Nat.le_trans z.2 l⟩
  | _ => trivial
theorem F2.up {L L' : Nat} {xs : List RV} (h : F2 L xs) (l : L ≤ L') : F2 L' xs := F2.of fun v m => (h.mem v m).up l
theorem at_DF {n : Nat} {xs : List RV} {i : Int} {P : RV → Prop} (h0 : 0 ≤ i) (h1 : i < xs.length) (ha : AllD n xs) (hF : F1 xs) (h : ∀ v, okD n v → F0 v → P v) : (match atI xs i with | some v => P v | none => False) := at_do h0 h1 fun v hv => h v (ha.mem v hv) (hF.mem v hv)
theorem last_some {xs : List RV} (h : 0 < xs.length) : ∃ z, atI xs (-1) = some z ∧ z ∈ xs := by
  have e : ixN xs.length (-1) = some (xs.length - 1) := by
    unfold ixN
    rw [if_neg (by omega), if_pos (by omega)]
    congr 1; omega
  refine ⟨xs[xs.length - 1], ?_, List.getElem_mem _⟩
  unfold L2.atI
  rw [e]
  simp
theorem okD_tupI {m : Nat} {ys : List RV} (h : okD m (.tup ys)) : ∃ m', m = m' + 1 ∧ AllD m' ys := by
  cases m with
  | zero => cases h
  | succ m' =>
    refine ⟨m', rfl, AllD.of fun v hv => ?_⟩
    have h' : ys.all (okR m') = true := h
    exact List.all_eq_true.mp h' v hv
theorem okD_tupA {m : Nat} {ys : List RV} (h : AllD m ys) : okD (m + 1) (.tup ys) := List.all_eq_true.mpr fun v hv => h.mem v hv
theorem okD_lsA {m : Nat} {ys : List RV} (h : AllD m ys) : okD (m + 1) (.ls ys) := List.all_eq_true.mpr fun v hv => h.mem v hv
def Th1 (m l : Nat) (v : RV) : Prop := ∃ xs, ((v = .tup xs ∧ F1 xs) ∨ v = .ls xs) ∧ AllD m xs ∧ xs.length ≤ l
def Th2 (m l L : Nat) (v : RV) : Prop := ∃ xs, ((v = .tup xs ∧ F2 L xs) ∨ v = .ls xs) ∧ AllD m xs ∧ xs.length ≤ l
theorem Bag.mono {M : RM} {b : Addr} {n n' : Int} (h : Bag M b n) (l : n ≤ n') : Bag M b n' := by
  obtain ⟨o, e, k⟩ := h
  exact ⟨o, e, k.mono l⟩
theorem look_lst {M : RM} {q : Addr} {xs : List RV} (e : M q = some (.lst xs)) : lookR M (.ref q) = .ls xs := by
  show (match M q with | some (.lst xs) => RV.ls xs | _ => RV.ref q) = _
  rw [e]
@[irreducible] def sp_is_whole : RSp := fun rs M Q => ∃ x, rs = [x] ∧ okP x ∧ Q (.bl (isWh x)) M
theorem fn_is_whole {f : Addr} {fd : FuncData} (F : Fun K "is_whole" "is_whole" s_is_whole f fd) (T : Txt P w K mg C)  : FnOk P w K mg base CX0 1 f fd ["thing"] (upSp K sp_is_whole) := by
  refine' rfnok F sc_is_whole (fun rs M Q h => ?len) (fun cdv A outer s H E hr => ?term) (fun rs M Q h => ?body)
  case term =>
   refine' sone ?h16
   walk_at "0 no_is_whole h16|sret/1 randv/2 rcallB/1:cisi_int:T.b_isinstance:bt_isinstance:hg=gl_is_whole_isinstance:hdb=db_isinstance:hn=nn_isinstance acons/2 0 acons/2 rty_int:T.b_int:gl_is_whole_int anil rone/1 rnotv/1 rcallB/1:cisi_bool:T.b_isinstance:bt_isinstance:hg=gl_is_whole_isinstance:hdb=db_isinstance:hn=nn_isinstance acons/2 0 acons/2 rty_bool:T.b_bool:gl_is_whole_bool anil"
  case len =>
    unfold sp_is_whole at h; obtain ⟨x, rfl, _⟩ := h; rfl
  case body =>
    unfold sp_is_whole at h
    obtain ⟨x, rfl, hx, h⟩ := h
    cases x <;> first | exact (okP_ref hx).elim | exact (okP_ty hx).elim | (walk_at "rs"; exact h)
theorem is_whole_do {M : RM} {x : RV} {Q : RVK} (hx : okP x) (h : Q (.bl (isWh x)) M) : sp_is_whole [x] M Q := by unfold sp_is_whole; exact ⟨x, rfl, hx, h⟩
@[irreducible] def sp_Rules_init (C : Cs) : RSp := fun rs M Q => ∃ (a : Addr) , rs = [.ref a] ∧ M a = some (.ins C.Rules []) ∧ ∀ M', GB a M M' → Q .non M'
theorem fn_Rules_init {f : Addr} {fd : FuncData} (F : Fun K "__init__" "Rules.__init__" s_Rules_init f fd) (T : Txt P w K mg C)  : FnOk P w K mg base CX0 1 f fd ["self"] (upSp K (sp_Rules_init C)) := by
  refine' rfnok F sc_Rules_init (fun rs M Q h => ?len) (fun cdv A outer s H E hr => ?term) (fun rs M Q h => ?body)
  case term =>
   refine' scons ?h6 ?h7
   walk_at "0 no_Rules_init h6 h7|sfld/2:T.cl_Rules:T.n_Rules_many_told 0 ri sone/1 sfld/2:T.cl_Rules:T.n_Rules_standing 0 rdnew"
  case len =>
    unfold sp_Rules_init at h; obtain ⟨a, rfl, _⟩ := h; rfl
  case body =>
    unfold sp_Rules_init at h
    obtain ⟨a, rfl, e, h⟩ := h
    have o0 := Own.start e
    walk_at "rs"
    refine do_ksO o0 (by decide) fun M1 o1 => ?_
    walk_at "rs"
    intro p hp
    walk_at "rs"
    refine do_ksO (o1.new hp) (by decide) fun M2 o2 => ?_
    exact h M2 o2.2
theorem rules_do {M : RM} {a : Addr} {Q : RVK} (e : M a = some (.ins C.Rules [])) (h : ∀ M', GB a M M' → Q .non M') : (sp_Rules_init C) [.ref a] M Q := by unfold sp_Rules_init; exact ⟨a, rfl, e, h⟩
@[irreducible] def sp_Pool_init (C : Cs) : RSp := fun rs M Q => ∃ (a : Addr) (x y : RV), rs = [.ref a, x, y] ∧ M a = some (.ins C.Pool []) ∧ ∀ M', GB a M M' → Q .non M'
theorem fn_Pool_init {f : Addr} {fd : FuncData} (F : Fun K "__init__" "Pool.__init__" s_Pool_init f fd) (T : Txt P w K mg C)  : FnOk P w K mg base CX0 1 f fd ["self", "low", "high"] (upSp K (sp_Pool_init C)) := by
  refine' rfnok F sc_Pool_init (fun rs M Q h => ?len) (fun cdv A outer s H E hr => ?term) (fun rs M Q h => ?body)
  case term =>
   refine' scons ?h18 ?h19
   walk_at "0 no_Pool_init h18 h19|sfld/2:T.cl_Pool:T.n_Pool_low 0 1 scons/2 sfld/2:T.cl_Pool:T.n_Pool_high 0 2 scons/2 sfld/2:T.cl_Pool:T.n_Pool_mark 0 1 scons/2 sfld/2:T.cl_Pool:T.n_Pool_taken 0 rdnew sone/1 sfld/2:T.cl_Pool:T.n_Pool_until 0 rdnew"
  case len =>
    unfold sp_Pool_init at h; obtain ⟨a, x, y, rfl, _⟩ := h; rfl
  case body =>
    unfold sp_Pool_init at h
    obtain ⟨a, x, y, rfl, e, h⟩ := h
    have o0 := Own.start e
    walk_at "rs"
    refine do_ksO o0 (by decide) fun M1 o1 => ?_
    walk_at "rs"
    refine do_ksO o1 (by decide) fun M2 o2 => ?_
    walk_at "rs"
    refine do_ksO o2 (by decide) fun M3 o3 => ?_
    walk_at "rs"
    intro p hp
    walk_at "rs"
    refine do_ksO (o3.new hp) (by decide) fun M4 o4 => ?_
    walk_at "rs"
    intro q hq
    walk_at "rs"
    refine do_ksO (o4.new hq) (by decide) fun M5 o5 => ?_
    exact h M5 o5.2
theorem pool_do {M : RM} {a : Addr} {x y : RV} {Q : RVK} (e : M a = some (.ins C.Pool [])) (h : ∀ M', GB a M M' → Q .non M') : (sp_Pool_init C) [.ref a, x, y] M Q := by unfold sp_Pool_init; exact ⟨a, x, y, rfl, e, h⟩
@[irreducible] def sp__law_cell : RSp := fun rs M Q => ∃ (ns : List Int) (k : Int), rs = [.ls (ns.map RV.int), .int k] ∧ 0 ≤ k ∧ ∀ i : Int, Q (.int i) M
theorem fn__law_cell {f : Addr} {fd : FuncData} (F : Fun K "_law_cell" "_law_cell" s__law_cell f fd) (T : Txt P w K mg C)  : FnOk P w K mg base CX0 1 f fd ["script", "k"] (upSp K sp__law_cell) := by
  refine' rfnok F sc__law_cell (fun rs M Q h => ?len) (fun cdv A outer s H E hr => ?term) (fun rs M Q h => ?body)
  case term =>
   refine' scons ?h15 ?h16
   walk_at "0 no__law_cell h15 h16|sif/3 rtcmp/2:olt 1 rcallB/1:clen:T.b_len:bt_len:hg=gl__law_cell_len:hdb=db_len:hn=nn_len acons/2 0 anil sone/1 sret/1 rix/2 0 1 snil sone/1 sret/1 ri"
  case len =>
    unfold sp__law_cell at h; obtain ⟨ns, k, rfl, _⟩ := h; rfl
  case body =>
    unfold sp__law_cell at h
    obtain ⟨ns, k, rfl, h0, h⟩ := h
    simp only [R.rSeq, R.rIfS, R.rSet, R.rRet, R.rRetN, R.rTest, R.rOp, R.rVar, R.rC, R.rCons, R.rNil, R.rCall, R.rTup, R.rLsF, R.rLst, R.rIx, R.rAsg, R.rgSub, R.rgN, R.rgU, R.setAll, R.rInt0, R.rInt2, R.rAdd, R.rNext, R.rDrop, R.rIf, R.rAnd, R.rOr, R.rNot, R.rAndV, R.rOrV, R.rNotV, R.rChain, R.rUn, R.rgNeg, R.rSl, R.rPart, R.rNoP, R.rSlc, R.rForI, R.rItS, R.rItR, R.rRngI, R.rComp, R.rYes, R.rTuple, R.rLen, R.rIsi, R.rEqq, R.rNeq, R.rIs, R.rIsNot, R.rTab, R.rDispGet, R.rSetL, R.rMul, R.isN, R.keyR, R.rstart, R.is_int, R.is_bool, R.is_str, R.is_tuple, R.is_list, R.rGt, R.rMod, R.rDiv, R.rPow, R.rShr, R.rBand, R.rLt, R.rLe, R.rGe, R.rSub, List.map_cons, List.map_nil, List.set_cons_zero, List.set_cons_succ, List.length_cons, List.length_nil, List.replicate_succ, List.replicate_zero, List.cons_append, List.nil_append, List.getElem?_cons_zero, List.getElem?_cons_succ, Nat.reduceSub, Nat.reduceAdd, true_implies, Bool.false_eq_true, Bool.true_eq_false, reduceCtorEq, false_implies, and_true, true_and, Option.join_some, Nat.zero_add, decide_eq_true_eq, decide_eq_false_iff_not, List.append_nil]
    refine ⟨fun hk => ?_, fun _ => h 0⟩
    refine at_do h0 (by simpa using hk) fun v hv => ?_
    obtain ⟨i, _, rfl⟩ := List.mem_map.mp hv
    exact h i
theorem cell_do {M : RM} {ns : List Int} {k : Int} {Q : RVK} (h0 : 0 ≤ k) (h : ∀ i : Int, Q (.int i) M) : sp__law_cell [.ls (ns.map RV.int), .int k] M Q := by
  unfold sp__law_cell; exact ⟨ns, k, rfl, h0, h⟩
@[irreducible] def sp__law_well : RSp := fun rs M Q => ∃ (c : Int), rs = [.int c, .int 0] ∧ ∀ (p : Addr) (o : RO), M p = none → BagO o 0 → Q (.ref p) (put M p o)
theorem fn__law_well {f : Addr} {fd : FuncData} (F : Fun K "_law_well" "_law_well" s__law_well f fd) (T : Txt P w K mg C)  : FnOk P w K mg base CX0 1 f fd ["cell", "turn"] (upSp K sp__law_well) := by
  refine' rfnok F sc__law_well (fun rs M Q h => ?len) (fun cdv A outer s H E hr => ?term) (fun rs M Q h => ?body)
  case term =>
   refine' scons ?h34 ?h35
   walk_at "0 no__law_well h34 h35|sif/3 rtcmp/2:oge 0 rop/2:opow ri ri sone/1 sret/1 rlst/1 acons/2 rop/2:osub 0 rop/2:opow ri ri acons/2 rop/2:omod 0 ri acons/2 1 anil snil sone/1 sret/1 rlst/1 acons/2 ri acons/2 rop/2:omod 0 ri acons/2 1 anil"
  case len =>
    unfold sp__law_well at h; obtain ⟨c, rfl, _⟩ := h; rfl
  case body =>
    unfold sp__law_well at h
    obtain ⟨c, rfl, h⟩ := h
    simp only [R.rSeq, R.rIfS, R.rSet, R.rRet, R.rRetN, R.rTest, R.rOp, R.rVar, R.rC, R.rCons, R.rNil, R.rCall, R.rTup, R.rLsF, R.rLst, R.rIx, R.rAsg, R.rgSub, R.rgN, R.rgU, R.setAll, R.rInt0, R.rInt2, R.rAdd, R.rNext, R.rDrop, R.rIf, R.rAnd, R.rOr, R.rNot, R.rAndV, R.rOrV, R.rNotV, R.rChain, R.rUn, R.rgNeg, R.rSl, R.rPart, R.rNoP, R.rSlc, R.rForI, R.rItS, R.rItR, R.rRngI, R.rComp, R.rYes, R.rTuple, R.rLen, R.rIsi, R.rEqq, R.rNeq, R.rIs, R.rIsNot, R.rTab, R.rDispGet, R.rSetL, R.rMul, R.isN, R.keyR, R.rstart, R.is_int, R.is_bool, R.is_str, R.is_tuple, R.is_list, R.rGt, R.rMod, R.rDiv, R.rPow, R.rShr, R.rBand, R.rLt, R.rLe, R.rGe, R.rSub, List.map_cons, List.map_nil, List.set_cons_zero, List.set_cons_succ, List.length_cons, List.length_nil, List.replicate_succ, List.replicate_zero, List.cons_append, List.nil_append, List.getElem?_cons_zero, List.getElem?_cons_succ, Nat.reduceSub, Nat.reduceAdd, true_implies, Bool.false_eq_true, Bool.true_eq_false, reduceCtorEq, false_implies, and_true, true_and, Option.join_some, Nat.zero_add, decide_eq_true_eq, decide_eq_false_iff_not, List.append_nil]
    have e18 : (10 : Int) ^ Int.toNat 18 = 1000000000000000000 := by decide
    rw [e18]
    refine ⟨⟨by decide, by decide, by decide⟩, fun hc => ⟨⟨by decide, by decide, by decide⟩, by decide, szl, fun p hp => ?_⟩, fun _ => ⟨by decide, szl, fun p hp => ?_⟩⟩
    · exact h p _ hp ⟨_, _, 0, rfl, by omega, Int.emod_nonneg _ (by decide), Int.emod_lt_of_pos _ (by decide), by decide, by decide⟩
    · exact h p _ hp ⟨_, _, 0, rfl, by decide, Int.emod_nonneg _ (by decide), Int.emod_lt_of_pos _ (by decide), by decide, by decide⟩
theorem well_do {M : RM} {c : Int} {Q : RVK} (h : ∀ (p : Addr) (o : RO), M p = none → BagO o 0 → Q (.ref p) (put M p o)) : sp__law_well [.int c, .int 0] M Q := by
  unfold sp__law_well; exact ⟨c, rfl, h⟩
@[irreducible] def sp__law_take : RSp := fun rs M Q => ∃ (b : Addr) (m n : Int), rs = [.ref b, .int m] ∧ 0 < m ∧ m < 1073741824 ∧ Bag M b n ∧ n ≤ 100000 ∧ ∀ (r : Int) (o : RO), 0 ≤ r → r < m → BagO o (n + 1) → Q (.int r) (put M b o)
theorem fn__law_take {f : Addr} {fd : FuncData} (F : Fun K "_law_take" "_law_take" s__law_take f fd) (T : Txt P w K mg C)  : FnOk P w K mg base CX0 1 f fd ["bag", "many"] (upSp K sp__law_take) := by
  refine' rfnok F sc__law_take (fun rs M Q h => ?len) (fun cdv A outer s H E hr => ?term) (fun rs M Q h => ?body)
  case term =>
   refine' scons ?h78 ?h79
   walk_at "0 no__law_take h78|sif/3 rtcmp/2:ogt rix/2 0 ri ri scons/2 ssetN/1:4:no__law_take rop/2:omod rix/2 0 ri 1 scons/2"
   case' g14 => refine' sasg ?h63 (gsub ?h64 ?h65 osetl)
   walk_at "16 no__law_take h63 h64 h65 g15 g2 h79|rop/2:odiv rix/2 0 ri 1 0 ri sone/1 sret/1 4 snil scons/2"
   case' g22 => refine' sasg ?h48 (gsub ?h49 ?h50 osetl)
   walk_at "24 no__law_take h48 h49 h50 g23|rop/2:oadd rix/2 0 ri ri 0 ri scons/2 ssetN/1:2:no__law_take ri scons/2 ssetN/1:3:no__law_take rop/2:omod rop/2:oadd rix/2 0 ri rop/2:omul ri rix/2 0 ri 2 scons/2 ssetN/1:3:no__law_take rop/2:omod rop/2:oadd rop/2:oadd rop/2:omul 3 3 rop/2:omul ri rop/2:opow rix/2 0 ri ri ri 2 sone/1 sret/1 rop/2:omod rop/2:odiv rop/2:omod rop/2:opow 3 ri 2 ri 1"
  case len =>
    unfold sp__law_take at h; obtain ⟨b, m, n, rfl, _⟩ := h; rfl
  case body =>
    unfold sp__law_take at h
    obtain ⟨b, m, n, rfl, m0, m1, ⟨o, hb, x, y, t, rfl, x0, y0, y1, t0, t1⟩, hn, h⟩ := h
    simp only [R.rSeq, R.rIfS, R.rSet, R.rRet, R.rRetN, R.rTest, R.rOp, R.rVar, R.rC, R.rCons, R.rNil, R.rCall, R.rTup, R.rLsF, R.rLst, R.rIx, R.rAsg, R.rgSub, R.rgN, R.rgU, R.setAll, R.rInt0, R.rInt2, R.rAdd, R.rNext, R.rDrop, R.rIf, R.rAnd, R.rOr, R.rNot, R.rAndV, R.rOrV, R.rNotV, R.rChain, R.rUn, R.rgNeg, R.rSl, R.rPart, R.rNoP, R.rSlc, R.rForI, R.rItS, R.rItR, R.rRngI, R.rComp, R.rYes, R.rTuple, R.rLen, R.rIsi, R.rEqq, R.rNeq, R.rIs, R.rIsNot, R.rTab, R.rDispGet, R.rSetL, R.rMul, R.isN, R.keyR, R.rstart, R.is_int, R.is_bool, R.is_str, R.is_tuple, R.is_list, R.rGt, R.rMod, R.rDiv, R.rPow, R.rShr, R.rBand, R.rLt, R.rLe, R.rGe, R.rSub, List.map_cons, List.map_nil, List.set_cons_zero, List.set_cons_succ, List.length_cons, List.length_nil, List.replicate_succ, List.replicate_zero, List.cons_append, List.nil_append, List.getElem?_cons_zero, List.getElem?_cons_succ, Nat.reduceSub, Nat.reduceAdd, true_implies, Bool.false_eq_true, Bool.true_eq_false, reduceCtorEq, false_implies, and_true, true_and, Option.join_some, Nat.zero_add, decide_eq_true_eq, decide_eq_false_iff_not, List.append_nil, hb, at0, at1, at2, ix0, ix2, R.put_same, R.put_put]
    generalize e1 : (y + 1000003 * (t + 1)) % 2305843009213693951 = a
    have a0 : 0 ≤ a ∧ a < 2305843009213693951 := by subst e1; exact ⟨Int.emod_nonneg _ (by decide), Int.emod_lt_of_pos _ (by decide)⟩
    generalize e2 : (a * a + 7919 * (t + 1) ^ Int.toNat 2 + 5) % 2305843009213693951 = c
    have c0 : 0 ≤ c ∧ c < 2305843009213693951 := by subst e2; exact ⟨Int.emod_nonneg _ (by decide), Int.emod_lt_of_pos _ (by decide)⟩
    refine ⟨fun hx => ⟨m0, ⟨m0, m1⟩, h _ _ (Int.emod_nonneg _ (by omega)) (Int.emod_lt_of_pos _ m0) ⟨x / m, y, t, rfl, Int.ediv_nonneg x0 (by omega), y0, y1, t0, by omega⟩⟩, fun hx => ⟨cmul_left (by decide) (by decide), by decide, cmul_left (by omega) (by omega), ⟨by decide, by decide, small64 (by omega) (by omega)⟩, cmul_left (by decide) (by decide), by decide, ⟨by decide, by decide, small64 (by omega) (by omega)⟩, by decide, ⟨by decide, by decide⟩, m0, h _ _ (Int.emod_nonneg _ (by omega)) (Int.emod_lt_of_pos _ m0) ⟨x, y, t + 1, rfl, x0, y0, y1, by omega, by omega⟩⟩⟩
theorem take_do {M : RM} {b : Addr} {m n : Int} {Q : RVK} (hB : Bag M b n) (m0 : 0 < m) (m1 : m < 1073741824) (hn : n ≤ 100000) (h : ∀ (r : Int) (o : RO), 0 ≤ r → r < m → BagO o (n + 1) → Q (.int r) (put M b o)) : sp__law_take [.ref b, .int m] M Q :=
  by unfold sp__law_take; exact ⟨b, m, n, rfl, m0, m1, hB, hn, h⟩
@[irreducible] def sp__law_whole : RSp := fun rs M Q => ∃ (x : RV) (b : Bool), rs = [x] ∧ wholeR x = some b ∧ Q (.bl b) M
theorem fn__law_whole {f : Addr} {fd : FuncData} (F : Fun K "_law_whole" "_law_whole" s__law_whole f fd) (T : Txt P w K mg C)  : FnOk P w K mg base CX0 1 f fd ["found"] (upSp K sp__law_whole) := by
  refine' rfnok F sc__law_whole (fun rs M Q h => ?len) (fun cdv A outer s H E hr => ?term) (fun rs M Q h => ?body)
  case term =>
   refine' sone ?h16
   walk_at "0 no__law_whole h16|sret/1 randv/2 rcallB/1:cisi_int:T.b_isinstance:bt_isinstance:hg=gl__law_whole_isinstance:hdb=db_isinstance:hn=nn_isinstance acons/2 0 acons/2 rty_int:T.b_int:gl__law_whole_int anil rone/1 rnotv/1 rcallB/1:cisi_bool:T.b_isinstance:bt_isinstance:hg=gl__law_whole_isinstance:hdb=db_isinstance:hn=nn_isinstance acons/2 0 acons/2 rty_bool:T.b_bool:gl__law_whole_bool anil"
  case len =>
    unfold sp__law_whole at h; obtain ⟨x, b, rfl, _⟩ := h; rfl
  case body =>
    unfold sp__law_whole at h
    obtain ⟨x, b, rfl, e, h⟩ := h
    cases x <;> first | (cases e; done) | (cases e; simp only [R.rSeq, R.rIfS, R.rSet, R.rRet, R.rRetN, R.rTest, R.rOp, R.rVar, R.rC, R.rCons, R.rNil, R.rCall, R.rTup, R.rLsF, R.rLst, R.rIx, R.rAsg, R.rgSub, R.rgN, R.rgU, R.setAll, R.rInt0, R.rInt2, R.rAdd, R.rNext, R.rDrop, R.rIf, R.rAnd, R.rOr, R.rNot, R.rAndV, R.rOrV, R.rNotV, R.rChain, R.rUn, R.rgNeg, R.rSl, R.rPart, R.rNoP, R.rSlc, R.rForI, R.rItS, R.rItR, R.rRngI, R.rComp, R.rYes, R.rTuple, R.rLen, R.rIsi, R.rEqq, R.rNeq, R.rIs, R.rIsNot, R.rTab, R.rDispGet, R.rSetL, R.rMul, R.isN, R.keyR, R.rstart, R.is_int, R.is_bool, R.is_str, R.is_tuple, R.is_list, R.rGt, R.rMod, R.rDiv, R.rPow, R.rShr, R.rBand, R.rLt, R.rLe, R.rGe, R.rSub, List.map_cons, List.map_nil, List.set_cons_zero, List.set_cons_succ, List.length_cons, List.length_nil, List.replicate_succ, List.replicate_zero, List.cons_append, List.nil_append, List.getElem?_cons_zero, List.getElem?_cons_succ, Nat.reduceSub, Nat.reduceAdd, true_implies, Bool.false_eq_true, Bool.true_eq_false, reduceCtorEq, false_implies, and_true, true_and, Option.join_some, Nat.zero_add, decide_eq_true_eq, decide_eq_false_iff_not, List.append_nil, Bool.not_true, Bool.not_false]; exact h)
theorem whole_do {M : RM} {x : RV} {b : Bool} {Q : RVK} (e : wholeR x = some b) (h : Q (.bl b) M) : sp__law_whole [x] M Q := by
  unfold sp__law_whole; exact ⟨x, b, rfl, e, h⟩
@[irreducible] def sp__law_is_one : RSp := fun rs M Q => ∃ x ws, rs = [x, .ls (txs ws)] ∧ okP x ∧ Q (.bl (inR x (txs ws))) M
theorem fn__law_is_one {f : Addr} {fd : FuncData} (F : Fun K "_law_is_one" "_law_is_one" s__law_is_one f fd) (T : Txt P w K mg C)  : FnOk P w K mg base CX0 1 f fd ["thing", "words"] (upSp K sp__law_is_one) := by
  refine' rfnok F sc__law_is_one (fun rs M Q h => ?len) (fun cdv A outer s H E hr => ?term) (fun rs M Q h => ?body)
  case term =>
   refine' sone ?h12
   walk_at "0 no__law_is_one h12|sret/1 randv/2 rcallB/1:cisi_str:T.b_isinstance:bt_isinstance:hg=gl__law_is_one_isinstance:hdb=db_isinstance:hn=nn_isinstance acons/2 0 acons/2 rty_str:T.b_str:gl__law_is_one_str anil rone/1"
   case' g8 => refine' rcmp (oin hr.units) ?h1 ?h2
   walk_at "9 no__law_is_one h1 h2|0 1"
  case len =>
    unfold sp__law_is_one at h; obtain ⟨x, ws, rfl, _⟩ := h; rfl
  case body =>
    unfold sp__law_is_one at h
    obtain ⟨x, ws, rfl, hx, h⟩ := h
    walk_at "rs"
    refine do_isi (st_of hx) ?_
    refine do_kand (fun e => ?_) fun e => ?_
    · walk_at "rs"
      exact do_inL hx.ok15 txs_ok h
    · rw [in_st e] at h
      exact h
theorem is_one_do {M : RM} {x : RV} {ws : List Str} {l : List RV} {Q : RVK} (hx : okP x) (e : l = txs ws) (h : Q (.bl (inR x (txs ws))) M) : sp__law_is_one [x, .ls l] M Q := by subst e; unfold sp__law_is_one; exact ⟨x, ws, rfl, hx, h⟩
@[irreducible] def sp_is_whole_within : RSp := fun rs M Q => ∃ x lo hi, rs = [x, .int lo, .int hi] ∧ okP x ∧ Q (.bl (inB x lo hi)) M
theorem fn_is_whole_within {f : Addr} {fd : FuncData} (F : Fun K "is_whole_within" "is_whole_within" s_is_whole_within f fd) (T : Txt P w K mg C) (F_is_whole : RFn P w K mg base 1 "is_whole" ["thing"] sp_is_whole) : FnOk P w K mg base CX0 2 f fd ["thing", "least", "greatest"] (upSp K sp_is_whole_within) := by
  refine' rfnok F sc_is_whole_within (fun rs M Q h => ?len) (fun cdv A outer s H E hr => ?term) (fun rs M Q h => ?body)
  case term =>
   refine' sone ?h11
   walk_at "0 no_is_whole_within h11|sret/1 randv/2 rcallF/1:F_is_whole:%:hg=gl_is_whole_within_is_whole:hdb=db_is_whole acons/2 0 anil rone/1 rchain/3:ole:ole 1 0 2"
  case len =>
    unfold sp_is_whole_within at h; obtain ⟨x, lo, hi, rfl, _⟩ := h; rfl
  case body =>
    unfold sp_is_whole_within at h
    obtain ⟨x, lo, hi, rfl, hx, h⟩ := h
    walk_at "rs"
    refine is_whole_do hx ?_
    cases x with
    | int i =>
      refine do_kand (fun _ => ?_) (fun e => (by cases e))
      walk_at "rs"
      refine do_kch (fun e => ?_) fun e => andF h e
      walk_at "rs"
      exact andT h e
    | _ => exact do_kand (fun e => (by cases e)) (fun _ => h)
theorem within_do {M : RM} {x : RV} {lo hi : Int} {Q : RVK} (hx : okP x) (h : Q (.bl (inB x lo hi)) M) : sp_is_whole_within [x, .int lo, .int hi] M Q := by unfold sp_is_whole_within; exact ⟨x, lo, hi, rfl, hx, h⟩
@[irreducible] def sp__law_a_form : RSp := fun rs M Q => ∃ (b : Addr) (n : Int), rs = [.ref b] ∧ Bag M b n ∧ 0 ≤ n ∧ n ≤ 500 ∧ ∀ (xs : List RV) (o : RO), AllD 1 xs → F2 4 xs → xs.length = 8 → BagO o (n + 17) → Q (.tup xs) (put M b o)
theorem fn__law_a_form {f : Addr} {fd : FuncData} (F : Fun K "_law_a_form" "_law_a_form" s__law_a_form f fd) (T : Txt P w K mg C) (F__law_take : RFn P w K mg base 1 "_law_take" ["bag", "many"] sp__law_take) : FnOk P w K mg base CX0 2 f fd ["bag"] (upSp K sp__law_a_form) := by
  refine' rfnok F sc__law_a_form (fun rs M Q h => ?len) (fun cdv A outer s H E hr => ?term) (fun rs M Q h => ?body)
  case term =>
   refine' scons ?h231 ?h232
   walk_at "0 no__law_a_form h231 h232|ssetN/1:1:no__law_a_form rix/2 rlsf/1 acons/2 ri acons/2 ri acons/2 ri acons/2 rop/2:oadd ri rcallF/1:F__law_take:%:hg=gl__law_a_form__law_take:hdb=db__law_take acons/2 0 acons/2 ri anil acons/2 ri anil rcallF/1:F__law_take:%:hg=gl__law_a_form__law_take:hdb=db__law_take acons/2 0 acons/2 ri anil scons/2 ssetN/1:2:no__law_a_form rix/2 rlsf/1 acons/2 ri acons/2 rop/2:osub ri 1 acons/2 rop/2:oadd ri rcallF/1:F__law_take:%:hg=gl__law_a_form__law_take:hdb=db__law_take acons/2 0 acons/2 rop/2:osub ri 1 anil anil rcallF/1:F__law_take:%:hg=gl__law_a_form__law_take:hdb=db__law_take acons/2 0 acons/2 ri anil scons/2 ssetN/1:3:no__law_a_form rix/2 rlsf/1 acons/2 rs acons/2 rs acons/2 rs anil rcallF/1:F__law_take:%:hg=gl__law_a_form__law_take:hdb=db__law_take acons/2 0 acons/2 ri anil scons/2 ssetN/1:4:no__law_a_form rix/2 rlsf/1 acons/2 rs acons/2 rs acons/2 rs anil rcallF/1:F__law_take:%:hg=gl__law_a_form__law_take:hdb=db__law_take acons/2 0 acons/2 ri anil scons/2 ssetN/1:5:no__law_a_form rix/2 rlsf/1 acons/2 rs acons/2 rs anil rcallF/1:F__law_take:%:hg=gl__law_a_form__law_take:hdb=db__law_take acons/2 0 acons/2 ri anil scons/2 ssetN/1:6:no__law_a_form rix/2 rlsf/1 acons/2 ri acons/2 ri acons/2 ri acons/2 rop/2:oadd ri rcallF/1:F__law_take:%:hg=gl__law_a_form__law_take:hdb=db__law_take acons/2 0 acons/2 ri anil anil rcallF/1:F__law_take:%:hg=gl__law_a_form__law_take:hdb=db__law_take acons/2 0 acons/2 ri anil scons/2 ssetN/1:7:no__law_a_form"
   case' g131 => refine' rcmp (oeq hr.units) ?h97 ?h98
   walk_at "132 no__law_a_form h97 h98 g130|rcallF/1:F__law_take:%:hg=gl__law_a_form__law_take:hdb=db__law_take acons/2 0 acons/2 ri anil ri scons/2 ssetN/1:8:no__law_a_form rix/2 rlsf/1 acons/2 ri acons/2 ri acons/2 ri anil rcallF/1:F__law_take:%:hg=gl__law_a_form__law_take:hdb=db__law_take acons/2 0 acons/2 ri anil scons/2 ssetN/1:9:no__law_a_form rcallT/1:ctuple:T.b_tuple:bt_tuple:hg=gl__law_a_form_tuple:hdb=db_tuple:hn=nn_tuple acons/2"
   case' g158 => refine' rcompN [(0, "bag"), (8, "far")] (osc := defScope s__law_a_form) (oN := N__law_a_form) rfl ?h66 (fun cl C s H fp vb => ?h67) (fun cl C s H fp vb => ?h68) rfl rfl (by decide +kernel) (by decide +kernel) (by decide +kernel) rfl (by decide +kernel) (by decide +kernel) (by decide +kernel) (by decide +kernel)
   walk_at "160 _ h66 h67 h68|irange/1:T.b_range:hgl=gl__law_a_form_range ri tnil rop/2:oadd ri"
   case' g162 => refine' rcallF F__law_take (hr.mono (by decide)) ?h63 (hg := (glB (by decide +kernel))) (hdb := db__law_take)
   walk_at "163 no__law_a_form h63 g159 g155|acons/2 rvB:1:vb acons/2 rvB:2:vb anil anil scons/2 ssetN/1:10:no__law_a_form rix/2 rlsf/1 acons/2 ri acons/2 rcallF/1:F__law_take:%:hg=gl__law_a_form__law_take:hdb=db__law_take acons/2 0 acons/2 ri anil acons/2 rcallF/1:F__law_take:%:hg=gl__law_a_form__law_take:hdb=db__law_take acons/2 0 acons/2 ri anil acons/2 ri anil rcallF/1:F__law_take:%:hg=gl__law_a_form__law_take:hdb=db__law_take acons/2 0 acons/2 ri anil sone/1 sret/1 rtup/1 acons/2 2 acons/2 rop/2:osub rop/2:oadd 2 1 ri acons/2 3 acons/2 4 acons/2 5 acons/2 6 acons/2 7 acons/2 rop/2:oadd 9 rtup/1 acons/2 10 anil anil"
  case len =>
    unfold sp__law_a_form at h; obtain ⟨b, n, rfl, _⟩ := h; rfl
  case body =>
    unfold sp__law_a_form at h
    obtain ⟨b, n, rfl, hB, n0, n1, h⟩ := h
    refine do_start (τ' := [some (.ref b), none, none, none, none, none, none, none, none, none, none]) rfl ?_
    walk_at "rs"
    refine take_do hB (by decide) (by decide) (by omega) fun r1 o1 ra1 rb1 ho1 => ?_
    walk_at "rs"
    refine take_do (Bag.put ho1) (by decide) (by decide) (by omega) fun r2 o2 ra2 rb2 ho2 => ?_
    walk_at "rs"
    refine at_ints 1 200 ra2 fun many my0 my1 => ?_
    walk_at "rs"
    refine take_do (Bag.put ho2) (by omega) (by omega) (by omega) fun r3 o3 ra3 rb3 ho3 => ?_
    walk_at "rs"
    refine take_do (Bag.put ho3) (by decide) (by decide) (by omega) fun r4 o4 ra4 rb4 ho4 => ?_
    walk_at "rs"
    refine at_ints 1 9999 ra4 fun low lw0 lw1 => ?_
    walk_at "rs"
    refine take_do (Bag.put ho4) (by decide) (by decide) (by omega) fun r5 o5 ra5 rb5 ho5 => ?_
    walk_at "rs"
    refine at_strs (fun _ => True) ra5 ⟨trivial, trivial, trivial, trivial⟩ fun le _ => ?_
    walk_at "rs"
    refine take_do (Bag.put ho5) (by decide) (by decide) (by omega) fun r6 o6 ra6 rb6 ho6 => ?_
    walk_at "rs"
    refine at_strs (fun _ => True) ra6 ⟨trivial, trivial, trivial, trivial⟩ fun si _ => ?_
    walk_at "rs"
    refine take_do (Bag.put ho6) (by decide) (by decide) (by omega) fun r7 o7 ra7 rb7 ho7 => ?_
    walk_at "rs"
    refine at_strs (fun _ => True) ra7 ⟨trivial, trivial, trivial⟩ fun pk _ => ?_
    walk_at "rs"
    refine take_do (Bag.put ho7) (by decide) (by decide) (by omega) fun r8 o8 ra8 rb8 ho8 => ?_
    walk_at "rs"
    refine take_do (Bag.put ho8) (by decide) (by decide) (by omega) fun r9 o9 ra9 rb9 ho9 => ?_
    walk_at "rs"
    refine at_ints 1 200 ra9 fun most mo0 mo1 => ?_
    walk_at "rs"
    refine take_do (Bag.put ho9) (by decide) (by decide) (by omega) fun r10 o10 ra10 rb10 ho10 => ?_
    walk_at "rs"
    refine take_do (Bag.put ho10) (by decide) (by decide) (by omega) fun r11 o11 ra11 rb11 ho11 => ?_
    walk_at "rs"
    refine at_ints 4 1000000 ra11 fun far fa0 fa1 => ?_
    walk_at "rs"
    refine do_rng (by omega) (by omega) ?_
    refine ⟨by decide, ?_⟩
    rw [nums3]
    walk_at "rs"
    refine take_do (Bag.put ho11) (by omega) (by omega) (by omega) fun r12 o12 ra12 rb12 ho12 => ?_
    walk_at "rs"
    refine take_do (Bag.put ho12) (by omega) (by omega) (by omega) fun r13 o13 ra13 rb13 ho13 => ?_
    walk_at "rs"
    refine take_do (Bag.put ho13) (by omega) (by omega) (by omega) fun r14 o14 ra14 rb14 ho14 => ?_
    walk_at "rs"
    refine take_do (Bag.put ho14) (by decide) (by decide) (by omega) fun r15 o15 ra15 rb15 ho15 => ?_
    walk_at "rs"
    refine take_do (Bag.put ho15) (by decide) (by decide) (by omega) fun r16 o16 ra16 rb16 ho16 => ?_
    walk_at "rs"
    refine take_do (Bag.put ho16) (by decide) (by decide) (by omega) fun r17 o17 ra17 rb17 ho17 => ?_
    walk_at "rs"
    refine at_ints 0 1000000 ra17 fun rest re0 re1 => ?_
    walk_at "rs"
    have := h [.int low, .int (low + many - 1), .str le, .str si, .str pk, .int most, .bl (eqR (.int r10) (.int 1)), .tup [.int (1 + r12), .int (1 + r13), .int (1 + r14), .int rest]] o17 ⟨okD_int, okD_int, okD_str0, okD_str0, okD_str0, okD_int, okD_bl, rfl, trivial⟩ (F2.cons0 F0.int (F2.cons0 F0.int (F2.cons0 F0.str (F2.cons0 F0.str (F2.cons0 F0.str (F2.cons0 F0.int (F2.cons0 F0.bl (F2.cons1 ⟨F0.int, F0.int, F0.int, F0.int, trivial⟩ (Nat.le_refl 4) trivial)))))))) rfl (ho17.mono (by omega))
    simpa only [R.put_put, List.nil_append, List.cons_append] using this
theorem form_do {M : RM} {b : Addr} {n : Int} {Q : RVK} (hB : Bag M b n) (n0 : 0 ≤ n) (n1 : n ≤ 500) (h : ∀ (xs : List RV) (o : RO), AllD 1 xs → F2 4 xs → xs.length = 8 → BagO o (n + 17) → Q (.tup xs) (put M b o)) : sp__law_a_form [.ref b] M Q := by unfold sp__law_a_form; exact ⟨b, n, rfl, hB, n0, n1, h⟩
@[irreducible] def sp__law_odd : RSp := fun rs M Q => ∃ (b : Addr) (n : Int) (m : Nat) (x : RV), rs = [.ref b, x] ∧ Bag M b n ∧ 0 ≤ n ∧ n ≤ 1000 ∧ okD m x ∧ m ≤ 13 ∧ ∀ (v : RV) (o : RO), okD (m + 1) v → F0 v → BagO o (n + 5) → Q v (put M b o)
theorem fn__law_odd {f : Addr} {fd : FuncData} (F : Fun K "_law_odd" "_law_odd" s__law_odd f fd) (T : Txt P w K mg C) (F__law_take : RFn P w K mg base 1 "_law_take" ["bag", "many"] sp__law_take) (F__law_whole : RFn P w K mg base 1 "_law_whole" ["found"] sp__law_whole) : FnOk P w K mg base CX0 2 f fd ["bag", "part"] (upSp K sp__law_odd) := by
  refine' rfnok F sc__law_odd (fun rs M Q h => ?len) (fun cdv A outer s H E hr => ?term) (fun rs M Q h => ?body)
  case term =>
   refine' scons ?h157 ?h158
   walk_at "0 no__law_odd h157 h158|ssetN/1:2:no__law_odd rif/3 rtval/1 rcallF/1:F__law_whole:%:hg=gl__law_odd__law_whole:hdb=db__law_whole acons/2 1 anil rop/2:oadd 1 rix/2 rlsf/1 acons/2 ri acons/2 run/1:oneg ri anil rcallF/1:F__law_take:%:hg=gl__law_odd__law_take:hdb=db__law_take acons/2 0 acons/2 ri anil ri scons/2 ssetN/1:3:no__law_odd rlsf/1 acons/2 ri acons/2 ri acons/2 ri acons/2 ri acons/2 ri acons/2 ri acons/2 ri acons/2 ri acons/2 run/1:oneg ri acons/2 rop/2:opow ri ri acons/2 ri acons/2 ri acons/2 ri anil scons/2 ssetN/1:4:no__law_odd rlsf/1 acons/2 2 acons/2 rix/2 3 rcallF/1:F__law_take:%:hg=gl__law_odd__law_take:hdb=db__law_take acons/2 0 acons/2 ri anil acons/2 rn acons/2 rb acons/2 rb acons/2 rs acons/2 rs acons/2 rs acons/2 rs acons/2 rs acons/2 rs anil scons/2 ssetN/1:4:no__law_odd rop/2:oadd 4 rlsf/1 acons/2 rlsf/1 anil acons/2 rtup/1 anil acons/2 rlsf/1 acons/2 1 anil acons/2 rtup/1 acons/2 1 anil acons/2 rs acons/2 rop/2:omulS rs ri acons/2 rop/2:omulS rs ri acons/2 rs acons/2 rs acons/2 rs anil sone/1 sret/1 rif/3"
   case' g129 => refine' rtcmp (oeq hr.units) ?h6 ?h7
   walk_at "132 no__law_odd h6 h7 g130 g131|rcallF/1:F__law_take:%:hg=gl__law_odd__law_take:hdb=db__law_take acons/2 0 acons/2 ri anil ri rix/2 4 rcallF/1:F__law_take:%:hg=gl__law_odd__law_take:hdb=db__law_take acons/2 0 acons/2 ri anil rix/2 4 rcallF/1:F__law_take:%:hg=gl__law_odd__law_take:hdb=db__law_take acons/2 0 acons/2 rcallB/1:clen:T.b_len:bt_len:hg=gl__law_odd_len:hdb=db_len:hn=nn_len acons/2 4 anil anil"
  case len =>
    unfold sp__law_odd at h; obtain ⟨b, n, m, x, rfl, _⟩ := h; rfl
  case body =>
    unfold sp__law_odd at h
    obtain ⟨b, n, m, x, rfl, hB, n0, n1, hp, hm, h⟩ := h
    refine do_start (τ' := [some (.ref b), some x, none, none, none]) rfl ?_
    walk_at "rs"
    refine whole_do (wh_of (hp.toP (by omega))) ?_
    walk_at "rs"
    refine do_kB (fun e => ?_) fun e => ?_
    · cases x with
      | int i =>
        walk_at "rs"
        refine take_do hB (by decide) (by decide) (by omega) fun r1 o1 ra1 rb1 ho1 => ?_
        walk_at "rs"
        refine at_ints (-1) 1 ra1 (fun d _ _ => ?_)
        walk_at "rs"
        refine do_int2 ⟨by decide, by decide, by decide⟩ ?_
        walk_at "rs"
        refine take_do (Bag.put ho1) (by decide) (by decide) (by omega) fun r2 o2 ra2 rb2 ho2 => ?_
        walk_at "rs"
        refine at_ints (-1) (10 ^ Int.toNat 59) ra2 (fun en _ _ => ?_) (by (simp only [List.length_cons, List.length_nil]; omega)) (by (simp only [AllI, and_true]; decide))
        walk_at "rs"
        refine do_mulS (by decide) (by decide) (by decide) ?_
        walk_at "rs"
        refine do_mulS (by decide) (by decide) (by decide) ?_
        walk_at "rs"
        refine take_do (Bag.put ho2) (by decide) (by decide) (by omega) fun r3 o3 ra3 rb3 ho3 => ?_
        walk_at "rs"
        refine do_kB (fun e3 => ?_) fun e3 => ?_
        · walk_at "rs"
          refine take_do (Bag.put ho3) (by decide) (by decide) (by omega) fun r4 o4 ra4 rb4 ho4 => ?_
          walk_at "rs"
          refine at_DF (n := m + 1) ra4 (by (simp only [List.length_cons, List.length_append, List.length_nil]; omega)) ⟨okD_int, okD_int, okD_non, okD_bl, okD_bl, okD_str (by decide), okD_str (by decide), okD_str (by decide), okD_str (by decide), okD_str (by decide), okD_str (by decide), okD_ls0, okD_tup0, okD_ls1 hp, okD_tup1 hp, okD_str (by decide), okD_str rep41, okD_str rep40, okD_str (by decide), okD_str (by decide), okD_str (by decide), trivial⟩ ⟨trivial, trivial, trivial, trivial, trivial, trivial, trivial, trivial, trivial, trivial, trivial, trivial, Nat.zero_le _, trivial, Nat.le_refl _, trivial, trivial, trivial, trivial, trivial, trivial, trivial⟩ fun v hv hv0 => ?_
          have := h v o4 hv hv0 (ho4.mono (by omega))
          simpa only [R.put_put] using this
        · walk_at "rs"
          refine take_do (Bag.put ho3) (by show _ < _; simp only [List.length_cons, List.length_append, List.length_nil]; decide) (by show _ < _; simp only [List.length_cons, List.length_append, List.length_nil]; decide) (by omega) fun r4 o4 ra4 rb4 ho4 => ?_
          walk_at "rs"
          refine at_DF (n := m + 1) ra4 rb4 ⟨okD_int, okD_int, okD_non, okD_bl, okD_bl, okD_str (by decide), okD_str (by decide), okD_str (by decide), okD_str (by decide), okD_str (by decide), okD_str (by decide), okD_ls0, okD_tup0, okD_ls1 hp, okD_tup1 hp, okD_str (by decide), okD_str rep41, okD_str rep40, okD_str (by decide), okD_str (by decide), okD_str (by decide), trivial⟩ ⟨trivial, trivial, trivial, trivial, trivial, trivial, trivial, trivial, trivial, trivial, trivial, trivial, Nat.zero_le _, trivial, Nat.le_refl _, trivial, trivial, trivial, trivial, trivial, trivial, trivial⟩ fun v hv hv0 => ?_
          have := h v o4 hv hv0 (ho4.mono (by omega))
          simpa only [R.put_put] using this
      | _ => cases e
    · walk_at "rs"
      refine do_int2 ⟨by decide, by decide, by decide⟩ ?_
      walk_at "rs"
      refine take_do hB (by decide) (by decide) (by omega) fun r2 o2 ra2 rb2 ho2 => ?_
      walk_at "rs"
      refine at_ints (-1) (10 ^ Int.toNat 59) ra2 (fun en _ _ => ?_) (by (simp only [List.length_cons, List.length_nil]; omega)) (by (simp only [AllI, and_true]; decide))
      walk_at "rs"
      refine do_mulS (by decide) (by decide) (by decide) ?_
      walk_at "rs"
      refine do_mulS (by decide) (by decide) (by decide) ?_
      walk_at "rs"
      refine take_do (Bag.put ho2) (by decide) (by decide) (by omega) fun r3 o3 ra3 rb3 ho3 => ?_
      walk_at "rs"
      refine do_kB (fun e3 => ?_) fun e3 => ?_
      · walk_at "rs"
        refine take_do (Bag.put ho3) (by decide) (by decide) (by omega) fun r4 o4 ra4 rb4 ho4 => ?_
        walk_at "rs"
        refine at_DF (n := m + 1) ra4 (by (simp only [List.length_cons, List.length_append, List.length_nil]; omega)) ⟨okD_int, okD_int, okD_non, okD_bl, okD_bl, okD_str (by decide), okD_str (by decide), okD_str (by decide), okD_str (by decide), okD_str (by decide), okD_str (by decide), okD_ls0, okD_tup0, okD_ls1 hp, okD_tup1 hp, okD_str (by decide), okD_str rep41, okD_str rep40, okD_str (by decide), okD_str (by decide), okD_str (by decide), trivial⟩ ⟨trivial, trivial, trivial, trivial, trivial, trivial, trivial, trivial, trivial, trivial, trivial, trivial, Nat.zero_le _, trivial, Nat.le_refl _, trivial, trivial, trivial, trivial, trivial, trivial, trivial⟩ fun v hv hv0 => ?_
        have := h v o4 hv hv0 (ho4.mono (by omega))
        simpa only [R.put_put] using this
      · walk_at "rs"
        refine take_do (Bag.put ho3) (by show _ < _; simp only [List.length_cons, List.length_append, List.length_nil]; decide) (by show _ < _; simp only [List.length_cons, List.length_append, List.length_nil]; decide) (by omega) fun r4 o4 ra4 rb4 ho4 => ?_
        walk_at "rs"
        refine at_DF (n := m + 1) ra4 rb4 ⟨okD_int, okD_int, okD_non, okD_bl, okD_bl, okD_str (by decide), okD_str (by decide), okD_str (by decide), okD_str (by decide), okD_str (by decide), okD_str (by decide), okD_ls0, okD_tup0, okD_ls1 hp, okD_tup1 hp, okD_str (by decide), okD_str rep41, okD_str rep40, okD_str (by decide), okD_str (by decide), okD_str (by decide), trivial⟩ ⟨trivial, trivial, trivial, trivial, trivial, trivial, trivial, trivial, trivial, trivial, trivial, trivial, Nat.zero_le _, trivial, Nat.le_refl _, trivial, trivial, trivial, trivial, trivial, trivial, trivial⟩ fun v hv hv0 => ?_
        have := h v o4 hv hv0 (ho4.mono (by omega))
        simpa only [R.put_put] using this
theorem odd_do {M : RM} {b : Addr} {n : Int} {m : Nat} {x : RV} {Q : RVK} (hB : Bag M b n) (n0 : 0 ≤ n) (n1 : n ≤ 1000) (hx : okD m x) (hm : m ≤ 13) (h : ∀ (v : RV) (o : RO), okD (m + 1) v → F0 v → BagO o (n + 5) → Q v (put M b o)) : sp__law_odd [.ref b, x] M Q := by unfold sp__law_odd; exact ⟨b, n, m, x, rfl, hB, n0, n1, hx, hm, h⟩
@[irreducible] def sp__law_in_bounds : RSp := fun rs M Q => ∃ x lo hi, rs = [x, .int lo, .int hi] ∧ okP x ∧ Q (.bl (inB x lo hi)) M
theorem fn__law_in_bounds {f : Addr} {fd : FuncData} (F : Fun K "_law_in_bounds" "_law_in_bounds" s__law_in_bounds f fd) (T : Txt P w K mg C) (F__law_whole : RFn P w K mg base 1 "_law_whole" ["found"] sp__law_whole) : FnOk P w K mg base CX0 2 f fd ["thing", "low", "high"] (upSp K sp__law_in_bounds) := by
  refine' rfnok F sc__law_in_bounds (fun rs M Q h => ?len) (fun cdv A outer s H E hr => ?term) (fun rs M Q h => ?body)
  case term =>
   refine' sone ?h14
   walk_at "0 no__law_in_bounds h14|sret/1 randv/2 rcallF/1:F__law_whole:%:hg=gl__law_in_bounds__law_whole:hdb=db__law_whole acons/2 0 anil randv/2 rcmp/2:oge 0 1 rone/1 rcmp/2:ole 0 2"
  case len =>
    unfold sp__law_in_bounds at h; obtain ⟨x, lo, hi, rfl, _⟩ := h; rfl
  case body =>
    unfold sp__law_in_bounds at h
    obtain ⟨x, lo, hi, rfl, hx, h⟩ := h
    walk_at "rs"
    refine whole_do (wh_of hx) ?_
    cases x with
    | int i =>
      refine do_kand (fun _ => ?_) (fun e => (by cases e))
      walk_at "rs"
      refine do_kand (fun e => ?_) fun e => andF h e
      walk_at "rs"
      exact andT h e
    | _ => exact do_kand (fun e => (by cases e)) (fun _ => h)
theorem bounds_do {M : RM} {x : RV} {lo hi : Int} {Q : RVK} (hx : okP x) (h : Q (.bl (inB x lo hi)) M) : sp__law_in_bounds [x, .int lo, .int hi] M Q := by unfold sp__law_in_bounds; exact ⟨x, lo, hi, rfl, hx, h⟩
@[irreducible] def sp_is_door : RSp := fun rs M Q => ∃ x, rs = [x] ∧ okP x ∧ Q (.bl (inB x 1 9999)) M
theorem fn_is_door {f : Addr} {fd : FuncData} (F : Fun K "is_door" "is_door" s_is_door f fd) (T : Txt P w K mg C) (F_is_whole_within : RFn P w K mg base 2 "is_whole_within" ["thing", "least", "greatest"] sp_is_whole_within) : FnOk P w K mg base CX0 3 f fd ["thing"] (upSp K sp_is_door) := by
  refine' rfnok F sc_is_door (fun rs M Q h => ?len) (fun cdv A outer s H E hr => ?term) (fun rs M Q h => ?body)
  case term =>
   refine' sone ?h9
   walk_at "0 no_is_door h9|sret/1 rcallF/1:F_is_whole_within:%:hg=gl_is_door_is_whole_within:hdb=db_is_whole_within acons/2 0 acons/2 ri acons/2 rgi:T.c_GREATEST_DOOR:hg=gl_is_door_GREATEST_DOOR:hd=db_GREATEST_DOOR anil"
  case len =>
    unfold sp_is_door at h; obtain ⟨x, rfl, _⟩ := h; rfl
  case body =>
    unfold sp_is_door at h
    obtain ⟨x, rfl, hx, h⟩ := h
    walk_at "rs"
    exact within_do hx h
theorem is_door_do {M : RM} {x : RV} {Q : RVK} (hx : okP x) (h : Q (.bl (inB x 1 9999)) M) : sp_is_door [x] M Q := by unfold sp_is_door; exact ⟨x, rfl, hx, h⟩
@[irreducible] def sp_is_times : RSp := fun rs M Q => ∃ x, rs = [x] ∧ okP x ∧ Q (.bl (timesF x)) M
theorem fn_is_times {f : Addr} {fd : FuncData} (F : Fun K "is_times" "is_times" s_is_times f fd) (T : Txt P w K mg C) (F_is_whole_within : RFn P w K mg base 2 "is_whole_within" ["thing", "least", "greatest"] sp_is_whole_within) : FnOk P w K mg base CX0 3 f fd ["thing"] (upSp K sp_is_times) := by
  refine' rfnok F sc_is_times (fun rs M Q h => ?len) (fun cdv A outer s H E hr => ?term) (fun rs M Q h => ?body)
  case term =>
   refine' scons ?h57 ?h58
   walk_at "0 no_is_times h57|sif/3 rtw/1 ror/2 rtnot/1 rtval/1 rcallB/1:cisi_tuple:T.b_isinstance:bt_isinstance:hg=gl_is_times_isinstance:hdb=db_isinstance:hn=nn_isinstance acons/2 0 acons/2 rty_tuple:T.b_tuple:gl_is_times_tuple anil ror1/1"
   case' g13 => refine' rtcmp (one hr.units) ?h39 ?h40
   walk_at "14 no_is_times h39 h40 g1 g2 h58|rcallB/1:clen:T.b_len:bt_len:hg=gl_is_times_len:hdb=db_len:hn=nn_len acons/2 0 anil ri sone/1 sret/1 rb snil scons/2 ssetN/1:1:no_is_times"
   case' g21 => refine' rcallB (call_all rfl) T.b_all bt_all ?h32 (hg := gl_is_times_all) (hdb := db_all) (hn := nn_all)
   walk_at "22 _ h32|acons/2"
   case' g22 => refine' rcompN [] (osc := defScope s_is_times) (oN := N_is_times) rfl ?h27 (fun cl C s H fp vb => ?h28) (fun cl C s H fp vb => ?h29) rfl rfl (by decide +kernel) (by decide +kernel) (by decide +kernel) rfl (by decide +kernel) (by decide +kernel) (by decide +kernel) (by decide +kernel)
   walk_at "24 no_is_times h27 h28|iseq/1 rsl/3 0 pnone psome/1 ri tnil"
   case' h29 => refine' rcallF F_is_whole_within (hr.mono (by decide)) ?h26 (hg := (glB (by decide +kernel))) (hdb := db_is_whole_within)
   walk_at "29 _ h26|acons/2 rvB:0:vb acons/2 ri acons/2"
   case' g33 => exact rgi T.c_GREATEST_TIME (hg := (glB (by decide +kernel))) (hd := db_GREATEST_TIME)
   walk_at "35 no_is_times g34 g23 g20|anil anil sone/1 sret/1 randv/2 1 rone/1 rcallF/1:F_is_whole_within:%:hg=gl_is_times_is_whole_within:hdb=db_is_whole_within acons/2 rix/2 0 ri acons/2 ri acons/2 rgi:T.c_GREATEST_TIME:hg=gl_is_times_GREATEST_TIME:hd=db_GREATEST_TIME anil"
  case len =>
    unfold sp_is_times at h; obtain ⟨x, rfl, _⟩ := h; rfl
  case body =>
    unfold sp_is_times at h
    obtain ⟨x, rfl, hx, h⟩ := h
    cases x with
    | ref a => exact (okP_ref hx).elim
    | ty a => exact (okP_ty hx).elim
    | tup ps =>
      have hps := okP_tup hx
      walk_at "rs"
      refine do_kB (fun e => ?_) fun e => ?_
      · walk_at "rs"
        rw [times_no (neLen' (k := 4) e)] at h
        exact h
      · obtain ⟨a, b, c, d, rfl⟩ := len4 (neLen (k := 4) e)
        walk_at "rs"
        refine ⟨(show (3 : Nat) < sizeLine by decide), comp_map (f := fun v => .bl (inB v 1 1000000)) _ _ (fun y hy Q' hq => ?_) ?_⟩
        · have hy' : okP y := hps y (cut_in hy)
          walk_at "rs"
          exact within_do hy' hq
        · walk_at "rs"
          refine do_all [inB a 1 1000000, inB b 1 1000000, inB c 1 1000000] ?_
          walk_at "rs"
          refine do_kand (fun e1 => ?_) fun e1 => andF h e1
          walk_at "rs"
          refine do_kat (v := d) rfl ?_
          walk_at "rs"
          exact within_do (hps d (by simp)) (andT h e1)
    | _ => (walk_at "rs"; exact h)
theorem is_times_do {M : RM} {x : RV} {Q : RVK} (hx : okP x) (h : Q (.bl (timesF x)) M) : sp_is_times [x] M Q := by unfold sp_is_times; exact ⟨x, rfl, hx, h⟩
@[irreducible] def sp_Talks_init (C : Cs) : RSp := fun rs M Q => ∃ (a : Addr) (x y : RV) (r : List RV), rs = [.ref a, .tup (x :: y :: r)] ∧ M a = some (.ins C.Talks []) ∧ ∀ M', GB a M M' → Q .non M'
theorem fn_Talks_init {f : Addr} {fd : FuncData} (F : Fun K "__init__" "Talks.__init__" s_Talks_init f fd) (T : Txt P w K mg C) (F_Pool_init : RIn P w K mg base C.Pool 1 ["self", "low", "high"] (sp_Pool_init C)) : FnOk P w K mg base CX0 3 f fd ["self", "form"] (upSp K (sp_Talks_init C)) := by
  refine' rfnok F sc_Talks_init (fun rs M Q h => ?len) (fun cdv A outer s H E hr => ?term) (fun rs M Q h => ?body)
  case term =>
   refine' scons ?h35 ?h36
   walk_at "0 no_Talks_init h35 h36|sfld/2:T.cl_Talks:T.n_Talks_form 0 1 scons/2 sfld/2:T.cl_Talks:T.n_Talks_pool 0 rmakeF/1:F_Pool_init:%:T.m_Pool:hg=gl_Talks_init_Pool:hdb=db_Pool acons/2 rix/2 1 ri acons/2 rix/2 1 ri anil scons/2 sfld/2:T.cl_Talks:T.n_Talks_now 0 ri scons/2 sfld/2:T.cl_Talks:T.n_Talks_by_inner 0 rdnew scons/2 sfld/2:T.cl_Talks:T.n_Talks_by_number 0 rdnew scons/2 sfld/2:T.cl_Talks:T.n_Talks_holders 0 rdnew sone/1 sfld/2:T.cl_Talks:T.n_Talks_numbers 0 rdnew"
  case len =>
    unfold sp_Talks_init at h; obtain ⟨a, x, y, r, rfl, _⟩ := h; rfl
  case body =>
    unfold sp_Talks_init at h
    obtain ⟨a, x, y, r, rfl, e, h⟩ := h
    have o0 := Own.start e
    walk_at "rs"
    refine do_ksO o0 (by decide) fun M1 o1 => ?_
    walk_at "rs"
    refine do_kat at0 ?_
    walk_at "rs"
    refine do_kat at1 ?_
    walk_at "rs"
    intro p hp
    refine pool_do put_same fun M2 g2 => ⟨rfl, ?_⟩
    walk_at "rs"
    refine do_ksO (o1.grow (g2.made hp)) (by decide) fun M3 o3 => ?_
    walk_at "rs"
    refine do_ksO o3 (by decide) fun M4 o4 => ?_
    walk_at "rs"
    intro p1 h1
    walk_at "rs"
    refine do_ksO (o4.new h1) (by decide) fun M5 o5 => ?_
    walk_at "rs"
    intro p2 h2
    walk_at "rs"
    refine do_ksO (o5.new h2) (by decide) fun M6 o6 => ?_
    walk_at "rs"
    intro p3 h3
    walk_at "rs"
    refine do_ksO (o6.new h3) (by decide) fun M7 o7 => ?_
    walk_at "rs"
    intro p4 h4
    walk_at "rs"
    refine do_ksO (o7.new h4) (by decide) fun M8 o8 => ?_
    exact h M8 o8.2
theorem talks_do {M : RM} {a : Addr} {x y : RV} {r : List RV} {Q : RVK} (e : M a = some (.ins C.Talks [])) (h : ∀ M', GB a M M' → Q .non M') : (sp_Talks_init C) [.ref a, .tup (x :: y :: r)] M Q := by unfold sp_Talks_init; exact ⟨a, x, y, r, rfl, e, h⟩
@[irreducible] def sp__law_is_right : RSp := fun rs M Q => ∃ x, rs = [x] ∧ okP x ∧ Q (.bl (formF x)) M
theorem fn__law_is_right {f : Addr} {fd : FuncData} (F : Fun K "_law_is_right" "_law_is_right" s__law_is_right f fd) (T : Txt P w K mg C) (F__law_in_bounds : RFn P w K mg base 2 "_law_in_bounds" ["thing", "low", "high"] sp__law_in_bounds) (F__law_is_one : RFn P w K mg base 1 "_law_is_one" ["thing", "words"] sp__law_is_one) : FnOk P w K mg base CX0 3 f fd ["thing"] (upSp K sp__law_is_right) := by
  refine' rfnok F sc__law_is_right (fun rs M Q h => ?len) (fun cdv A outer s H E hr => ?term) (fun rs M Q h => ?body)
  case term =>
   refine' scons ?h213 ?h214
   walk_at "0 no__law_is_right h213|sif/3 rtw/1 ror/2 rtnot/1 rtval/1 rcallB/1:cisi_tuple:T.b_isinstance:bt_isinstance:hg=gl__law_is_right_isinstance:hdb=db_isinstance:hn=nn_isinstance acons/2 0 acons/2 rty_tuple:T.b_tuple:gl__law_is_right_tuple anil ror1/1"
   case' g13 => refine' rtcmp (one hr.units) ?h195 ?h196
   walk_at "14 no__law_is_right h195 h196 g1 g2 h214|rcallB/1:clen:T.b_len:bt_len:hg=gl__law_is_right_len:hdb=db_len:hn=nn_len acons/2 0 anil ri sone/1 sret/1 rb snil scons/2 sasg/2 rsl/3 0 pnone psome/1 ri"
   case' g22 => (refine' gtup (is := [2, 3]) rfl ?h187; (case h187 => refine' pgs_cons (pgN 2 no__law_is_right) ?h186; (case h186 => refine' pgs_cons (pgN 3 no__law_is_right) ?h185; (case h185 => exact pgs_nil))))
   walk_at "27 no__law_is_right g20|scons/2 sif/3 rtw/1 ror/2 rtnot/1 rtval/1 rcallF/1:F__law_in_bounds:%:hg=gl__law_is_right__law_in_bounds:hdb=db__law_in_bounds acons/2 2 acons/2 ri acons/2 ri anil ror1/1 rtnot/1 rtval/1 rcallF/1:F__law_in_bounds:%:hg=gl__law_is_right__law_in_bounds:hdb=db__law_in_bounds acons/2 3 acons/2 2 acons/2"
   case' g52 => refine' rcallB (cmin rfl) T.b_min bt_min ?h151 (hg := gl__law_is_right_min) (hdb := db_min) (hn := nn_min)
   walk_at "54 no__law_is_right h151 g53 g30 g31 g28|acons/2 ri acons/2 rop/2:oadd 2 ri anil anil sone/1 sret/1 rb snil scons/2 sif/3 rtw/1 ror/2 rtnot/1 rtval/1 rcallF/1:F__law_is_one:%:hg=gl__law_is_right__law_is_one:hdb=db__law_is_one acons/2 rix/2 0 ri acons/2 rlsf/1 acons/2 rs acons/2 rs acons/2 rs anil anil ror1/1 rtnot/1 rtval/1 rcallF/1:F__law_is_one:%:hg=gl__law_is_right__law_is_one:hdb=db__law_is_one acons/2 rix/2 0 ri acons/2 rlsf/1 acons/2 rs acons/2 rs acons/2 rs anil anil sone/1 sret/1 rb snil scons/2 sif/3 rtw/1 ror/2 rtnot/1 rtval/1 rcallF/1:F__law_is_one:%:hg=gl__law_is_right__law_is_one:hdb=db__law_is_one acons/2 rix/2 0 ri acons/2 rlsf/1 acons/2 rs acons/2 rs anil anil ror1/1 rtnot/1 rtval/1 rcallF/1:F__law_in_bounds:%:hg=gl__law_is_right__law_in_bounds:hdb=db__law_in_bounds acons/2 rix/2 0 ri acons/2 ri acons/2 ri anil sone/1 sret/1 rb snil scons/2 ssetN/1:1:no__law_is_right rix/2 0 ri scons/2 sif/3 rtw/1 ror/2 rtnot/1 rtval/1 rcallB/1:cisi_bool:T.b_isinstance:bt_isinstance:hg=gl__law_is_right_isinstance:hdb=db_isinstance:hn=nn_isinstance acons/2 rix/2 0 ri acons/2 rty_bool:T.b_bool:gl__law_is_right_bool anil ror/2 rtnot/1 rtval/1 rcallB/1:cisi_tuple:T.b_isinstance:bt_isinstance:hg=gl__law_is_right_isinstance:hdb=db_isinstance:hn=nn_isinstance acons/2 1 acons/2 rty_tuple:T.b_tuple:gl__law_is_right_tuple anil ror1/1"
   case' g172 => refine' rtcmp (one hr.units) ?h30 ?h31
   walk_at "173 no__law_is_right h30 h31 g149 g150 g147|rcallB/1:clen:T.b_len:bt_len:hg=gl__law_is_right_len:hdb=db_len:hn=nn_len acons/2 1 anil ri sone/1 sret/1 rb snil sone/1 sret/1"
   case' g179 => refine' rcmp (oeq hr.units) ?h23 ?h24
   case' h23 => refine' rcompN [(1, "times")] (osc := defScope s__law_is_right) (oN := N__law_is_right) rfl ?h19 (fun cl C s H fp vb => ?h20) (fun cl C s H fp vb => ?h21) rfl rfl (by decide +kernel) (by decide +kernel) (by decide +kernel) rfl (by decide +kernel) (by decide +kernel) (by decide +kernel) (by decide +kernel)
   walk_at "180 _ h19 h20|irange/1:T.b_range:hgl=gl__law_is_right_range ri tone/1 rtnot/1 rtval/1"
   case' g183 => refine' rcallF F__law_in_bounds (hr.mono (by decide)) ?h15 (hg := (glB (by decide +kernel))) (hdb := db__law_in_bounds)
   walk_at "184 _ h15|acons/2 rix/2 rvB:1:vb rvB:0:vb acons/2"
   case' g188 => refine' rcallT cintB T.b_int bt_int ?h8 (hg := (glB (by decide +kernel))) (hdb := db_int) (hn := nn_int)
   walk_at "190 _ h8 g189 h21 h24|acons/2 rcmp/2:olt rvB:0:vb ri anil acons/2 ri anil rvB:0:vb rlsf/1 anil"
  case len =>
    unfold sp__law_is_right at h; obtain ⟨x, rfl, _⟩ := h; rfl
  case body =>
    unfold sp__law_is_right at h
    obtain ⟨x, rfl, hx, h⟩ := h
    refine do_start (τ' := [some x, none, none, none]) rfl ?_
    cases x with
    | ref a => exact (okP_ref hx).elim
    | ty a => exact (okP_ty hx).elim
    | tup ps =>
      have hps := okP_tup hx
      walk_at "rs"
      refine do_kB (fun e => ?_) fun e => ?_
      · walk_at "rs"
        rw [form_no (neLen' (k := 8) e)] at h
        exact h
      obtain ⟨lo, hi, le, si, pi, mo, re, ti, rfl⟩ := len8 (neLen (k := 8) e)
      walk_at "rs"
      refine bounds_do (hps lo (by simp)) ?_
      walk_at "rs"
      refine do_kB (fun e1 => ?_) fun e1 => ?_
      · have e1' : inB lo 1 9999 = false := by simpa using e1
        walk_at "rs"
        rw [show formF (.tup [lo, hi, le, si, pi, mo, re, ti]) = false from by simp [formF, e1']] at h
        exact h
      have e1' : inB lo 1 9999 = true := by simpa using e1
      obtain ⟨i, rfl⟩ : ∃ i, lo = .int i := by
        cases lo with
        | int i => exact ⟨i, rfl⟩
        | _ => cases e1'
      walk_at "rs"
      refine do_min2 ?_
      walk_at "rs"
      refine bounds_do (hps hi (by simp)) ?_
      rw [pool_same e1']
      walk_at "rs"
      refine do_kB (fun e2 => ?_) fun e2 => ?_
      · have e2' : (inB hi 1 9999 && poolF (.int i) hi) = false := nbT e2
        walk_at "rs"
        rw [show formF (.tup [.int i, hi, le, si, pi, mo, re, ti]) = false from by rw [formF_def, e1', e2']; simp] at h
        exact h
      have e2' : (inB hi 1 9999 && poolF (.int i) hi) = true := nbF e2
      rw [show formF (.tup [.int i, hi, le, si, pi, mo, re, ti]) = (inR le (txs ["door", "place", "talk"]) && (inR si (txs ["all", "place", "talk"]) && (inR pi (txs ["next", "keep"]) && (inB mo 1 200 && (isBl re && timesF ti))))) from by rw [formF_def, e1', e2']; rfl] at h
      walk_at "rs"
      refine do_kat (v := le) rfl ?_
      walk_at "rs"
      refine is_one_do (ws := ["door", "place", "talk"]) (hps le (by simp)) rfl ?_
      walk_at "rs"
      refine do_kB (fun e3 => ?_) fun e3 => ?_
      · walk_at "rs"
        exact andF h (by simpa using e3)
      replace h := andT h (by simpa using e3)
      walk_at "rs"
      refine do_kat (v := si) rfl ?_
      walk_at "rs"
      refine is_one_do (ws := ["all", "place", "talk"]) (hps si (by simp)) rfl ?_
      walk_at "rs"
      refine do_kB (fun e4 => ?_) fun e4 => ?_
      · walk_at "rs"
        exact andF h (by simpa using e4)
      replace h := andT h (by simpa using e4)
      walk_at "rs"
      refine do_kat (v := pi) rfl ?_
      walk_at "rs"
      refine is_one_do (ws := ["next", "keep"]) (hps pi (by simp)) rfl ?_
      walk_at "rs"
      refine do_kB (fun e5 => ?_) fun e5 => ?_
      · walk_at "rs"
        exact andF h (by simpa using e5)
      replace h := andT h (by simpa using e5)
      walk_at "rs"
      refine do_kat (v := mo) rfl ?_
      walk_at "rs"
      refine bounds_do (hps mo (by simp)) ?_
      walk_at "rs"
      refine do_kB (fun e6 => ?_) fun e6 => ?_
      · walk_at "rs"
        exact andF h (by simpa using e6)
      replace h := andT h (by simpa using e6)
      walk_at "rs"
      refine do_kat (v := ti) rfl ?_
      walk_at "rs"
      refine do_kat (v := re) rfl ?_
      walk_at "rs"
      refine do_isi (isi_bool (hps re (by simp))) ?_
      walk_at "rs"
      refine do_kB (fun e7 => ?_) fun e7 => ?_
      · walk_at "rs"
        exact andF h (by simpa using e7)
      replace h := andT h (by simpa using e7)
      have hti := hps ti (by simp)
      cases ti with
      | ref a => exact (okP_ref hti).elim
      | ty a => exact (okP_ty hti).elim
      | tup ys =>
        have hys := okP_tup hti
        walk_at "rs"
        refine do_kB (fun e8 => ?_) fun e8 => ?_
        · walk_at "rs"
          rw [times_no (neLen' (k := 4) e8)] at h
          exact h
        obtain ⟨a, b, c, d, rfl⟩ := len4 (neLen (k := 4) e8)
        walk_at "rs"
        refine do_rng (by omega) (by omega) ?_
        refine ⟨by decide, ?_⟩
        rw [nums4]
        refine comp_filter (p := tmF a b c d) (f := fun v => v) _ _ (fun y hy Q' hq => ?_) (fun y hy Q' hq => ?_) ?_
        · simp only [List.mem_cons, List.not_mem_nil, or_false] at hy
          rcases hy with rfl | rfl | rfl | rfl
          · walk_at "rs"
            refine do_kat (v := a) rfl ?_
            walk_at "rs"
            refine do_intB ?_
            walk_at "rs"
            refine bounds_do (hys a (by simp)) ?_
            walk_at "rs"
            exact hq
          · walk_at "rs"
            refine do_kat (v := b) rfl ?_
            walk_at "rs"
            refine do_intB ?_
            walk_at "rs"
            refine bounds_do (hys b (by simp)) ?_
            walk_at "rs"
            exact hq
          · walk_at "rs"
            refine do_kat (v := c) rfl ?_
            walk_at "rs"
            refine do_intB ?_
            walk_at "rs"
            refine bounds_do (hys c (by simp)) ?_
            walk_at "rs"
            exact hq
          · walk_at "rs"
            refine do_kat (v := d) rfl ?_
            walk_at "rs"
            refine do_intB ?_
            walk_at "rs"
            refine bounds_do (hys d (by simp)) ?_
            walk_at "rs"
            exact hq
        · walk_at "rs"
          exact hq
        · walk_at "rs"
          refine do_eq (tm_list a b c d).1 rfl ?_
          rw [(tm_list a b c d).2]
          exact h
      | _ => (walk_at "rs"; exact h)
    | _ => (walk_at "rs"; exact h)
theorem right_do {M : RM} {x : RV} {Q : RVK} (hx : okP x) (h : Q (.bl (formF x)) M) : sp__law_is_right [x] M Q := by unfold sp__law_is_right; exact ⟨x, rfl, hx, h⟩
@[irreducible] def sp__law_bent__1 : RSp := fun rs M Q => ∃ (b : Addr) (n : Int) (m : Nat) (ds : List RV), rs = [.ref b, .tup ds] ∧ Bag M b n ∧ 0 ≤ n ∧ n ≤ 900 ∧ AllD m ds ∧ F1 ds ∧ m ≤ 12 ∧ 0 < ds.length ∧ ds.length ≤ 50 ∧ ∀ (v : RV) (o : RO), Th1 (m + 1) (3 * ds.length + 5) v → BagO o (n + 20) → Q v (put M b o)
theorem fn__law_bent__1 {f : Addr} {fd : FuncData} (F : Fun K "_law_bent" "_law_bent" s__law_bent f fd) (T : Txt P w K mg C) (F__law_take : RFn P w K mg base 1 "_law_take" ["bag", "many"] sp__law_take) (F__law_odd : RFn P w K mg base 2 "_law_odd" ["bag", "part"] sp__law_odd) (F__law_bent__0 : RFn P w K mg base 0 "_law_bent" ["bag", "parts"] spNever) : FnOk P w K mg base CX0 3 f fd ["bag", "parts"] (upSp K sp__law_bent__1) := by
  refine' rfnok F sc__law_bent (fun rs M Q h => ?len) (fun cdv A outer s H E hr => ?term) (fun rs M Q h => ?body)
  case term =>
   refine' scons ?h155 ?h156
   walk_at "0 no__law_bent h155 h156|ssetN/1:2:no__law_bent rcallF/1:F__law_take:%:hg=gl__law_bent__law_take:hdb=db__law_take acons/2 0 acons/2 rcallB/1:clen:T.b_len:bt_len:hg=gl__law_bent_len:hdb=db_len:hn=nn_len acons/2 1 anil anil scons/2 ssetN/1:3:no__law_bent rcallF/1:F__law_take:%:hg=gl__law_bent__law_take:hdb=db__law_take acons/2 0 acons/2 ri anil scons/2 sif/3"
   case' g19 => refine' rtcmp (oeq hr.units) ?h117 ?h118
   walk_at "22 no__law_bent h117 h118 g20 g21 g18|3 ri sone/1 sret/1 rop/2:oadd rsl/3 1 pnone psome/1 2 rsl/3 1 psome/1 rop/2:oadd 2 ri pnone snil scons/2 sif/3"
   case' g38 => refine' rtcmp (oeq hr.units) ?h89 ?h90
   walk_at "41 no__law_bent h89 h90 g39 g40 g37|3 ri sone/1 sret/1 rop/2:oadd rop/2:oadd rsl/3 1 pnone psome/1 2 rsl/3 1 psome/1 2 psome/1 rop/2:oadd 2 ri rsl/3 1 psome/1 2 pnone snil scons/2 sif/3"
   case' g64 => refine' rtcmp (oeq hr.units) ?h77 ?h78
   walk_at "67 no__law_bent h77 h78 g65 g66 g63|3 ri sone/1 sret/1 rcallT/1:clist:T.b_list:bt_list:hg=gl__law_bent_list:hdb=db_list:hn=nn_list acons/2 1 anil snil scons/2 sif/3 rtw/1 rand/2 rtcmp/2:olt 3 ri rand/2 rtval/1 rcallB/1:cisi_tuple:T.b_isinstance:bt_isinstance:hg=gl__law_bent_isinstance:hdb=db_isinstance:hn=nn_isinstance acons/2 rix/2 1 run/1:oneg ri acons/2 rty_tuple:T.b_tuple:gl__law_bent_tuple anil rand1/1 rtcmp/2:ogt rcallB/1:clen:T.b_len:bt_len:hg=gl__law_bent_len:hdb=db_len:hn=nn_len acons/2 rix/2 1 run/1:oneg ri anil ri sone/1 sret/1 rop/2:oadd rsl/3 1 pnone psome/1 run/1:oneg ri rtup/1 acons/2 rcallF/1:F__law_bent__0:%:hg=gl__law_bent__law_bent:hdb=db__law_bent acons/2 0 acons/2 rix/2 1 run/1:oneg ri anil anil snil sone/1 sret/1 rop/2:oadd rop/2:oadd rsl/3 1 pnone psome/1 2 rtup/1 acons/2 rcallF/1:F__law_odd:%:hg=gl__law_bent__law_odd:hdb=db__law_odd acons/2 0 acons/2 rix/2 1 2 anil anil rsl/3 1 psome/1 rop/2:oadd 2 ri pnone"
  case len =>
    unfold sp__law_bent__1 at h; obtain ⟨b, n, m, ds, rfl, _⟩ := h; rfl
  case body =>
    unfold sp__law_bent__1 at h
    obtain ⟨b, n, m, ds, rfl, hB, n0, n1, hx, hF, hm, l0, l1, h⟩ := h
    refine do_start (τ' := [some (.ref b), some (.tup ds), none, none]) rfl ?_
    walk_at "rs"
    refine take_do hB (by omega) (by omega) (by omega) fun r1 o1 ra1 rb1 ho1 => ?_
    walk_at "rs"
    refine take_do (Bag.put ho1) (by decide) (by decide) (by omega) fun r2 o2 ra2 rb2 ho2 => ?_
    have c1 := cut_le ds none (some r1)
    have c2 := cut_le ds (some (r1 + 1)) none
    have c3 := cut_le ds (some r1) (some (r1 + 1))
    have c4 := cut_le ds (some r1) none
    have c5 := cut_le ds none (some (-1))
    walk_at "rs"
    refine do_kB (fun e => ?_) fun e => ?_
    · walk_at "rs"
      refine do_addT' (szl (by omega)) ?_
      walk_at "rs"
      have := h (.tup (cutR ds none (some r1) ++ cutR ds (some (r1 + 1)) none)) o2 ⟨_, .inl ⟨rfl, (hF.cut.app hF.cut)⟩, (hx.cut.app hx.cut).up, by rw [List.length_append]; omega⟩ (ho2.mono (by omega))
      simpa only [R.put_put] using this
    walk_at "rs"
    refine do_kB (fun e => ?_) fun e => ?_
    · walk_at "rs"
      refine do_addT' (szl (by omega)) ?_
      walk_at "rs"
      refine do_addT' (szl (by rw [List.length_append]; omega)) ?_
      walk_at "rs"
      have := h (.tup ((cutR ds none (some r1) ++ cutR ds (some r1) (some (r1 + 1))) ++ cutR ds (some r1) none)) o2 ⟨_, .inl ⟨rfl, ((hF.cut.app hF.cut).app hF.cut)⟩, ((hx.cut.app hx.cut).app hx.cut).up, by rw [List.length_append, List.length_append]; omega⟩ (ho2.mono (by omega))
      simpa only [R.put_put] using this
    walk_at "rs"
    refine do_kB (fun e => ?_) fun e => ?_
    · walk_at "rs"
      have := h (.ls ds) o2 ⟨_, .inr rfl, hx.up, by omega⟩ (ho2.mono (by omega))
      simpa only [R.put_put] using this
    walk_at "rs"
    obtain ⟨z, hz, hzm⟩ := last_some l0
    refine do_kB (fun e => ?_) fun e => ?_
    · walk_at "rs"
      refine do_kat hz ?_
      have hzd := hx.mem z hzm
      have hzF := hF.mem z hzm
      cases z with
      | ref a => exact (okP_ref (hzd.toP (by omega))).elim
      | ty a => exact (okP_ty (hzd.toP (by omega))).elim
      | tup ys =>
        walk_at "rs"
        refine do_kat hz ?_
        walk_at "rs"
        refine do_kB (fun e2 => ?_) fun e2 => ?_
        · exact absurd (show ys.length ≤ 1 from hzF) (by have := of_decide_eq_true e2; omega)
        · walk_at "rs"
          refine at_D ra1 rb1 hx fun part hpart => ?_
          walk_at "rs"
          refine odd_do (Bag.put ho2) (by omega) (by omega) hpart (by omega) fun v o3 hv ho0 ho3 => ?_
          walk_at "rs"
          refine do_addT' (szl (by simp only [List.length_cons, List.length_nil]; omega)) ?_
          walk_at "rs"
          refine do_addT' (szl (by rw [List.length_append]; simp only [List.length_cons, List.length_nil]; omega)) ?_
          walk_at "rs"
          have := h (.tup ((cutR ds none (some r1) ++ [v]) ++ cutR ds (some (r1 + 1)) none)) o3 ⟨_, .inl ⟨rfl, ((hF.cut.app (ys := [v]) ⟨ho0, trivial⟩).app hF.cut)⟩, (AllD.app hx.cut.up (ys := [v]) ⟨hv, trivial⟩).app hx.cut.up, by rw [List.length_append, List.length_append]; simp only [List.length_cons, List.length_nil]; omega⟩ (ho3.mono (by omega))
          simpa only [R.put_put] using this
      | _ =>
        walk_at "rs"
        refine at_D ra1 rb1 hx fun part hpart => ?_
        walk_at "rs"
        refine odd_do (Bag.put ho2) (by omega) (by omega) hpart (by omega) fun v o3 hv ho0 ho3 => ?_
        walk_at "rs"
        refine do_addT' (szl (by simp only [List.length_cons, List.length_nil]; omega)) ?_
        walk_at "rs"
        refine do_addT' (szl (by rw [List.length_append]; simp only [List.length_cons, List.length_nil]; omega)) ?_
        walk_at "rs"
        have := h (.tup ((cutR ds none (some r1) ++ [v]) ++ cutR ds (some (r1 + 1)) none)) o3 ⟨_, .inl ⟨rfl, ((hF.cut.app (ys := [v]) ⟨ho0, trivial⟩).app hF.cut)⟩, (AllD.app hx.cut.up (ys := [v]) ⟨hv, trivial⟩).app hx.cut.up, by rw [List.length_append, List.length_append]; simp only [List.length_cons, List.length_nil]; omega⟩ (ho3.mono (by omega))
        simpa only [R.put_put] using this
    · walk_at "rs"
      refine at_D ra1 rb1 hx fun part hpart => ?_
      walk_at "rs"
      refine odd_do (Bag.put ho2) (by omega) (by omega) hpart (by omega) fun v o3 hv ho0 ho3 => ?_
      walk_at "rs"
      refine do_addT' (szl (by simp only [List.length_cons, List.length_nil]; omega)) ?_
      walk_at "rs"
      refine do_addT' (szl (by rw [List.length_append]; simp only [List.length_cons, List.length_nil]; omega)) ?_
      walk_at "rs"
      have := h (.tup ((cutR ds none (some r1) ++ [v]) ++ cutR ds (some (r1 + 1)) none)) o3 ⟨_, .inl ⟨rfl, ((hF.cut.app (ys := [v]) ⟨ho0, trivial⟩).app hF.cut)⟩, (AllD.app hx.cut.up (ys := [v]) ⟨hv, trivial⟩).app hx.cut.up, by rw [List.length_append, List.length_append]; simp only [List.length_cons, List.length_nil]; omega⟩ (ho3.mono (by omega))
      simpa only [R.put_put] using this
theorem bent1_do {M : RM} {b : Addr} {n : Int} {m : Nat} {ds : List RV} {Q : RVK} (hB : Bag M b n) (n0 : 0 ≤ n) (n1 : n ≤ 900) (hx : AllD m ds) (hF : F1 ds) (hm : m ≤ 12) (l0 : 0 < ds.length) (l1 : ds.length ≤ 50) (h : ∀ (v : RV) (o : RO), Th1 (m + 1) (3 * ds.length + 5) v → BagO o (n + 20) → Q v (put M b o)) : sp__law_bent__1 [.ref b, .tup ds] M Q := by unfold sp__law_bent__1; exact ⟨b, n, m, ds, rfl, hB, n0, n1, hx, hF, hm, l0, l1, h⟩
@[irreducible] def sp_is_pool : RSp := fun rs M Q => ∃ x y, rs = [x, y] ∧ okP x ∧ okP y ∧ Q (.bl (inB x 1 9999 && (inB y 1 9999 && poolF x y))) M
theorem fn_is_pool {f : Addr} {fd : FuncData} (F : Fun K "is_pool" "is_pool" s_is_pool f fd) (T : Txt P w K mg C) (F_is_door : RFn P w K mg base 3 "is_door" ["thing"] sp_is_door) : FnOk P w K mg base CX0 4 f fd ["low", "high"] (upSp K sp_is_pool) := by
  refine' rfnok F sc_is_pool (fun rs M Q h => ?len) (fun cdv A outer s H E hr => ?term) (fun rs M Q h => ?body)
  case term =>
   refine' sone ?h18
   walk_at "0 no_is_pool h18|sret/1 randv/2 rcallF/1:F_is_door:%:hg=gl_is_pool_is_door:hdb=db_is_door acons/2 0 anil randv/2 rcallF/1:F_is_door:%:hg=gl_is_pool_is_door:hdb=db_is_door acons/2 1 anil rone/1 rchain/3:ole:ole 0 1 rop/2:oadd 0 rgi:T.c_WIDEST_STEP:hg=gl_is_pool_WIDEST_STEP:hd=db_WIDEST_STEP"
  case len =>
    unfold sp_is_pool at h; obtain ⟨x, y, rfl, _⟩ := h; rfl
  case body =>
    unfold sp_is_pool at h
    obtain ⟨x, y, rfl, hx, hy, h⟩ := h
    walk_at "rs"
    refine is_door_do hx (do_kand (fun e1 => ?_) fun e1 => andF h e1)
    walk_at "rs"
    refine is_door_do hy (do_kand (fun e2 => ?_) fun e2 => andF (andT h e1) e2)
    have h3 := andT (andT h e1) e2
    cases x with
    | int i =>
      cases y with
      | int j =>
        walk_at "rs"
        refine do_kch (fun e => ?_) fun e => andF h3 e
        walk_at "rs"
        exact andT h3 e
      | _ => cases e2
    | _ => cases e1
theorem is_pool_do {M : RM} {x y : RV} {Q : RVK} (hx : okP x) (hy : okP y) (h : Q (.bl (inB x 1 9999 && (inB y 1 9999 && poolF x y))) M) : sp_is_pool [x, y] M Q := by unfold sp_is_pool; exact ⟨x, y, rfl, hx, hy, h⟩
@[irreducible] def sp__law_bent : RSp := fun rs M Q => ∃ (b : Addr) (n : Int) (m L : Nat) (ds : List RV), rs = [.ref b, .tup ds] ∧ Bag M b n ∧ 0 ≤ n ∧ n ≤ 800 ∧ AllD m ds ∧ F2 L ds ∧ L ≤ 17 ∧ m ≤ 12 ∧ 0 < ds.length ∧ ds.length ≤ 50 ∧ ∀ (v : RV) (o : RO), Th2 (m + 1) (3 * ds.length + 5) (3 * L + 5) v → BagO o (n + 40) → Q v (put M b o)
theorem fn__law_bent {f : Addr} {fd : FuncData} (F : Fun K "_law_bent" "_law_bent" s__law_bent f fd) (T : Txt P w K mg C) (F__law_take : RFn P w K mg base 1 "_law_take" ["bag", "many"] sp__law_take) (F__law_odd : RFn P w K mg base 2 "_law_odd" ["bag", "part"] sp__law_odd) (F__law_bent__1 : RFn P w K mg base 3 "_law_bent" ["bag", "parts"] sp__law_bent__1) : FnOk P w K mg base CX0 4 f fd ["bag", "parts"] (upSp K sp__law_bent) := by
  refine' rfnok F sc__law_bent (fun rs M Q h => ?len) (fun cdv A outer s H E hr => ?term) (fun rs M Q h => ?body)
  case term =>
   refine' scons ?h155 ?h156
   walk_at "0 no__law_bent h155 h156|ssetN/1:2:no__law_bent rcallF/1:F__law_take:%:hg=gl__law_bent__law_take:hdb=db__law_take acons/2 0 acons/2 rcallB/1:clen:T.b_len:bt_len:hg=gl__law_bent_len:hdb=db_len:hn=nn_len acons/2 1 anil anil scons/2 ssetN/1:3:no__law_bent rcallF/1:F__law_take:%:hg=gl__law_bent__law_take:hdb=db__law_take acons/2 0 acons/2 ri anil scons/2 sif/3"
   case' g19 => refine' rtcmp (oeq hr.units) ?h117 ?h118
   walk_at "22 no__law_bent h117 h118 g20 g21 g18|3 ri sone/1 sret/1 rop/2:oadd rsl/3 1 pnone psome/1 2 rsl/3 1 psome/1 rop/2:oadd 2 ri pnone snil scons/2 sif/3"
   case' g38 => refine' rtcmp (oeq hr.units) ?h89 ?h90
   walk_at "41 no__law_bent h89 h90 g39 g40 g37|3 ri sone/1 sret/1 rop/2:oadd rop/2:oadd rsl/3 1 pnone psome/1 2 rsl/3 1 psome/1 2 psome/1 rop/2:oadd 2 ri rsl/3 1 psome/1 2 pnone snil scons/2 sif/3"
   case' g64 => refine' rtcmp (oeq hr.units) ?h77 ?h78
   walk_at "67 no__law_bent h77 h78 g65 g66 g63|3 ri sone/1 sret/1 rcallT/1:clist:T.b_list:bt_list:hg=gl__law_bent_list:hdb=db_list:hn=nn_list acons/2 1 anil snil scons/2 sif/3 rtw/1 rand/2 rtcmp/2:olt 3 ri rand/2 rtval/1 rcallB/1:cisi_tuple:T.b_isinstance:bt_isinstance:hg=gl__law_bent_isinstance:hdb=db_isinstance:hn=nn_isinstance acons/2 rix/2 1 run/1:oneg ri acons/2 rty_tuple:T.b_tuple:gl__law_bent_tuple anil rand1/1 rtcmp/2:ogt rcallB/1:clen:T.b_len:bt_len:hg=gl__law_bent_len:hdb=db_len:hn=nn_len acons/2 rix/2 1 run/1:oneg ri anil ri sone/1 sret/1 rop/2:oadd rsl/3 1 pnone psome/1 run/1:oneg ri rtup/1 acons/2 rcallF/1:F__law_bent__1:%:hg=gl__law_bent__law_bent:hdb=db__law_bent acons/2 0 acons/2 rix/2 1 run/1:oneg ri anil anil snil sone/1 sret/1 rop/2:oadd rop/2:oadd rsl/3 1 pnone psome/1 2 rtup/1 acons/2 rcallF/1:F__law_odd:%:hg=gl__law_bent__law_odd:hdb=db__law_odd acons/2 0 acons/2 rix/2 1 2 anil anil rsl/3 1 psome/1 rop/2:oadd 2 ri pnone"
  case len =>
    unfold sp__law_bent at h; obtain ⟨b, n, m, L, ds, rfl, _⟩ := h; rfl
  case body =>
    unfold sp__law_bent at h
    obtain ⟨b, n, m, L, ds, rfl, hB, n0, n1, hx, hF, hL, hm, l0, l1, h⟩ := h
    refine do_start (τ' := [some (.ref b), some (.tup ds), none, none]) rfl ?_
    walk_at "rs"
    refine take_do hB (by omega) (by omega) (by omega) fun r1 o1 ra1 rb1 ho1 => ?_
    walk_at "rs"
    refine take_do (Bag.put ho1) (by decide) (by decide) (by omega) fun r2 o2 ra2 rb2 ho2 => ?_
    have c1 := cut_le ds none (some r1)
    have c2 := cut_le ds (some (r1 + 1)) none
    have c3 := cut_le ds (some r1) (some (r1 + 1))
    have c4 := cut_le ds (some r1) none
    have c5 := cut_le ds none (some (-1))
    walk_at "rs"
    refine do_kB (fun e => ?_) fun e => ?_
    · walk_at "rs"
      refine do_addT' (szl (by omega)) ?_
      walk_at "rs"
      have := h (.tup (cutR ds none (some r1) ++ cutR ds (some (r1 + 1)) none)) o2 ⟨_, .inl ⟨rfl, F2.up (L' := 3 * L + 5) (hF.cut.app hF.cut) (by omega)⟩, (hx.cut.app hx.cut).up, by rw [List.length_append]; omega⟩ (ho2.mono (by omega))
      simpa only [R.put_put] using this
    walk_at "rs"
    refine do_kB (fun e => ?_) fun e => ?_
    · walk_at "rs"
      refine do_addT' (szl (by omega)) ?_
      walk_at "rs"
      refine do_addT' (szl (by rw [List.length_append]; omega)) ?_
      walk_at "rs"
      have := h (.tup ((cutR ds none (some r1) ++ cutR ds (some r1) (some (r1 + 1))) ++ cutR ds (some r1) none)) o2 ⟨_, .inl ⟨rfl, F2.up (L' := 3 * L + 5) ((hF.cut.app hF.cut).app hF.cut) (by omega)⟩, ((hx.cut.app hx.cut).app hx.cut).up, by rw [List.length_append, List.length_append]; omega⟩ (ho2.mono (by omega))
      simpa only [R.put_put] using this
    walk_at "rs"
    refine do_kB (fun e => ?_) fun e => ?_
    · walk_at "rs"
      have := h (.ls ds) o2 ⟨_, .inr rfl, hx.up, by omega⟩ (ho2.mono (by omega))
      simpa only [R.put_put] using this
    walk_at "rs"
    obtain ⟨z, hz, hzm⟩ := last_some l0
    refine do_kB (fun e => ?_) fun e => ?_
    · walk_at "rs"
      refine do_kat hz ?_
      have hzd := hx.mem z hzm
      have hzF := hF.mem z hzm
      cases z with
      | ref a => exact (okP_ref (hzd.toP (by omega))).elim
      | ty a => exact (okP_ty (hzd.toP (by omega))).elim
      | tup ys =>
        walk_at "rs"
        refine do_kat hz ?_
        walk_at "rs"
        refine do_kB (fun e2 => ?_) fun e2 => ?_
        · obtain ⟨hy1, hyl⟩ := hzF.resolve_left (by have := of_decide_eq_true e2; omega)
          obtain ⟨m', rfl, hyd⟩ := okD_tupI hzd
          walk_at "rs"
          refine do_kat hz ?_
          walk_at "rs"
          refine bent1_do (Bag.put ho2) (by omega) (by omega) hyd hy1 (by omega) (by have := of_decide_eq_true e2; omega) (by omega) fun v o3 hv ho3 => ?_
          obtain ⟨zs, hzs, hzd', hzl⟩ := hv
          have fe : FE (3 * L + 5) v := by
            rcases hzs with ⟨rfl, hf⟩ | rfl
            · exact .inr ⟨hf, by omega⟩
            · trivial
          have okv : okD (m' + 1 + 1) v := by
            rcases hzs with ⟨rfl, hf⟩ | rfl
            · exact okD_tupA hzd'
            · exact okD_lsA hzd'
          walk_at "rs"
          refine do_addT' (szl (by simp only [List.length_cons, List.length_nil]; omega)) ?_
          walk_at "rs"
          have := h (.tup (cutR ds none (some (-1)) ++ [v])) o3 ⟨_, .inl ⟨rfl, (F2.up hF.cut (by omega)).app (ys := [v]) ⟨fe, trivial⟩⟩, AllD.app hx.cut.up (ys := [v]) ⟨okv, trivial⟩, by rw [List.length_append]; simp only [List.length_cons, List.length_nil]; omega⟩ (ho3.mono (by omega))
          simpa only [R.put_put] using this
        · walk_at "rs"
          refine at_D ra1 rb1 hx fun part hpart => ?_
          walk_at "rs"
          refine odd_do (Bag.put ho2) (by omega) (by omega) hpart (by omega) fun v o3 hv ho0 ho3 => ?_
          walk_at "rs"
          refine do_addT' (szl (by simp only [List.length_cons, List.length_nil]; omega)) ?_
          walk_at "rs"
          refine do_addT' (szl (by rw [List.length_append]; simp only [List.length_cons, List.length_nil]; omega)) ?_
          walk_at "rs"
          have := h (.tup ((cutR ds none (some r1) ++ [v]) ++ cutR ds (some (r1 + 1)) none)) o3 ⟨_, .inl ⟨rfl, F2.up (L' := 3 * L + 5) ((hF.cut.app (ys := [v]) ⟨ho0.fe, trivial⟩).app hF.cut) (by omega)⟩, (AllD.app hx.cut.up (ys := [v]) ⟨hv, trivial⟩).app hx.cut.up, by rw [List.length_append, List.length_append]; simp only [List.length_cons, List.length_nil]; omega⟩ (ho3.mono (by omega))
          simpa only [R.put_put] using this
      | _ =>
        walk_at "rs"
        refine at_D ra1 rb1 hx fun part hpart => ?_
        walk_at "rs"
        refine odd_do (Bag.put ho2) (by omega) (by omega) hpart (by omega) fun v o3 hv ho0 ho3 => ?_
        walk_at "rs"
        refine do_addT' (szl (by simp only [List.length_cons, List.length_nil]; omega)) ?_
        walk_at "rs"
        refine do_addT' (szl (by rw [List.length_append]; simp only [List.length_cons, List.length_nil]; omega)) ?_
        walk_at "rs"
        have := h (.tup ((cutR ds none (some r1) ++ [v]) ++ cutR ds (some (r1 + 1)) none)) o3 ⟨_, .inl ⟨rfl, F2.up (L' := 3 * L + 5) ((hF.cut.app (ys := [v]) ⟨ho0.fe, trivial⟩).app hF.cut) (by omega)⟩, (AllD.app hx.cut.up (ys := [v]) ⟨hv, trivial⟩).app hx.cut.up, by rw [List.length_append, List.length_append]; simp only [List.length_cons, List.length_nil]; omega⟩ (ho3.mono (by omega))
        simpa only [R.put_put] using this
    · walk_at "rs"
      refine at_D ra1 rb1 hx fun part hpart => ?_
      walk_at "rs"
      refine odd_do (Bag.put ho2) (by omega) (by omega) hpart (by omega) fun v o3 hv ho0 ho3 => ?_
      walk_at "rs"
      refine do_addT' (szl (by simp only [List.length_cons, List.length_nil]; omega)) ?_
      walk_at "rs"
      refine do_addT' (szl (by rw [List.length_append]; simp only [List.length_cons, List.length_nil]; omega)) ?_
      walk_at "rs"
      have := h (.tup ((cutR ds none (some r1) ++ [v]) ++ cutR ds (some (r1 + 1)) none)) o3 ⟨_, .inl ⟨rfl, F2.up (L' := 3 * L + 5) ((hF.cut.app (ys := [v]) ⟨ho0.fe, trivial⟩).app hF.cut) (by omega)⟩, (AllD.app hx.cut.up (ys := [v]) ⟨hv, trivial⟩).app hx.cut.up, by rw [List.length_append, List.length_append]; simp only [List.length_cons, List.length_nil]; omega⟩ (ho3.mono (by omega))
      simpa only [R.put_put] using this
theorem bent_do {M : RM} {b : Addr} {n : Int} {m L : Nat} {ds : List RV} {Q : RVK} (hB : Bag M b n) (n0 : 0 ≤ n) (n1 : n ≤ 800) (hx : AllD m ds) (hF : F2 L ds) (hL : L ≤ 17) (hm : m ≤ 12) (l0 : 0 < ds.length) (l1 : ds.length ≤ 50) (h : ∀ (v : RV) (o : RO), Th2 (m + 1) (3 * ds.length + 5) (3 * L + 5) v → BagO o (n + 40) → Q v (put M b o)) : sp__law_bent [.ref b, .tup ds] M Q := by unfold sp__law_bent; exact ⟨b, n, m, L, ds, rfl, hB, n0, n1, hx, hF, hL, hm, l0, l1, h⟩
@[irreducible] def sp_is_form : RSp := fun rs M Q => ∃ x, rs = [x] ∧ okP x ∧ Q (.bl (formF x)) M
theorem fn_is_form {f : Addr} {fd : FuncData} (F : Fun K "is_form" "is_form" s_is_form f fd) (T : Txt P w K mg C) (F_is_whole_within : RFn P w K mg base 2 "is_whole_within" ["thing", "least", "greatest"] sp_is_whole_within) (F_is_pool : RFn P w K mg base 4 "is_pool" ["low", "high"] sp_is_pool) (F_is_times : RFn P w K mg base 3 "is_times" ["thing"] sp_is_times) : FnOk P w K mg base CX0 5 f fd ["thing"] (upSp K sp_is_form) := by
  refine' rfnok F sc_is_form (fun rs M Q h => ?len) (fun cdv A outer s H E hr => ?term) (fun rs M Q h => ?body)
  case term =>
   refine' scons ?h94 ?h95
   walk_at "0 no_is_form h94|sif/3 rtw/1 ror/2 rtnot/1 rtval/1 rcallB/1:cisi_tuple:T.b_isinstance:bt_isinstance:hg=gl_is_form_isinstance:hdb=db_isinstance:hn=nn_isinstance acons/2 0 acons/2 rty_tuple:T.b_tuple:gl_is_form_tuple anil ror1/1"
   case' g13 => refine' rtcmp (one hr.units) ?h76 ?h77
   walk_at "14 no_is_form h76 h77 g1 g2 h95|rcallB/1:clen:T.b_len:bt_len:hg=gl_is_form_len:hdb=db_len:hn=nn_len acons/2 0 anil ri sone/1 sret/1 rb snil scons/2 sasg/2 0"
   case' g22 => (refine' gtup (is := [1, 2, 3, 4, 5, 6, 7, 8]) rfl ?h68; (case h68 => refine' pgs_cons (pgN 1 no_is_form) ?h67; (case h67 => refine' pgs_cons (pgN 2 no_is_form) ?h66; (case h66 => refine' pgs_cons (pgN 3 no_is_form) ?h65; (case h65 => refine' pgs_cons (pgN 4 no_is_form) ?h64; (case h64 => refine' pgs_cons (pgN 5 no_is_form) ?h63; (case h63 => refine' pgs_cons (pgN 6 no_is_form) ?h62; (case h62 => refine' pgs_cons (pgN 7 no_is_form) ?h61; (case h61 => refine' pgs_cons (pgN 8 no_is_form) ?h60; (case h60 => exact pgs_nil))))))))))
   walk_at "23 _ g20|scons/2 sif/3 rtw/1 ror/2"
   case' g29 => refine' rtcmp (onotin hr.units) ?h48 ?h49
   walk_at "31 no_is_form h48 h49 g30|3 rgt:T.c_LENDINGS:hg=gl_is_form_LENDINGS:hd=db_LENDINGS ror/2"
   case' g31 => refine' rtcmp (onotin hr.units) ?h44 ?h45
   walk_at "33 no_is_form h44 h45 g32|4 rgt:T.c_SIEVES:hg=gl_is_form_SIEVES:hd=db_SIEVES ror1/1"
   case' g33 => refine' rtcmp (onotin hr.units) ?h41 ?h42
   walk_at "34 no_is_form h41 h42 g26 g27 g24|5 rgt:T.c_PICKS:hg=gl_is_form_PICKS:hd=db_PICKS sone/1 sret/1 rb snil scons/2 sif/3 rtw/1 ror/2 rtnot/1 rtval/1 rcallF/1:F_is_whole_within:%:hg=gl_is_form_is_whole_within:hdb=db_is_whole_within acons/2 6 acons/2 ri acons/2 rgi:T.c_GREATEST_MOST:hg=gl_is_form_GREATEST_MOST:hd=db_GREATEST_MOST anil ror1/1 rtnot/1 rtval/1 rcallB/1:cisi_bool:T.b_isinstance:bt_isinstance:hg=gl_is_form_isinstance:hdb=db_isinstance:hn=nn_isinstance acons/2 7 acons/2 rty_bool:T.b_bool:gl_is_form_bool anil sone/1 sret/1 rb snil sone/1 sret/1 randv/2 rcallF/1:F_is_pool:%:hg=gl_is_form_is_pool:hdb=db_is_pool acons/2 1 acons/2 2 anil rone/1 rcallF/1:F_is_times:%:hg=gl_is_form_is_times:hdb=db_is_times acons/2 8 anil"
  case len =>
    unfold sp_is_form at h; obtain ⟨x, rfl, _⟩ := h; rfl
  case body =>
    unfold sp_is_form at h
    obtain ⟨x, rfl, hx, h⟩ := h
    refine do_start (τ' := [some x, none, none, none, none, none, none, none, none]) rfl ?_
    cases x with
    | ref a => exact (okP_ref hx).elim
    | ty a => exact (okP_ty hx).elim
    | tup ps =>
      have hps := okP_tup hx
      walk_at "rs"
      refine do_kB (fun e => ?_) fun e => ?_
      · walk_at "rs"
        rw [form_no (neLen' (k := 8) e)] at h
        exact h
      · obtain ⟨lo, hi, le, si, pi, mo, re, ti, rfl⟩ := len8 (neLen (k := 8) e)
        walk_at "rs"
        refine do_ninT (hps le (by simp)).ok15 rfl ?_
        walk_at "rs"
        refine do_kB (fun e1 => ?_) fun e1 => ?_
        · walk_at "rs"
          exact andF h (by simpa using e1)
        walk_at "rs"
        replace h := andT h (by simpa using e1)
        refine do_ninT (hps si (by simp)).ok15 rfl ?_
        walk_at "rs"
        refine do_kB (fun e2 => ?_) fun e2 => ?_
        · walk_at "rs"
          exact andF h (by simpa using e2)
        walk_at "rs"
        replace h := andT h (by simpa using e2)
        refine do_ninT (hps pi (by simp)).ok15 rfl ?_
        walk_at "rs"
        refine do_kB (fun e3 => ?_) fun e3 => ?_
        · walk_at "rs"
          exact andF h (by simpa using e3)
        walk_at "rs"
        replace h := andT h (by simpa using e3)
        refine within_do (hps mo (by simp)) ?_
        walk_at "rs"
        refine do_kB (fun e4 => ?_) fun e4 => ?_
        · walk_at "rs"
          exact andF h (by simpa using e4)
        walk_at "rs"
        replace h := andT h (by simpa using e4)
        refine do_isi (isi_bool (hps re (by simp))) ?_
        walk_at "rs"
        refine do_kB (fun e5 => ?_) fun e5 => ?_
        · walk_at "rs"
          exact andF h (by simpa using e5)
        walk_at "rs"
        replace h := andT h (by simpa using e5)
        refine is_pool_do (hps lo (by simp)) (hps hi (by simp)) (do_kand (fun e6 => ?_) fun e6 => andF h e6)
        walk_at "rs"
        exact is_times_do (hps ti (by simp)) (andT h e6)
    | _ => (walk_at "rs"; exact h)
theorem is_form_do {M : RM} {x : RV} {Q : RVK} (hx : okP x) (h : Q (.bl (formF x)) M) : sp_is_form [x] M Q := by unfold sp_is_form; exact ⟨x, rfl, hx, h⟩
@[irreducible] def sp_Gate_init (C : Cs) : RSpX := fun rs M Q E => ∃ (a : Addr) (x : RV), rs = [.ref a, x] ∧ okP x ∧ M a = some (.ins C.Gate []) ∧ (formF x = true → ∀ M', GB a M M' → Q .non M') ∧ (formF x = false → ∀ M', GB a M M' → E (.ref C.NoForm) M')
def pk_Gate_init (T : Txt P w K mg C) (F_is_form : RFn P w K mg base 5 "is_form" ["thing"] sp_is_form) (F_Rules_init : RIn P w K mg base C.Rules 1 ["self"] (sp_Rules_init C)) (F_Talks_init : RIn P w K mg base C.Talks 3 ["self", "form"] (sp_Talks_init C)) (E : RXK) : {t : RTS // ∀ (f : Addr) (cdv : Value) (A : Around) (outer : List Env) (s : Shared) (H : Hp) (E0 : XK), UpE K H E E0 → Room 5 (A.deeper (envOfC "Gate.__init__" (defScope s_Gate_init) s.heap.objs.size f cdv)) → RPSs (cxOf (CX1 P w) P w K mg base N_Gate_init "Gate.__init__" (defScope s_Gate_init) f cdv A outer s H E0) (defBody s_Gate_init) t} := by
  refine' ⟨?t, fun f cdv A outer s H E0 u hr => ?term⟩
  case term =>
   have W := wx1 (P := P) (w := w) (K := K) (mg := mg) (base := base) (N := N_Gate_init) (qual := "Gate.__init__") (scope := defScope s_Gate_init) (f := f) (cd := cdv) (A := A) (outer := outer) (s₀ := s) u
   refine' scons ?h36 ?h37
   walk_at "0 no_Gate_init h36|sif/3 rtnot/1 rtval/1 rcallF/1:F_is_form:%:hg=gl_Gate_init_is_form:hdb=db_is_form acons/2 1 anil sone/1"
   case' g8 => refine' sraise W throws1 F.excBase_ValueError (by decide) F.excBase_ValueError T.x_NoForm rfl T.m_NoForm ?h31 (hg := gl_Gate_init_NoForm) (hdb := db_NoForm)
   walk_at "9 no_Gate_init h31 g2 h37|acons/2 rs anil snil scons/2 sfld/2:T.cl_Gate:T.n_Gate_form 0 1 scons/2 sfld/2:T.cl_Gate:T.n_Gate_table 0 rmakeF/1:F_Talks_init:%:T.m_Talks:hg=gl_Gate_init_Talks:hdb=db_Talks acons/2 1 anil scons/2 sfld/2:T.cl_Gate:T.n_Gate_strangers 0 rmakeF0:F_Rules_init:%:T.m_Rules:hg=gl_Gate_init_Rules:hdb=db_Rules scons/2 sfld/2:T.cl_Gate:T.n_Gate_done 0 rlst/1 anil sone/1 sfld/2:T.cl_Gate:T.n_Gate_wish 0 rn"
theorem fn_Gate_init {f : Addr} {fd : FuncData} (F : Fun K "__init__" "Gate.__init__" s_Gate_init f fd) (T : Txt P w K mg C) (F_is_form : RFn P w K mg base 5 "is_form" ["thing"] sp_is_form) (F_Rules_init : RIn P w K mg base C.Rules 1 ["self"] (sp_Rules_init C)) (F_Talks_init : RIn P w K mg base C.Talks 3 ["self", "form"] (sp_Talks_init C)) : FnOk P w K mg base (CX1 P w) 6 f fd ["self", "form"] (upSpX K (sp_Gate_init C)) := by
  refine' rfnokX F sc_Gate_init (t := fun E => (pk_Gate_init (base := base) T F_is_form F_Rules_init F_Talks_init E).1) (fun rs M Q E h => ?len) (fun cdv A outer s H E0 E u hr => (pk_Gate_init (base := base) T F_is_form F_Rules_init F_Talks_init E).2 f cdv A outer s H E0 u hr) (fun rs M Q E h => ?body)
  case len =>
    unfold sp_Gate_init at h; obtain ⟨a, x, rfl, _⟩ := h; rfl
  case body =>
    unfold sp_Gate_init at h
    unfold pk_Gate_init
    dsimp only
    obtain ⟨a, x, rfl, hx, e, h, h'⟩ := h
    have o0 := Own.start e
    walk_at "rs"
    refine is_form_do hx ?_
    walk_at "rs"
    refine do_kB (fun e1 => ?_) fun e1 => ?_
    · refine do_raise ?_
      walk_at "rs"
      exact h' (by simpa using e1) M fun _ _ _ z => z
    · have ef : formF x = true := by simpa using e1
      replace h := h ef
      obtain ⟨x0, x1, r, rfl⟩ : ∃ x0 x1 r, x = .tup (x0 :: x1 :: r) := by
        unfold formF at ef
        split at ef
        · exact ⟨_, _, _, rfl⟩
        · cases ef
      walk_at "rs"
      refine do_ksO o0 (by decide) fun M1 o1 => ?_
      walk_at "rs"
      intro p hp
      refine talks_do put_same fun M2 g2 => ⟨rfl, ?_⟩
      walk_at "rs"
      refine do_ksO (o1.grow (g2.made hp)) (by decide) fun M3 o3 => ?_
      walk_at "rs"
      intro q hq
      refine rules_do put_same fun M4 g4 => ⟨rfl, ?_⟩
      walk_at "rs"
      refine do_ksO (o3.grow (g4.made hq)) (by decide) fun M5 o5 => ?_
      walk_at "rs"
      intro p5 h5
      walk_at "rs"
      refine do_ksO (o5.new h5) (by decide) fun M6 o6 => ?_
      walk_at "rs"
      refine do_ksO o6 (by decide) fun M7 o7 => ?_
      exact h M7 o7.2
theorem gate_do {M : RM} {a : Addr} {x : RV} {Q : RVK} {E : RXK} (hx : okP x) (e : M a = some (.ins C.Gate [])) (h : formF x = true → ∀ M', GB a M M' → Q .non M') (h' : formF x = false → ∀ M', GB a M M' → E (.ref C.NoForm) M') : (sp_Gate_init C) [.ref a, x] M Q E := by unfold sp_Gate_init; exact ⟨a, x, rfl, hx, e, h, h'⟩
@[irreducible] def sp_Desk_init (C : Cs) : RSpX := fun rs M Q E => ∃ (a : Addr) (x : RV), rs = [.ref a, x] ∧ okP x ∧ M a = some (.ins C.Desk []) ∧ (formF x = true → ∀ M', GB a M M' → Q .non M') ∧ (formF x = false → ∀ M', GB a M M' → E (.ref C.NoForm) M')
def pk_Desk_init (T : Txt P w K mg C) (F_Gate_init : RInX P w K mg base C.Gate 6 ["self", "form"] (sp_Gate_init C)) (E : RXK) : {t : RTS // ∀ (f : Addr) (cdv : Value) (A : Around) (outer : List Env) (s : Shared) (H : Hp) (E0 : XK), UpE K H E E0 → Room 7 (A.deeper (envOfC "Desk.__init__" (defScope s_Desk_init) s.heap.objs.size f cdv)) → RPSs (cxOf (CX1 P w) P w K mg base N_Desk_init "Desk.__init__" (defScope s_Desk_init) f cdv A outer s H E0) (defBody s_Desk_init) t} := by
  refine' ⟨?t, fun f cdv A outer s H E0 u hr => ?term⟩
  case term =>
   have W := wx1 (P := P) (w := w) (K := K) (mg := mg) (base := base) (N := N_Desk_init) (qual := "Desk.__init__") (scope := defScope s_Desk_init) (f := f) (cd := cdv) (A := A) (outer := outer) (s₀ := s) u
   refine' sone ?h6
   walk_at "0 no_Desk_init h6|sfld/2:T.cl_Desk:T.n_Desk_gate 0 rmakeX/1:W:F_Gate_init:%:T.m_Gate:hg=gl_Desk_init_Gate:hdb=db_Gate acons/2 1 anil"
theorem fn_Desk_init {f : Addr} {fd : FuncData} (F : Fun K "__init__" "Desk.__init__" s_Desk_init f fd) (T : Txt P w K mg C) (F_Gate_init : RInX P w K mg base C.Gate 6 ["self", "form"] (sp_Gate_init C)) : FnOk P w K mg base (CX1 P w) 8 f fd ["self", "form"] (upSpX K (sp_Desk_init C)) := by
  refine' rfnokX F sc_Desk_init (t := fun E => (pk_Desk_init (base := base) T F_Gate_init E).1) (fun rs M Q E h => ?len) (fun cdv A outer s H E0 E u hr => (pk_Desk_init (base := base) T F_Gate_init E).2 f cdv A outer s H E0 u hr) (fun rs M Q E h => ?body)
  case len =>
    unfold sp_Desk_init at h; obtain ⟨a, x, rfl, _⟩ := h; rfl
  case body =>
    unfold sp_Desk_init at h
    unfold pk_Desk_init
    dsimp only
    obtain ⟨a, x, rfl, hx, e, h, h'⟩ := h
    have o0 := Own.start e
    walk_at "rs"
    intro p hp
    refine gate_do hx put_same (fun ef M1 g1 => ⟨rfl, ?_⟩) fun ef M1 g1 => h' ef M1 (o0.grow (g1.made hp)).2
    walk_at "rs"
    refine do_ksO (o0.grow (g1.made hp)) (by decide) fun M2 o2 => ?_
    exact h ef M2 o2.2
theorem desk_do {M : RM} {a : Addr} {x : RV} {Q : RVK} {E : RXK} (hx : okP x) (e : M a = some (.ins C.Desk [])) (h : formF x = true → ∀ M', GB a M M' → Q .non M') (h' : formF x = false → ∀ M', GB a M M' → E (.ref C.NoForm) M') : (sp_Desk_init C) [.ref a, x] M Q E := by unfold sp_Desk_init; exact ⟨a, x, rfl, hx, e, h, h'⟩
@[irreducible] def sp_replayed (C : Cs) : RSpX := fun rs M Q E => ∃ (x : RV), rs = [x, .ls []] ∧ okP x ∧ (formF x = true → ∀ v M', Grow M M' → Q v M') ∧ (formF x = false → ∀ M', Grow M M' → E (.ref C.NoForm) M')
def pk_replayed (T : Txt P w K mg C) (F_Gate_init : RInX P w K mg base C.Gate 6 ["self", "form"] (sp_Gate_init C)) (E : RXK) : {t : RTS // ∀ (f : Addr) (cdv : Value) (A : Around) (outer : List Env) (s : Shared) (H : Hp) (E0 : XK), UpE K H E E0 → Room 7 (A.deeper (envOfC "replayed" (defScope s_replayed) s.heap.objs.size f cdv)) → RPSs (cxOf (CX1 P w) P w K mg base N_replayed "replayed" (defScope s_replayed) f cdv A outer s H E0) (defBody s_replayed) t} := by
  refine' ⟨?t, fun f cdv A outer s H E0 u hr => ?term⟩
  case term =>
   have W := wx1 (P := P) (w := w) (K := K) (mg := mg) (base := base) (N := N_replayed) (qual := "replayed") (scope := defScope s_replayed) (f := f) (cd := cdv) (A := A) (outer := outer) (s₀ := s) u
   refine' scons ?h12 ?h13
   walk_at "0 no_replayed h12 h13|ssetN/1:2:no_replayed rmakeX/1:W:F_Gate_init:%:T.m_Gate:hg=gl_replayed_Gate:hdb=db_Gate acons/2 0 anil scons/2"
   case' g4 => refine' RPS.nox (sfor PassesOwn.never rfl ?h4 ?h5 (sone snever))
   walk_at "6 no_replayed h4 h5 g5|iseq/1 1 gnameN:3:no_replayed sone/1 sret/1 2"
theorem fn_replayed {f : Addr} {fd : FuncData} (F : Fun K "replayed" "replayed" s_replayed f fd) (T : Txt P w K mg C) (F_Gate_init : RInX P w K mg base C.Gate 6 ["self", "form"] (sp_Gate_init C)) : FnOk P w K mg base (CX1 P w) 8 f fd ["form", "deeds"] (upSpX K (sp_replayed C)) := by
  refine' rfnokX F sc_replayed (t := fun E => (pk_replayed (base := base) T F_Gate_init E).1) (fun rs M Q E h => ?len) (fun cdv A outer s H E0 E u hr => (pk_replayed (base := base) T F_Gate_init E).2 f cdv A outer s H E0 u hr) (fun rs M Q E h => ?body)
  case len =>
    unfold sp_replayed at h; obtain ⟨x, rfl, _⟩ := h; rfl
  case body =>
    unfold sp_replayed at h
    unfold pk_replayed
    dsimp only
    obtain ⟨x, rfl, hx, h, h'⟩ := h
    walk_at "rs"
    intro p hp
    refine gate_do hx put_same (fun ef M1 g1 => ⟨rfl, ?_⟩) fun ef M1 g1 => h' ef M1 (g1.made hp)
    walk_at "rs"
    exact h ef _ M1 (g1.made hp)
theorem replayed_do {M : RM} {x : RV} {Q : RVK} {E : RXK} (hx : okP x) (h : formF x = true → ∀ v M', Grow M M' → Q v M') (h' : formF x = false → ∀ M', Grow M M' → E (.ref C.NoForm) M') : (sp_replayed C) [x, .ls []] M Q E := by unfold sp_replayed; exact ⟨x, rfl, hx, h, h'⟩
@[irreducible] def sp_looked (C : Cs) : RSpX := fun rs M Q E => ∃ (x : RV), rs = [x, .ls []] ∧ okP x ∧ (formF x = true → ∀ v M', Grow M M' → Q v M') ∧ (formF x = false → ∀ M', Grow M M' → E (.ref C.NoForm) M')
def pk_looked (T : Txt P w K mg C) (F_Gate_init : RInX P w K mg base C.Gate 6 ["self", "form"] (sp_Gate_init C)) (E : RXK) : {t : RTS // ∀ (f : Addr) (cdv : Value) (A : Around) (outer : List Env) (s : Shared) (H : Hp) (E0 : XK), UpE K H E E0 → Room 7 (A.deeper (envOfC "looked" (defScope s_looked) s.heap.objs.size f cdv)) → RPSs (cxOf (CX1 P w) P w K mg base N_looked "looked" (defScope s_looked) f cdv A outer s H E0) (defBody s_looked) t} := by
  refine' ⟨?t, fun f cdv A outer s H E0 u hr => ?term⟩
  case term =>
   have W := wx1 (P := P) (w := w) (K := K) (mg := mg) (base := base) (N := N_looked) (qual := "looked") (scope := defScope s_looked) (f := f) (cd := cdv) (A := A) (outer := outer) (s₀ := s) u
   refine' scons ?h15 ?h16
   walk_at "0 no_looked h15 h16|ssetN/1:2:no_looked rmakeX/1:W:F_Gate_init:%:T.m_Gate:hg=gl_looked_Gate:hdb=db_Gate acons/2 0 anil scons/2"
   case' g4 => refine' RPS.nox (sfor PassesOwn.never rfl ?h7 ?h8 (sone snever))
   walk_at "6 no_looked h7|ienum0/1:T.b_enumerate:hgl=gl_looked_enumerate 1"
   case' h8 => (refine' gtup (is := [3, 4]) rfl ?h5; (case h5 => refine' pgs_cons (pgN 3 no_looked) ?h4; (case h4 => refine' pgs_cons (pgN 4 no_looked) ?h3; (case h3 => exact pgs_nil))))
   walk_at "7 _ g5|sone/1 sret/1 rn"
theorem fn_looked {f : Addr} {fd : FuncData} (F : Fun K "looked" "looked" s_looked f fd) (T : Txt P w K mg C) (F_Gate_init : RInX P w K mg base C.Gate 6 ["self", "form"] (sp_Gate_init C)) : FnOk P w K mg base (CX1 P w) 8 f fd ["form", "book"] (upSpX K (sp_looked C)) := by
  refine' rfnokX F sc_looked (t := fun E => (pk_looked (base := base) T F_Gate_init E).1) (fun rs M Q E h => ?len) (fun cdv A outer s H E0 E u hr => (pk_looked (base := base) T F_Gate_init E).2 f cdv A outer s H E0 u hr) (fun rs M Q E h => ?body)
  case len =>
    unfold sp_looked at h; obtain ⟨x, rfl, _⟩ := h; rfl
  case body =>
    unfold sp_looked at h
    unfold pk_looked
    dsimp only
    obtain ⟨x, rfl, hx, h, h'⟩ := h
    walk_at "rs"
    intro p hp
    refine gate_do hx put_same (fun ef M1 g1 => ⟨rfl, ?_⟩) fun ef M1 g1 => h' ef M1 (g1.made hp)
    walk_at "rs"
    exact h ef _ M1 (g1.made hp)
theorem looked_do {M : RM} {x : RV} {Q : RVK} {E : RXK} (hx : okP x) (h : formF x = true → ∀ v M', Grow M M' → Q v M') (h' : formF x = false → ∀ M', Grow M M' → E (.ref C.NoForm) M') : (sp_looked C) [x, .ls []] M Q E := by unfold sp_looked; exact ⟨x, rfl, hx, h, h'⟩
def pkB__law_made (T : Txt P w K mg C) (F_Gate_init : RInX P w K mg base C.Gate 6 ["self", "form"] (sp_Gate_init C)) (F_Desk_init : RInX P w K mg base C.Desk 8 ["self", "form"] (sp_Desk_init C)) (F_replayed : RFnX P w K mg base 8 "replayed" ["form", "deeds"] (sp_replayed C)) (F_looked : RFnX P w K mg base 8 "looked" ["form", "book"] (sp_looked C)) (E1 : RXK) : {t : RTS // ∀ (f : Addr) (cdv : Value) (A : Around) (outer : List Env) (s : Shared) (H : Hp) (E : XK), Room 9 (A.deeper (envOfC "_law_made" (defScope s__law_made) s.heap.objs.size f cdv)) → ∀ (H1 : Hp) (pn : List (Addr × Obj)) (xe : Value → Shared → Prop) (E0 : XK), Wx (cxB (cxOf CX0 P w K mg base N__law_made "_law_made" (defScope s__law_made) f cdv A outer s H E).nox H1 pn xe) E1 E0 → RPSs (cxB (cxOf CX0 P w K mg base N__law_made "_law_made" (defScope s__law_made) f cdv A outer s H E).nox H1 pn xe) (tryBody ((defBody s__law_made).getD 1 (.Pass ⟨0, 0, 0, 0⟩))) t} := by
  refine' ⟨?t, fun f cdv A outer s H E hr H1 pn xe E0 W => ?term⟩
  case term =>
   refine' sone ?h44
   walk_at "0 _ h44|sif/3"
   case' g0 => refine' rtcmp (oeq hr.units) ?h1 ?h2
   walk_at "3 no__law_made h1 h2 g1 g2|0 ri sone/1 sexpr/1 rmakeX/1:W:F_Gate_init:%:T.m_Gate:hg=gl__law_made_Gate:hdb=db_Gate acons/2 1 anil sone/1 sif/3"
   case' g9 => refine' rtcmp (oeq hr.units) ?h8 ?h9
   walk_at "12 no__law_made h8 h9 g10 g11|0 ri sone/1 sexpr/1 rcallX/1:W:F_looked:%:hg=gl__law_made_looked:hdb=db_looked acons/2 1 acons/2 rlsf/1 anil anil sone/1 sif/3"
   case' g21 => refine' rtcmp (oeq hr.units) ?h18 ?h19
   walk_at "24 no__law_made h18 h19 g22 g23|0 ri sone/1 sexpr/1 rcallX/1:W:F_replayed:%:hg=gl__law_made_replayed:hdb=db_replayed acons/2 1 acons/2 rlsf/1 anil anil sone/1 sexpr/1 rmakeX/1:W:F_Desk_init:%:T.m_Desk:hg=gl__law_made_Desk:hdb=db_Desk acons/2 1 anil"
def pkH__law_made (T : Txt P w K mg C) (a : Addr) : {t : RTS // ∀ (f : Addr) (cdv : Value) (A : Around) (outer : List Env) (s : Shared) (H : Hp) (E : XK) (oe : Obj) (pn : List (Addr × Obj)), oe.cls = .ref C.NoForm → RPSs (cxH (cxOf CX0 P w K mg base N__law_made "_law_made" (defScope s__law_made) f cdv A outer s H E).nox a oe pn) (tryHand ((defBody s__law_made).getD 1 (.Pass ⟨0, 0, 0, 0⟩))) t} := by
  refine' ⟨?t, fun f cdv A outer s H E oe pn hcls => ?term⟩
  case term =>
   refine' scons ?h37 ?h38
   walk_at "0 _ h37|ssetN/1:2:no__law_made rlst/1 acons/2"
   case' g2 => refine' rcallB (cisxK (K := K) (C := C.NoForm) (a := a) (oe := oe) rfl (List.mem_append_right pn List.mem_cons_self) hcls T.xk) T.b_isinstance bt_isinstance ?h32 (hg := gl__law_made_isinstance) (hdb := db_isinstance) (hn := nn_isinstance)
   walk_at "4 no__law_made h32 g3|acons/2 3 acons/2 rgc:T.m_NoForm:hg=gl__law_made_NoForm:hd=db_NoForm anil acons/2"
   case' g8 => refine' rcallB (cisxK (K := K) (C := C.NoForm) (a := a) (oe := oe) rfl (List.mem_append_right pn List.mem_cons_self) hcls T.xk) T.b_isinstance bt_isinstance ?h25 (hg := gl__law_made_isinstance) (hdb := db_isinstance) (hn := nn_isinstance)
   walk_at "10 no__law_made h25 g9 h38|acons/2 3 acons/2 rty_ValueError:T.b_ValueError:gl__law_made_ValueError anil anil sone/1 sexpr/1 rappend/2 2 acons/2"
   case' g18 => refine' rcallB (cisxK (K := K) (C := C.NoForm) (a := a) (oe := oe) rfl (List.mem_append_right pn List.mem_cons_self) hcls T.xk) T.b_isinstance bt_isinstance ?h14 (hg := gl__law_made_isinstance) (hdb := db_isinstance) (hn := nn_isinstance)
   walk_at "20 no__law_made h14 g19|acons/2 3 acons/2 rtup/1 acons/2 rgc:T.m_NoDeed:hg=gl__law_made_NoDeed:hd=db_NoDeed acons/2 rgc:T.m_NoPlan:hg=gl__law_made_NoPlan:hd=db_NoPlan acons/2 rgc:T.m_NoRow:hg=gl__law_made_NoRow:hd=db_NoRow acons/2 rgc:T.m_NoRule:hg=gl__law_made_NoRule:hd=db_NoRule anil anil anil"
@[irreducible] def sp__law_made (C : Cs) : RSp := fun rs M Q => ∃ (way : Int) (x : RV), rs = [.int way, x] ∧ okP x ∧ ∀ p M', Grow M M' → M' p = some (.lst (if formF x = true then [] else [.bl true, .bl true, .bl false])) → Q (.ref p) M'
theorem fn__law_made {f : Addr} {fd : FuncData} (F : Fun K "_law_made" "_law_made" s__law_made f fd) (T : Txt P w K mg C) (F_Gate_init : RInX P w K mg base C.Gate 6 ["self", "form"] (sp_Gate_init C)) (F_Desk_init : RInX P w K mg base C.Desk 8 ["self", "form"] (sp_Desk_init C)) (F_replayed : RFnX P w K mg base 8 "replayed" ["form", "deeds"] (sp_replayed C)) (F_looked : RFnX P w K mg base 8 "looked" ["form", "book"] (sp_looked C)) : FnOk P w K mg base CX0 10 f fd ["way", "thing"] (upSp K (sp__law_made C)) := by
  refine' rfnok F sc__law_made (fun rs M Q h => ?len) (fun cdv A outer s H E hr => ?term) (fun rs M Q h => ?body)
  case term =>
   refine' scons ?h127 ?h128
   walk_at "0 _ h127 h128|ssetN/1:2:no__law_made rlst/1 anil scons/2"
   case' g2 => exact stryN (m := 4) (i := 3) rfl rfl rfl rfl no__law_made.nd rfl lo__law_made T.m_GateError T.xm (fun H1 pn xe E1 E0 W => (pkB__law_made (base := base) T F_Gate_init F_Desk_init F_replayed F_looked E1).2 f cdv A outer s H E hr H1 pn xe E0 W) (fun a oe pn hcls => (pkH__law_made (base := base) T a).2 f cdv A outer s H E oe pn hcls) (hgl := gl__law_made_GateError) (hdb := db_GateError)
   walk_at "4 no__law_made g3|sone/1 sret/1 2"
  case len =>
    unfold sp__law_made at h; obtain ⟨way, x, rfl, _⟩ := h; rfl
  case body =>
    unfold sp__law_made at h
    obtain ⟨way, x, rfl, hx, h⟩ := h
    refine do_start (τ' := [some (.int way), some x, none, none]) rfl ?_
    walk_at "rs"
    intro p hp
    have hG0 : Grow M (R.put M p (.lst [])) := Grow.put hp
    walk_at "rs"
    refine do_try ?_
    unfold pkB__law_made
    dsimp only
    walk_at "rs"
    refine do_kB (fun e0 => ?_) fun e0 => ?_
    · walk_at "rs"
      intro q hq
      refine gate_do hx put_same (fun ef M1 g1 => ⟨rfl, ?_⟩) fun ef M1 g1 => ⟨rfl, fun a => ?_⟩
      · walk_at "rs"
        exact h p _ (hG0.trans (g1.made hq)) (by rw [if_pos ef]; exact (g1.made hq) p _ put_same)
      · unfold pkH__law_made
        dsimp only
        walk_at "rs"
        refine do_isx T.k1 ?_
        walk_at "rs"
        refine do_isx T.k2 ?_
        walk_at "rs"
        intro r hr
        walk_at "rs"
        refine do_kapp put_same ?_
        walk_at "rs"
        refine do_isx (show isxK K C.NoForm (.tup [.ref C.NoDeed, .ref C.NoPlan, .ref C.NoRow, .ref C.NoRule]) = some false from T.k3) ?_
        walk_at "rs"
        refine ⟨_, _, rfl, put_same, by decide, ?_⟩
        unfold endsH
        dsimp only
        walk_at "rs"
        exact h r _ ((hG0.trans (g1.made hq)).over hr) (by rw [if_neg (by rw [ef]; exact Bool.false_ne_true)]; exact put_same)
    walk_at "rs"
    refine do_kB (fun e1 => ?_) fun e1 => ?_
    · walk_at "rs"
      refine looked_do hx (fun ef v M1 g1 => ?_) fun ef M1 g1 => ⟨rfl, fun a => ?_⟩
      · walk_at "rs"
        exact h p _ (hG0.trans g1) (by rw [if_pos ef]; exact g1 p _ put_same)
      · unfold pkH__law_made
        dsimp only
        walk_at "rs"
        refine do_isx T.k1 ?_
        walk_at "rs"
        refine do_isx T.k2 ?_
        walk_at "rs"
        intro r hr
        walk_at "rs"
        refine do_kapp put_same ?_
        walk_at "rs"
        refine do_isx (show isxK K C.NoForm (.tup [.ref C.NoDeed, .ref C.NoPlan, .ref C.NoRow, .ref C.NoRule]) = some false from T.k3) ?_
        walk_at "rs"
        refine ⟨_, _, rfl, put_same, by decide, ?_⟩
        unfold endsH
        dsimp only
        walk_at "rs"
        exact h r _ ((hG0.trans g1).over hr) (by rw [if_neg (by rw [ef]; exact Bool.false_ne_true)]; exact put_same)
    walk_at "rs"
    refine do_kB (fun e2 => ?_) fun e2 => ?_
    · walk_at "rs"
      refine replayed_do hx (fun ef v M1 g1 => ?_) fun ef M1 g1 => ⟨rfl, fun a => ?_⟩
      · walk_at "rs"
        exact h p _ (hG0.trans g1) (by rw [if_pos ef]; exact g1 p _ put_same)
      · unfold pkH__law_made
        dsimp only
        walk_at "rs"
        refine do_isx T.k1 ?_
        walk_at "rs"
        refine do_isx T.k2 ?_
        walk_at "rs"
        intro r hr
        walk_at "rs"
        refine do_kapp put_same ?_
        walk_at "rs"
        refine do_isx (show isxK K C.NoForm (.tup [.ref C.NoDeed, .ref C.NoPlan, .ref C.NoRow, .ref C.NoRule]) = some false from T.k3) ?_
        walk_at "rs"
        refine ⟨_, _, rfl, put_same, by decide, ?_⟩
        unfold endsH
        dsimp only
        walk_at "rs"
        exact h r _ ((hG0.trans g1).over hr) (by rw [if_neg (by rw [ef]; exact Bool.false_ne_true)]; exact put_same)
    walk_at "rs"
    intro q hq
    refine desk_do hx put_same (fun ef M1 g1 => ⟨rfl, ?_⟩) fun ef M1 g1 => ⟨rfl, fun a => ?_⟩
    · walk_at "rs"
      exact h p _ (hG0.trans (g1.made hq)) (by rw [if_pos ef]; exact (g1.made hq) p _ put_same)
    · unfold pkH__law_made
      dsimp only
      walk_at "rs"
      refine do_isx T.k1 ?_
      walk_at "rs"
      refine do_isx T.k2 ?_
      walk_at "rs"
      intro r hr
      walk_at "rs"
      refine do_kapp put_same ?_
      walk_at "rs"
      refine do_isx (show isxK K C.NoForm (.tup [.ref C.NoDeed, .ref C.NoPlan, .ref C.NoRow, .ref C.NoRule]) = some false from T.k3) ?_
      walk_at "rs"
      refine ⟨_, _, rfl, put_same, by decide, ?_⟩
      unfold endsH
      dsimp only
      walk_at "rs"
      exact h r _ ((hG0.trans (g1.made hq)).over hr) (by rw [if_neg (by rw [ef]; exact Bool.false_ne_true)]; exact put_same)
theorem made_do {M : RM} {way : Int} {x : RV} {Q : RVK} (hx : okP x) (h : ∀ p M', Grow M M' → M' p = some (.lst (if formF x = true then [] else [.bl true, .bl true, .bl false])) → Q (.ref p) M') : (sp__law_made C) [.int way, x] M Q := by unfold sp__law_made; exact ⟨way, x, rfl, hx, h⟩
theorem cut_mem {ns : List Int} {lo hi : Option Int} {x : RV} (h : x ∈ cutR (ns.map RV.int) lo hi) : ∃ c : Int, x = .int c := by
  obtain ⟨i, _, rfl⟩ := List.mem_map.mp (cut_sub h)
  exact ⟨i, rfl⟩
def lenAt (i : Nat) : Nat := if i = 0 then 8 else if i = 1 then 29 else 92
def inAt (i : Nat) : Nat := if i = 0 then 4 else if i = 1 then 17 else 56
theorem Th2.okP {m l L : Nat} {v : RV} (h : Th2 m l L v) (hm : m ≤ 13) : okP v := by
  obtain ⟨xs, e, ha, _⟩ := h
  have k : xs.all (okR 13) = true := List.all_eq_true.mpr fun y hy => okR_le hm (ha.mem y hy)
  rcases e with ⟨rfl, _⟩ | rfl <;> exact k
theorem Th2.up {m l l' L L' : Nat} {v : RV} (h : Th2 m l L v) (k : l ≤ l') (kL : L ≤ L') : Th2 (m + 1) l' L' v := by
  obtain ⟨xs, e, ha, hl⟩ := h
  exact ⟨xs, e.imp (fun z => ⟨z.1, z.2.up kL⟩) id, ha.up, Nat.le_trans hl k⟩
theorem Th2.le {m l l' L L' : Nat} {v : RV} (h : Th2 m l L v) (k : l ≤ l') (kL : L ≤ L') : Th2 m l' L' v := by
  obtain ⟨xs, e, ha, hl⟩ := h
  exact ⟨xs, e.imp (fun z => ⟨z.1, z.2.up kL⟩) id, ha, Nat.le_trans hl k⟩
theorem neqB {a b : Bool} (e : a = b) : (!eqR (.bl a) (.bl b)) = false := by subst e; cases a <;> rfl
@[irreducible] def sp_law : RSp := fun rs M Q => ∃ ns : List Int, rs = [.ls (ns.map RV.int)] ∧ ns.length ≤ 63 ∧ ∀ M', Q (.bl true) M'
theorem fn_law {f : Addr} {fd : FuncData} (F : Fun K "law" "law" s_law f fd) (T : Txt P w K mg C) (F_is_form : RFn P w K mg base 5 "is_form" ["thing"] sp_is_form) (F__law_cell : RFn P w K mg base 1 "_law_cell" ["script", "k"] sp__law_cell) (F__law_well : RFn P w K mg base 1 "_law_well" ["cell", "turn"] sp__law_well) (F__law_take : RFn P w K mg base 1 "_law_take" ["bag", "many"] sp__law_take) (F__law_a_form : RFn P w K mg base 2 "_law_a_form" ["bag"] sp__law_a_form) (F__law_is_right : RFn P w K mg base 3 "_law_is_right" ["thing"] sp__law_is_right) (F__law_bent : RFn P w K mg base 4 "_law_bent" ["bag", "parts"] sp__law_bent) (F__law_made : RFn P w K mg base 10 "_law_made" ["way", "thing"] (sp__law_made C)) : FnOk P w K mg base CX0 11 f fd ["script"] (upSp K sp_law) := by
  refine' rfnok F sc_law (fun rs M Q h => ?len) (fun cdv A outer s H E hr => ?term) (fun rs M Q h => ?body)
  case term =>
   refine' scons ?h149 ?h150
   walk_at "0 no_law h149|sfor/3:PassesOwn.never:rfl iseq/1 rop/2:oadd rlsf/1 acons/2 rcallF/1:F__law_cell:%:hg=gl_law__law_cell:hdb=db__law_cell acons/2 0 acons/2 ri anil anil rsl/3 0 psome/1 ri psome/1 ri gnameN:1:no_law scons/2 ssetN/1:2:no_law rcallF/1:F__law_well:%:hg=gl_law__law_well:hdb=db__law_well acons/2 1 acons/2 ri anil scons/2 ssetN/1:3:no_law rix/2 rlsf/1 acons/2 ri acons/2 ri acons/2 ri acons/2 ri acons/2 ri anil rcallF/1:F__law_take:%:hg=gl_law__law_take:hdb=db__law_take acons/2 2 acons/2 ri anil scons/2 ssetN/1:4:no_law rcallF/1:F__law_a_form:%:hg=gl_law__law_a_form:hdb=db__law_a_form acons/2 2 anil scons/2 sfor/3:PassesOwn.never:rfl irange/1:T.b_range:hgl=gl_law_range 3 gnameN:5:no_law sone/1 sif/3 rtw/1 rand/2 rtval/1 rcallB/1:cisi_tuple:T.b_isinstance:bt_isinstance:hg=gl_law_isinstance:hdb=db_isinstance:hn=nn_isinstance acons/2 4 acons/2 rty_tuple:T.b_tuple:gl_law_tuple anil rand1/1"
   case' g73 => refine' rtcmp (one hr.units) ?h83 ?h84
   walk_at "74 no_law h83 h84 g62 g63 g55|4 rtup/1 anil sone/1 ssetN/1:4:no_law rcallF/1:F__law_bent:%:hg=gl_law__law_bent:hdb=db__law_bent acons/2 2 acons/2 4 anil snil scons/2 ssetN/1:6:no_law rcallF/1:F_is_form:%:hg=gl_law_is_form:hdb=db_is_form acons/2 4 anil scons/2 ssetN/1:7:no_law rcallF/1:F__law_is_right:%:hg=gl_law__law_is_right:hdb=db__law_is_right acons/2 4 anil scons/2 sif/3 rtw/1 ror/2 rtnot/1 rtval/1 rcallB/1:cisi_bool:T.b_isinstance:bt_isinstance:hg=gl_law_isinstance:hdb=db_isinstance:hn=nn_isinstance acons/2 6 acons/2 rty_bool:T.b_bool:gl_law_bool anil ror1/1"
   case' g109 => refine' rtcmp (one hr.units) ?h49 ?h50
   walk_at "110 no_law h49 h50 g97 g98 g95|6 7 sone/1 sret/1 rb snil sone/1 sfor/3:PassesOwn.never:rfl irange/1:T.b_range:hgl=gl_law_range ri gnameN:8:no_law sone/1 sif/3"
   case' g118 => refine' rtcmp (oneM hr.units) ?h37 ?h38
   walk_at "121 no_law h37 h38 g119 g120 h150|rcallF/1:F__law_made:%:hg=gl_law__law_made:hdb=db__law_made acons/2 8 acons/2 4 anil rif/3 rtval/1 7 rlsf/1 anil rlsf/1 acons/2 rb acons/2 rb acons/2 rb anil sone/1 sret/1 rb snil sone/1 sret/1 rb"
  case len =>
    unfold sp_law at h; obtain ⟨ns, rfl, _⟩ := h; rfl
  case body =>
    unfold sp_law at h
    obtain ⟨ns, rfl, hl, h⟩ := h
    refine do_start (τ' := [some (.ls (ns.map RV.int)), none, none, none, none, none, none, none, none]) rfl ?_
    walk_at "rs"
    refine cell_do (by decide) fun c0 => ?_
    walk_at "rs"
    have hcl := cut_le (ns.map RV.int) (some 1) (some 20)
    rw [List.length_map] at hcl
    refine ⟨Nat.le_trans (show _ ≤ 1000 by simp only [List.length_cons, List.length_nil]; omega) (by decide), ?_⟩
    walk_at "rs"
    refine forL_inv (fun σ M => ∃ a1 a2 a3 a4 a5 a6 a7 a8 : Option RV, σ = [some (.ls (ns.map RV.int)), a1, a2, a3, a4, a5, a6, a7, a8]) (fun v => ∃ c : Int, v = .int c) _ ?_ ?_ ?_ _ _ ⟨_, _, _, _, _, _, _, _, rfl⟩
    · intro x hx
      rcases List.mem_append.mp hx with hx | hx
      · exact ⟨c0, by simpa using hx⟩
      · exact cut_mem hx
    · rintro x σ M N ⟨c, rfl⟩ ⟨a1, a2, a3, a4, a5, a6, a7, a8, rfl⟩ hN
      walk_at "rs"
      refine well_do fun p o hp ho => ?_
      walk_at "rs"
      refine take_do (Bag.put ho) (by decide) (by decide) (by omega) fun r1 o1 ra1 rb1 ho1 => ?_
      walk_at "rs"
      refine at_ints 0 2 ra1 fun bends bn0 bn1 => ?_
      walk_at "rs"
      refine form_do (Bag.put ho1) (by decide) (by decide) fun xs o2 hxs hF l8 ho2 => ?_
      walk_at "rs"
      refine do_rng (by omega) (by omega) ?_
      refine forL_ix (fun i σ M => ∃ (b1 b2 b3 b4 : Option RV) (v : RV), σ = [some (.ls (ns.map RV.int)), some (.int c), some (.ref p), some (.int bends), some v, b1, b2, b3, b4] ∧ Th2 (1 + i) (lenAt i) (inAt i) v ∧ Bag M p (19 + 40 * (i : Int))) (fun _ => True) bends.toNat ?_ ?_ (R.nums bends.toNat) 0 (fun _ _ => trivial) (by rw [R.nums_len]; omega) _ _ ⟨_, _, _, _, _, rfl, ⟨xs, .inl ⟨rfl, hF⟩, hxs, by rw [l8]; decide⟩, (Bag.put ho2).mono (by omega)⟩
      · rintro i y σ M2 N2 hi _ ⟨b1, b2, b3, b4, v, rfl, hT, hB⟩ hN2
        have hmono : lenAt i ≤ lenAt (i + 1) ∧ inAt i ≤ inAt (i + 1) ∧ 3 * lenAt i + 5 ≤ lenAt (i + 1) ∧ lenAt i ≤ 50 ∧ 3 * inAt i + 5 ≤ inAt (i + 1) ∧ inAt i ≤ 17 := by
          have : i = 0 ∨ i = 1 := by omega
          rcases this with rfl | rfl <;> decide
        obtain ⟨hm1, hm2, hm3, hm4, hm5, hm6⟩ := hmono
        obtain ⟨zs, hz, hza, hzl⟩ := id hT
        rcases hz with ⟨rfl, hzF⟩ | rfl
        · walk_at "rs"
          refine do_ne (ok_mono (ok_mono (hT.okP (by omega)))) rfl ?_
          cases zs with
          | nil =>
            walk_at "rd"
            exact hN2 _ _ ⟨_, _, _, _, _, rfl, hT.up hm1 hm2, hB.mono (by omega)⟩
          | cons z zs =>
            walk_at "rd"
            refine bent_do hB (by omega) (by omega) hza hzF hm6 (by omega) (by simp) (by omega) fun v o2 hv ho2 => ?_
            walk_at "rs"
            exact hN2 _ _ ⟨_, _, _, _, _, rfl, Th2.le hv (by omega) hm5, (Bag.put ho2).mono (by omega)⟩
        · walk_at "rd"
          exact hN2 _ _ ⟨_, _, _, _, _, rfl, hT.up hm1 hm2, hB.mono (by omega)⟩
      · rintro σ M2 ⟨b1, b2, b3, b4, v, rfl, hT, hB⟩
        have hok := hT.okP (by omega)
        walk_at "rs"
        refine is_form_do hok ?_
        walk_at "rs"
        refine right_do hok ?_
        walk_at "rs"
        refine do_kF' (neqB rfl) ?_
        walk_at "rs"
        refine do_rng (by omega) (by omega) ?_
        refine forL_inv (fun σ M => ∃ b1 b4 : Option RV, σ = [some (.ls (ns.map RV.int)), some (.int c), some (.ref p), some (.int bends), some v, b1, some (.bl (formF v)), some (.bl (formF v)), b4]) (fun y => ∃ k : Int, y = .int k) _ ?_ ?_ ?_ _ _ ⟨b1, b4, rfl⟩
        · intro y hy
          obtain ⟨k, _, rfl⟩ := List.mem_map.mp hy
          exact ⟨_, rfl⟩
        · rintro y σ M3 N3 ⟨k, rfl⟩ ⟨b1, b4, rfl⟩ hN3
          walk_at "rs"
          refine made_do hok fun q M4 g4 e4 => ?_
          walk_at "rs"
          refine do_kB (fun ef => ?_) fun ef => ?_
          · rw [if_pos ef] at e4
            walk_at "rs"
            have hq : lookR M4 (.ref q) = .ls ([]) := look_lst e4
            refine do_neM (by rw [hq]; rfl) rfl ?_
            rw [hq]
            walk_at "rd"
            exact hN3 _ _ ⟨_, _, rfl⟩
          · rw [if_neg (by rw [ef]; exact Bool.false_ne_true)] at e4
            walk_at "rs"
            have hq : lookR M4 (.ref q) = .ls ([.bl true, .bl true, .bl false]) := look_lst e4
            refine do_neM (by rw [hq]; rfl) rfl ?_
            rw [hq]
            walk_at "rd"
            exact hN3 _ _ ⟨_, _, rfl⟩
        · rintro σ M3 ⟨b1, b4, rfl⟩
          exact hN _ _ ⟨_, _, _, _, _, _, _, _, rfl⟩
    · rintro σ M ⟨a1, a2, a3, a4, a5, a6, a7, a8, rfl⟩
      walk_at "rs"
      exact h M
theorem law_start (ns : List Int) (h : ns.length ≤ 63) : sp_law [.ls (ns.map RV.int)] (fun _ => none) (fun v _ => v = .bl true) := by
  unfold sp_law; exact ⟨ns, rfl, h, fun _ => rfl⟩
end
theorem all_mk {l : PySem.W.OpenLaw} {w : World} {K : PySem.W.Frag} {h : Heap} {mg : Str → Option Value} {fa : Addr} (X : K.In h) (G : h.Ns mainGlobals mg) (hfa : mg "law" = some (.ref fa))
    {C : Cs}
    (aC_Rules : PySem.W.nsIn K mainGlobals "Rules" = some (some (.ref C.Rules))) (pg_Rules : PySem.W.plainGet K C.Rules Str.empty = true) (hd_Rules : PySem.W.hasDictIn K C.Rules = true) (po_Rules : PySem.W.plainOver K C.Rules = true) (sa_Rules : PySem.W.findIn K (.ref C.Rules) "__setattr__" = some (some (.builtin "object.__setattr__"))) (mk_Rules : PySem.W.makesIn K C.Rules = true) (kc_Rules : PySem.W.keepIn K (.ref C.Rules) = true)
    (na_Rules_many_told : PySem.W.findIn K (.ref C.Rules) "many_told" = some none)
    (na_Rules_standing : PySem.W.findIn K (.ref C.Rules) "standing" = some none)
    (aC_Pool : PySem.W.nsIn K mainGlobals "Pool" = some (some (.ref C.Pool))) (pg_Pool : PySem.W.plainGet K C.Pool Str.empty = true) (hd_Pool : PySem.W.hasDictIn K C.Pool = true) (po_Pool : PySem.W.plainOver K C.Pool = true) (sa_Pool : PySem.W.findIn K (.ref C.Pool) "__setattr__" = some (some (.builtin "object.__setattr__"))) (mk_Pool : PySem.W.makesIn K C.Pool = true) (kc_Pool : PySem.W.keepIn K (.ref C.Pool) = true)
    (na_Pool_low : PySem.W.findIn K (.ref C.Pool) "low" = some none)
    (na_Pool_high : PySem.W.findIn K (.ref C.Pool) "high" = some none)
    (na_Pool_mark : PySem.W.findIn K (.ref C.Pool) "mark" = some none)
    (na_Pool_taken : PySem.W.findIn K (.ref C.Pool) "taken" = some none)
    (na_Pool_until : PySem.W.findIn K (.ref C.Pool) "until" = some none)
    (aC_Talks : PySem.W.nsIn K mainGlobals "Talks" = some (some (.ref C.Talks))) (pg_Talks : PySem.W.plainGet K C.Talks Str.empty = true) (hd_Talks : PySem.W.hasDictIn K C.Talks = true) (po_Talks : PySem.W.plainOver K C.Talks = true) (sa_Talks : PySem.W.findIn K (.ref C.Talks) "__setattr__" = some (some (.builtin "object.__setattr__"))) (mk_Talks : PySem.W.makesIn K C.Talks = true) (kc_Talks : PySem.W.keepIn K (.ref C.Talks) = true)
    (na_Talks_form : PySem.W.findIn K (.ref C.Talks) "form" = some none)
    (na_Talks_pool : PySem.W.findIn K (.ref C.Talks) "pool" = some none)
    (na_Talks_now : PySem.W.findIn K (.ref C.Talks) "now" = some none)
    (na_Talks_by_inner : PySem.W.findIn K (.ref C.Talks) "by_inner" = some none)
    (na_Talks_by_number : PySem.W.findIn K (.ref C.Talks) "by_number" = some none)
    (na_Talks_holders : PySem.W.findIn K (.ref C.Talks) "holders" = some none)
    (na_Talks_numbers : PySem.W.findIn K (.ref C.Talks) "numbers" = some none)
    (aC_Gate : PySem.W.nsIn K mainGlobals "Gate" = some (some (.ref C.Gate))) (pg_Gate : PySem.W.plainGet K C.Gate Str.empty = true) (hd_Gate : PySem.W.hasDictIn K C.Gate = true) (po_Gate : PySem.W.plainOver K C.Gate = true) (sa_Gate : PySem.W.findIn K (.ref C.Gate) "__setattr__" = some (some (.builtin "object.__setattr__"))) (mk_Gate : PySem.W.makesIn K C.Gate = true) (kc_Gate : PySem.W.keepIn K (.ref C.Gate) = true)
    (na_Gate_form : PySem.W.findIn K (.ref C.Gate) "form" = some none)
    (na_Gate_table : PySem.W.findIn K (.ref C.Gate) "table" = some none)
    (na_Gate_strangers : PySem.W.findIn K (.ref C.Gate) "strangers" = some none)
    (na_Gate_done : PySem.W.findIn K (.ref C.Gate) "done" = some none)
    (na_Gate_wish : PySem.W.findIn K (.ref C.Gate) "wish" = some none)
    (aC_Desk : PySem.W.nsIn K mainGlobals "Desk" = some (some (.ref C.Desk))) (pg_Desk : PySem.W.plainGet K C.Desk Str.empty = true) (hd_Desk : PySem.W.hasDictIn K C.Desk = true) (po_Desk : PySem.W.plainOver K C.Desk = true) (sa_Desk : PySem.W.findIn K (.ref C.Desk) "__setattr__" = some (some (.builtin "object.__setattr__"))) (mk_Desk : PySem.W.makesIn K C.Desk = true) (kc_Desk : PySem.W.keepIn K (.ref C.Desk) = true)
    (na_Desk_gate : PySem.W.findIn K (.ref C.Desk) "gate" = some none)
    (aC_GateError : PySem.W.nsIn K mainGlobals "GateError" = some (some (.ref C.GateError)))
    (aC_NoForm : PySem.W.nsIn K mainGlobals "NoForm" = some (some (.ref C.NoForm)))
    (aC_NoDeed : PySem.W.nsIn K mainGlobals "NoDeed" = some (some (.ref C.NoDeed)))
    (aC_NoRule : PySem.W.nsIn K mainGlobals "NoRule" = some (some (.ref C.NoRule)))
    (aC_NoPlan : PySem.W.nsIn K mainGlobals "NoPlan" = some (some (.ref C.NoPlan)))
    (aC_NoRow : PySem.W.nsIn K mainGlobals "NoRow" = some (some (.ref C.NoRow)))
    (kf_x_NoForm : PySem.W.excIn K C.NoForm [.type "ValueError", .type "Exception", .type "BaseException", .type "object"] "ValueError.__new__" = true)
    (kf_xm : PySem.W.exmOne K (.ref C.NoForm) (.ref C.GateError) = some true)
    (kf_xk : PySem.W.xcOk K C.NoForm = true)
    (kf_k1 : PySem.W.kitOne K (.ref C.NoForm) (.ref C.NoForm) = some true)
    (kf_k2 : PySem.W.kitOne K (.ref C.NoForm) (.type "ValueError") = some true)
    (kf_k3 : PySem.W.kitAny K (.ref C.NoForm) [.ref C.NoDeed, .ref C.NoPlan, .ref C.NoRow, .ref C.NoRule] = some false)
    {f0 : Addr} {od0 an0 : Option Addr} {sl0 : Array (Option Value)} {oc0 kV0 dc0 pm0 cd0 ct0 : Value}
    (a0 : PySem.W.nsIn K mainGlobals "is_whole" = some (some (.ref f0)))
    (l0 : K.lookup f0 = some ⟨oc0, od0, .func (PySem.W.fnOf "is_whole" "is_whole" (defArgs s_is_whole) (defBody s_is_whole) (defScope s_is_whole) .none kV0 dc0 pm0 an0 cd0 ct0), sl0⟩) (c0 : PySem.W.codeIn K cd0 "is_whole" = true) (k0 : PySem.W.keepIn K (.ref f0) = true)
    {f1 : Addr} {od1 an1 : Option Addr} {sl1 : Array (Option Value)} {oc1 kV1 dc1 pm1 cd1 ct1 : Value}
    (a1 : PySem.W.findIn K (.ref C.Rules) "__init__" = some (some (.ref f1))) (i1 : PySem.W.isFn K (.ref f1) = true)
    (l1 : K.lookup f1 = some ⟨oc1, od1, .func (PySem.W.fnOf "__init__" "Rules.__init__" (defArgs s_Rules_init) (defBody s_Rules_init) (defScope s_Rules_init) .none kV1 dc1 pm1 an1 cd1 ct1), sl1⟩) (c1 : PySem.W.codeIn K cd1 "Rules.__init__" = true) (k1 : PySem.W.keepIn K (.ref f1) = true)
    {f2 : Addr} {od2 an2 : Option Addr} {sl2 : Array (Option Value)} {oc2 kV2 dc2 pm2 cd2 ct2 : Value}
    (a2 : PySem.W.findIn K (.ref C.Pool) "__init__" = some (some (.ref f2))) (i2 : PySem.W.isFn K (.ref f2) = true)
    (l2 : K.lookup f2 = some ⟨oc2, od2, .func (PySem.W.fnOf "__init__" "Pool.__init__" (defArgs s_Pool_init) (defBody s_Pool_init) (defScope s_Pool_init) .none kV2 dc2 pm2 an2 cd2 ct2), sl2⟩) (c2 : PySem.W.codeIn K cd2 "Pool.__init__" = true) (k2 : PySem.W.keepIn K (.ref f2) = true)
    {f3 : Addr} {od3 an3 : Option Addr} {sl3 : Array (Option Value)} {oc3 kV3 dc3 pm3 cd3 ct3 : Value}
    (a3 : PySem.W.nsIn K mainGlobals "_law_cell" = some (some (.ref f3)))
    (l3 : K.lookup f3 = some ⟨oc3, od3, .func (PySem.W.fnOf "_law_cell" "_law_cell" (defArgs s__law_cell) (defBody s__law_cell) (defScope s__law_cell) .none kV3 dc3 pm3 an3 cd3 ct3), sl3⟩) (c3 : PySem.W.codeIn K cd3 "_law_cell" = true) (k3 : PySem.W.keepIn K (.ref f3) = true)
    {f4 : Addr} {od4 an4 : Option Addr} {sl4 : Array (Option Value)} {oc4 kV4 dc4 pm4 cd4 ct4 : Value}
    (a4 : PySem.W.nsIn K mainGlobals "_law_well" = some (some (.ref f4)))
    (l4 : K.lookup f4 = some ⟨oc4, od4, .func (PySem.W.fnOf "_law_well" "_law_well" (defArgs s__law_well) (defBody s__law_well) (defScope s__law_well) .none kV4 dc4 pm4 an4 cd4 ct4), sl4⟩) (c4 : PySem.W.codeIn K cd4 "_law_well" = true) (k4 : PySem.W.keepIn K (.ref f4) = true)
    {f5 : Addr} {od5 an5 : Option Addr} {sl5 : Array (Option Value)} {oc5 kV5 dc5 pm5 cd5 ct5 : Value}
    (a5 : PySem.W.nsIn K mainGlobals "_law_take" = some (some (.ref f5)))
    (l5 : K.lookup f5 = some ⟨oc5, od5, .func (PySem.W.fnOf "_law_take" "_law_take" (defArgs s__law_take) (defBody s__law_take) (defScope s__law_take) .none kV5 dc5 pm5 an5 cd5 ct5), sl5⟩) (c5 : PySem.W.codeIn K cd5 "_law_take" = true) (k5 : PySem.W.keepIn K (.ref f5) = true)
    {f6 : Addr} {od6 an6 : Option Addr} {sl6 : Array (Option Value)} {oc6 kV6 dc6 pm6 cd6 ct6 : Value}
    (a6 : PySem.W.nsIn K mainGlobals "_law_whole" = some (some (.ref f6)))
    (l6 : K.lookup f6 = some ⟨oc6, od6, .func (PySem.W.fnOf "_law_whole" "_law_whole" (defArgs s__law_whole) (defBody s__law_whole) (defScope s__law_whole) .none kV6 dc6 pm6 an6 cd6 ct6), sl6⟩) (c6 : PySem.W.codeIn K cd6 "_law_whole" = true) (k6 : PySem.W.keepIn K (.ref f6) = true)
    {f7 : Addr} {od7 an7 : Option Addr} {sl7 : Array (Option Value)} {oc7 kV7 dc7 pm7 cd7 ct7 : Value}
    (a7 : PySem.W.nsIn K mainGlobals "_law_is_one" = some (some (.ref f7)))
    (l7 : K.lookup f7 = some ⟨oc7, od7, .func (PySem.W.fnOf "_law_is_one" "_law_is_one" (defArgs s__law_is_one) (defBody s__law_is_one) (defScope s__law_is_one) .none kV7 dc7 pm7 an7 cd7 ct7), sl7⟩) (c7 : PySem.W.codeIn K cd7 "_law_is_one" = true) (k7 : PySem.W.keepIn K (.ref f7) = true)
    {f8 : Addr} {od8 an8 : Option Addr} {sl8 : Array (Option Value)} {oc8 kV8 dc8 pm8 cd8 ct8 : Value}
    (a8 : PySem.W.nsIn K mainGlobals "is_whole_within" = some (some (.ref f8)))
    (l8 : K.lookup f8 = some ⟨oc8, od8, .func (PySem.W.fnOf "is_whole_within" "is_whole_within" (defArgs s_is_whole_within) (defBody s_is_whole_within) (defScope s_is_whole_within) .none kV8 dc8 pm8 an8 cd8 ct8), sl8⟩) (c8 : PySem.W.codeIn K cd8 "is_whole_within" = true) (k8 : PySem.W.keepIn K (.ref f8) = true)
    {f9 : Addr} {od9 an9 : Option Addr} {sl9 : Array (Option Value)} {oc9 kV9 dc9 pm9 cd9 ct9 : Value}
    (a9 : PySem.W.nsIn K mainGlobals "_law_a_form" = some (some (.ref f9)))
    (l9 : K.lookup f9 = some ⟨oc9, od9, .func (PySem.W.fnOf "_law_a_form" "_law_a_form" (defArgs s__law_a_form) (defBody s__law_a_form) (defScope s__law_a_form) .none kV9 dc9 pm9 an9 cd9 ct9), sl9⟩) (c9 : PySem.W.codeIn K cd9 "_law_a_form" = true) (k9 : PySem.W.keepIn K (.ref f9) = true)
    {f10 : Addr} {od10 an10 : Option Addr} {sl10 : Array (Option Value)} {oc10 kV10 dc10 pm10 cd10 ct10 : Value}
    (a10 : PySem.W.nsIn K mainGlobals "_law_odd" = some (some (.ref f10)))
    (l10 : K.lookup f10 = some ⟨oc10, od10, .func (PySem.W.fnOf "_law_odd" "_law_odd" (defArgs s__law_odd) (defBody s__law_odd) (defScope s__law_odd) .none kV10 dc10 pm10 an10 cd10 ct10), sl10⟩) (c10 : PySem.W.codeIn K cd10 "_law_odd" = true) (k10 : PySem.W.keepIn K (.ref f10) = true)
    {f11 : Addr} {od11 an11 : Option Addr} {sl11 : Array (Option Value)} {oc11 kV11 dc11 pm11 cd11 ct11 : Value}
    (a11 : PySem.W.nsIn K mainGlobals "_law_in_bounds" = some (some (.ref f11)))
    (l11 : K.lookup f11 = some ⟨oc11, od11, .func (PySem.W.fnOf "_law_in_bounds" "_law_in_bounds" (defArgs s__law_in_bounds) (defBody s__law_in_bounds) (defScope s__law_in_bounds) .none kV11 dc11 pm11 an11 cd11 ct11), sl11⟩) (c11 : PySem.W.codeIn K cd11 "_law_in_bounds" = true) (k11 : PySem.W.keepIn K (.ref f11) = true)
    {f12 : Addr} {od12 an12 : Option Addr} {sl12 : Array (Option Value)} {oc12 kV12 dc12 pm12 cd12 ct12 : Value}
    (a12 : PySem.W.nsIn K mainGlobals "is_door" = some (some (.ref f12)))
    (l12 : K.lookup f12 = some ⟨oc12, od12, .func (PySem.W.fnOf "is_door" "is_door" (defArgs s_is_door) (defBody s_is_door) (defScope s_is_door) .none kV12 dc12 pm12 an12 cd12 ct12), sl12⟩) (c12 : PySem.W.codeIn K cd12 "is_door" = true) (k12 : PySem.W.keepIn K (.ref f12) = true)
    {f13 : Addr} {od13 an13 : Option Addr} {sl13 : Array (Option Value)} {oc13 kV13 dc13 pm13 cd13 ct13 : Value}
    (a13 : PySem.W.nsIn K mainGlobals "is_times" = some (some (.ref f13)))
    (l13 : K.lookup f13 = some ⟨oc13, od13, .func (PySem.W.fnOf "is_times" "is_times" (defArgs s_is_times) (defBody s_is_times) (defScope s_is_times) .none kV13 dc13 pm13 an13 cd13 ct13), sl13⟩) (c13 : PySem.W.codeIn K cd13 "is_times" = true) (k13 : PySem.W.keepIn K (.ref f13) = true)
    {f14 : Addr} {od14 an14 : Option Addr} {sl14 : Array (Option Value)} {oc14 kV14 dc14 pm14 cd14 ct14 : Value}
    (a14 : PySem.W.findIn K (.ref C.Talks) "__init__" = some (some (.ref f14))) (i14 : PySem.W.isFn K (.ref f14) = true)
    (l14 : K.lookup f14 = some ⟨oc14, od14, .func (PySem.W.fnOf "__init__" "Talks.__init__" (defArgs s_Talks_init) (defBody s_Talks_init) (defScope s_Talks_init) .none kV14 dc14 pm14 an14 cd14 ct14), sl14⟩) (c14 : PySem.W.codeIn K cd14 "Talks.__init__" = true) (k14 : PySem.W.keepIn K (.ref f14) = true)
    {f15 : Addr} {od15 an15 : Option Addr} {sl15 : Array (Option Value)} {oc15 kV15 dc15 pm15 cd15 ct15 : Value}
    (a15 : PySem.W.nsIn K mainGlobals "_law_is_right" = some (some (.ref f15)))
    (l15 : K.lookup f15 = some ⟨oc15, od15, .func (PySem.W.fnOf "_law_is_right" "_law_is_right" (defArgs s__law_is_right) (defBody s__law_is_right) (defScope s__law_is_right) .none kV15 dc15 pm15 an15 cd15 ct15), sl15⟩) (c15 : PySem.W.codeIn K cd15 "_law_is_right" = true) (k15 : PySem.W.keepIn K (.ref f15) = true)
    {f16 : Addr} {od16 an16 : Option Addr} {sl16 : Array (Option Value)} {oc16 kV16 dc16 pm16 cd16 ct16 : Value}
    (a16 : PySem.W.nsIn K mainGlobals "is_pool" = some (some (.ref f16)))
    (l16 : K.lookup f16 = some ⟨oc16, od16, .func (PySem.W.fnOf "is_pool" "is_pool" (defArgs s_is_pool) (defBody s_is_pool) (defScope s_is_pool) .none kV16 dc16 pm16 an16 cd16 ct16), sl16⟩) (c16 : PySem.W.codeIn K cd16 "is_pool" = true) (k16 : PySem.W.keepIn K (.ref f16) = true)
    {f17 : Addr} {od17 an17 : Option Addr} {sl17 : Array (Option Value)} {oc17 kV17 dc17 pm17 cd17 ct17 : Value}
    (a17 : PySem.W.nsIn K mainGlobals "_law_bent" = some (some (.ref f17)))
    (l17 : K.lookup f17 = some ⟨oc17, od17, .func (PySem.W.fnOf "_law_bent" "_law_bent" (defArgs s__law_bent) (defBody s__law_bent) (defScope s__law_bent) .none kV17 dc17 pm17 an17 cd17 ct17), sl17⟩) (c17 : PySem.W.codeIn K cd17 "_law_bent" = true) (k17 : PySem.W.keepIn K (.ref f17) = true)
    {f18 : Addr} {od18 an18 : Option Addr} {sl18 : Array (Option Value)} {oc18 kV18 dc18 pm18 cd18 ct18 : Value}
    (a18 : PySem.W.nsIn K mainGlobals "is_form" = some (some (.ref f18)))
    (l18 : K.lookup f18 = some ⟨oc18, od18, .func (PySem.W.fnOf "is_form" "is_form" (defArgs s_is_form) (defBody s_is_form) (defScope s_is_form) .none kV18 dc18 pm18 an18 cd18 ct18), sl18⟩) (c18 : PySem.W.codeIn K cd18 "is_form" = true) (k18 : PySem.W.keepIn K (.ref f18) = true)
    {f19 : Addr} {od19 an19 : Option Addr} {sl19 : Array (Option Value)} {oc19 kV19 dc19 pm19 cd19 ct19 : Value}
    (a19 : PySem.W.findIn K (.ref C.Gate) "__init__" = some (some (.ref f19))) (i19 : PySem.W.isFn K (.ref f19) = true)
    (l19 : K.lookup f19 = some ⟨oc19, od19, .func (PySem.W.fnOf "__init__" "Gate.__init__" (defArgs s_Gate_init) (defBody s_Gate_init) (defScope s_Gate_init) .none kV19 dc19 pm19 an19 cd19 ct19), sl19⟩) (c19 : PySem.W.codeIn K cd19 "Gate.__init__" = true) (k19 : PySem.W.keepIn K (.ref f19) = true)
    {f20 : Addr} {od20 an20 : Option Addr} {sl20 : Array (Option Value)} {oc20 kV20 dc20 pm20 cd20 ct20 : Value}
    (a20 : PySem.W.findIn K (.ref C.Desk) "__init__" = some (some (.ref f20))) (i20 : PySem.W.isFn K (.ref f20) = true)
    (l20 : K.lookup f20 = some ⟨oc20, od20, .func (PySem.W.fnOf "__init__" "Desk.__init__" (defArgs s_Desk_init) (defBody s_Desk_init) (defScope s_Desk_init) .none kV20 dc20 pm20 an20 cd20 ct20), sl20⟩) (c20 : PySem.W.codeIn K cd20 "Desk.__init__" = true) (k20 : PySem.W.keepIn K (.ref f20) = true)
    {f21 : Addr} {od21 an21 : Option Addr} {sl21 : Array (Option Value)} {oc21 kV21 dc21 pm21 cd21 ct21 : Value}
    (a21 : PySem.W.nsIn K mainGlobals "replayed" = some (some (.ref f21)))
    (l21 : K.lookup f21 = some ⟨oc21, od21, .func (PySem.W.fnOf "replayed" "replayed" (defArgs s_replayed) (defBody s_replayed) (defScope s_replayed) .none kV21 dc21 pm21 an21 cd21 ct21), sl21⟩) (c21 : PySem.W.codeIn K cd21 "replayed" = true) (k21 : PySem.W.keepIn K (.ref f21) = true)
    {f22 : Addr} {od22 an22 : Option Addr} {sl22 : Array (Option Value)} {oc22 kV22 dc22 pm22 cd22 ct22 : Value}
    (a22 : PySem.W.nsIn K mainGlobals "looked" = some (some (.ref f22)))
    (l22 : K.lookup f22 = some ⟨oc22, od22, .func (PySem.W.fnOf "looked" "looked" (defArgs s_looked) (defBody s_looked) (defScope s_looked) .none kV22 dc22 pm22 an22 cd22 ct22), sl22⟩) (c22 : PySem.W.codeIn K cd22 "looked" = true) (k22 : PySem.W.keepIn K (.ref f22) = true)
    {f23 : Addr} {od23 an23 : Option Addr} {sl23 : Array (Option Value)} {oc23 kV23 dc23 pm23 cd23 ct23 : Value}
    (a23 : PySem.W.nsIn K mainGlobals "_law_made" = some (some (.ref f23)))
    (l23 : K.lookup f23 = some ⟨oc23, od23, .func (PySem.W.fnOf "_law_made" "_law_made" (defArgs s__law_made) (defBody s__law_made) (defScope s__law_made) .none kV23 dc23 pm23 an23 cd23 ct23), sl23⟩) (c23 : PySem.W.codeIn K cd23 "_law_made" = true) (k23 : PySem.W.keepIn K (.ref f23) = true)
    {f24 : Addr} {od24 an24 : Option Addr} {sl24 : Array (Option Value)} {oc24 kV24 dc24 pm24 cd24 ct24 : Value}
    (a24 : PySem.W.nsIn K mainGlobals "law" = some (some (.ref f24)))
    (l24 : K.lookup f24 = some ⟨oc24, od24, .func (PySem.W.fnOf "law" "law" (defArgs s_law) (defBody s_law) (defScope s_law) .none kV24 dc24 pm24 an24 cd24 ct24), sl24⟩) (c24 : PySem.W.codeIn K cd24 "law" = true) (k24 : PySem.W.keepIn K (.ref f24) = true)
    (z_ValueError : PySem.W.nsIn K mainGlobals "ValueError" = some none)
    (z_all : PySem.W.nsIn K mainGlobals "all" = some none)
    (z_bool : PySem.W.nsIn K mainGlobals "bool" = some none)
    (z_enumerate : PySem.W.nsIn K mainGlobals "enumerate" = some none)
    (z_int : PySem.W.nsIn K mainGlobals "int" = some none)
    (z_isinstance : PySem.W.nsIn K mainGlobals "isinstance" = some none)
    (z_len : PySem.W.nsIn K mainGlobals "len" = some none)
    (z_list : PySem.W.nsIn K mainGlobals "list" = some none)
    (z_min : PySem.W.nsIn K mainGlobals "min" = some none)
    (z_range : PySem.W.nsIn K mainGlobals "range" = some none)
    (z_str : PySem.W.nsIn K mainGlobals "str" = some none)
    (z_tuple : PySem.W.nsIn K mainGlobals "tuple" = some none)
    {t_GREATEST_DOOR : Tok} (z_GREATEST_DOOR : PySem.W.nsIn K mainGlobals "GREATEST_DOOR" = some (some (.int 9999 t_GREATEST_DOOR)))
    {t_WIDEST_STEP : Tok} (z_WIDEST_STEP : PySem.W.nsIn K mainGlobals "WIDEST_STEP" = some (some (.int 199 t_WIDEST_STEP)))
    {t_GREATEST_MOST : Tok} (z_GREATEST_MOST : PySem.W.nsIn K mainGlobals "GREATEST_MOST" = some (some (.int 200 t_GREATEST_MOST)))
    {t_GREATEST_TIME : Tok} (z_GREATEST_TIME : PySem.W.nsIn K mainGlobals "GREATEST_TIME" = some (some (.int 1000000 t_GREATEST_TIME)))
    {a_LENDINGS : Addr} {i_LENDINGS : Array Value} {n_LENDINGS : Nat} {d_LENDINGS : Option Addr} {s_LENDINGS : Array (Option Value)} (z_LENDINGS : PySem.W.nsIn K mainGlobals "LENDINGS" = some (some (.ref a_LENDINGS))) (l_LENDINGS : K.lookup a_LENDINGS = some ⟨.type "tuple", d_LENDINGS, .seq i_LENDINGS n_LENDINGS, s_LENDINGS⟩) (y_LENDINGS : i_LENDINGS.size ≤ sizeLine) (v_LENDINGS : Vals ((["door", "place", "talk"] : List Str).map V.str) i_LENDINGS.toList)
    {a_SIEVES : Addr} {i_SIEVES : Array Value} {n_SIEVES : Nat} {d_SIEVES : Option Addr} {s_SIEVES : Array (Option Value)} (z_SIEVES : PySem.W.nsIn K mainGlobals "SIEVES" = some (some (.ref a_SIEVES))) (l_SIEVES : K.lookup a_SIEVES = some ⟨.type "tuple", d_SIEVES, .seq i_SIEVES n_SIEVES, s_SIEVES⟩) (y_SIEVES : i_SIEVES.size ≤ sizeLine) (v_SIEVES : Vals ((["all", "place", "talk"] : List Str).map V.str) i_SIEVES.toList)
    {a_PICKS : Addr} {i_PICKS : Array Value} {n_PICKS : Nat} {d_PICKS : Option Addr} {s_PICKS : Array (Option Value)} (z_PICKS : PySem.W.nsIn K mainGlobals "PICKS" = some (some (.ref a_PICKS))) (l_PICKS : K.lookup a_PICKS = some ⟨.type "tuple", d_PICKS, .seq i_PICKS n_PICKS, s_PICKS⟩) (y_PICKS : i_PICKS.size ≤ sizeLine) (v_PICKS : Vals ((["next", "keep"] : List Str).map V.str) i_PICKS.toList)
    : ∃ fd : FuncData, (∀ (s : Shared) (v : Value), BindsTo s fd ⟨[v], []⟩ [("script", v)]) ∧ ∀ base : Heap, K.In base → base.Ns mainGlobals mg → FnOk l.prog w K mg base CX0 11 fa fd ["script"] (upSp K sp_law) := by
  have e := hfa.symm.trans (PySem.W.mg_of X G a24)
  cases e
  have c_GREATEST_DOOR : IntC mg "GREATEST_DOOR" 9999 := ⟨_, PySem.W.mg_of X G z_GREATEST_DOOR⟩
  have c_WIDEST_STEP : IntC mg "WIDEST_STEP" 199 := ⟨_, PySem.W.mg_of X G z_WIDEST_STEP⟩
  have c_GREATEST_MOST : IntC mg "GREATEST_MOST" 200 := ⟨_, PySem.W.mg_of X G z_GREATEST_MOST⟩
  have c_GREATEST_TIME : IntC mg "GREATEST_TIME" 1000000 := ⟨_, PySem.W.mg_of X G z_GREATEST_TIME⟩
  have c_LENDINGS : TupC K mg "LENDINGS" ["door", "place", "talk"] := tupc_mk (PySem.W.mg_of X G z_LENDINGS) l_LENDINGS y_LENDINGS v_LENDINGS
  have c_SIEVES : TupC K mg "SIEVES" ["all", "place", "talk"] := tupc_mk (PySem.W.mg_of X G z_SIEVES) l_SIEVES y_SIEVES v_SIEVES
  have c_PICKS : TupC K mg "PICKS" ["next", "keep"] := tupc_mk (PySem.W.mg_of X G z_PICKS) l_PICKS y_PICKS v_PICKS
  have T : Txt l.prog w K mg C := ⟨⟨pg_Rules, hd_Rules, po_Rules, sa_Rules⟩, na_Rules_many_told, na_Rules_standing, ⟨pg_Pool, hd_Pool, po_Pool, sa_Pool⟩, na_Pool_low, na_Pool_high, na_Pool_mark, na_Pool_taken, na_Pool_until, ⟨pg_Talks, hd_Talks, po_Talks, sa_Talks⟩, na_Talks_form, na_Talks_pool, na_Talks_now, na_Talks_by_inner, na_Talks_by_number, na_Talks_holders, na_Talks_numbers, ⟨pg_Gate, hd_Gate, po_Gate, sa_Gate⟩, na_Gate_form, na_Gate_table, na_Gate_strangers, na_Gate_done, na_Gate_wish, ⟨pg_Desk, hd_Desk, po_Desk, sa_Desk⟩, na_Desk_gate, PySem.W.mg_of X G aC_Rules, PySem.W.mg_of X G aC_Pool, PySem.W.mg_of X G aC_Talks, PySem.W.mg_of X G aC_Gate, PySem.W.mg_of X G aC_Desk, PySem.W.mg_of X G aC_GateError, PySem.W.mg_of X G aC_NoForm, PySem.W.mg_of X G aC_NoDeed, PySem.W.mg_of X G aC_NoRule, PySem.W.mg_of X G aC_NoPlan, PySem.W.mg_of X G aC_NoRow, kf_x_NoForm, kf_xm, kf_xk, kf_k1, kf_k2, kf_k3, PySem.W.mg_none_of X G z_ValueError, PySem.W.mg_none_of X G z_all, PySem.W.mg_none_of X G z_bool, PySem.W.mg_none_of X G z_enumerate, PySem.W.mg_none_of X G z_int, PySem.W.mg_none_of X G z_isinstance, PySem.W.mg_none_of X G z_len, PySem.W.mg_none_of X G z_list, PySem.W.mg_none_of X G z_min, PySem.W.mg_none_of X G z_range, PySem.W.mg_none_of X G z_str, PySem.W.mg_none_of X G z_tuple, c_GREATEST_DOOR, c_WIDEST_STEP, c_GREATEST_MOST, c_GREATEST_TIME, c_LENDINGS, c_SIEVES, c_PICKS⟩
  have Fn0 := fun_mk (st := s_is_whole) l0 c0 k0
  have bn0 := Fn0.binds (ps := ["thing"]) fun _ _ _ _ _ _ us hl => match us, hl with | [_], _ => rfl
  have Fn1 := fun_mk (st := s_Rules_init) l1 c1 k1
  have bn1 := Fn1.binds (ps := ["self"]) fun _ _ _ _ _ _ us hl => match us, hl with | [_], _ => rfl
  have Fn2 := fun_mk (st := s_Pool_init) l2 c2 k2
  have bn2 := Fn2.binds (ps := ["self", "low", "high"]) fun _ _ _ _ _ _ us hl => match us, hl with | [_, _, _], _ => rfl
  have Fn3 := fun_mk (st := s__law_cell) l3 c3 k3
  have bn3 := Fn3.binds (ps := ["script", "k"]) fun _ _ _ _ _ _ us hl => match us, hl with | [_, _], _ => rfl
  have Fn4 := fun_mk (st := s__law_well) l4 c4 k4
  have bn4 := Fn4.binds (ps := ["cell", "turn"]) fun _ _ _ _ _ _ us hl => match us, hl with | [_, _], _ => rfl
  have Fn5 := fun_mk (st := s__law_take) l5 c5 k5
  have bn5 := Fn5.binds (ps := ["bag", "many"]) fun _ _ _ _ _ _ us hl => match us, hl with | [_, _], _ => rfl
  have Fn6 := fun_mk (st := s__law_whole) l6 c6 k6
  have bn6 := Fn6.binds (ps := ["found"]) fun _ _ _ _ _ _ us hl => match us, hl with | [_], _ => rfl
  have Fn7 := fun_mk (st := s__law_is_one) l7 c7 k7
  have bn7 := Fn7.binds (ps := ["thing", "words"]) fun _ _ _ _ _ _ us hl => match us, hl with | [_, _], _ => rfl
  have Fn8 := fun_mk (st := s_is_whole_within) l8 c8 k8
  have bn8 := Fn8.binds (ps := ["thing", "least", "greatest"]) fun _ _ _ _ _ _ us hl => match us, hl with | [_, _, _], _ => rfl
  have Fn9 := fun_mk (st := s__law_a_form) l9 c9 k9
  have bn9 := Fn9.binds (ps := ["bag"]) fun _ _ _ _ _ _ us hl => match us, hl with | [_], _ => rfl
  have Fn10 := fun_mk (st := s__law_odd) l10 c10 k10
  have bn10 := Fn10.binds (ps := ["bag", "part"]) fun _ _ _ _ _ _ us hl => match us, hl with | [_, _], _ => rfl
  have Fn11 := fun_mk (st := s__law_in_bounds) l11 c11 k11
  have bn11 := Fn11.binds (ps := ["thing", "low", "high"]) fun _ _ _ _ _ _ us hl => match us, hl with | [_, _, _], _ => rfl
  have Fn12 := fun_mk (st := s_is_door) l12 c12 k12
  have bn12 := Fn12.binds (ps := ["thing"]) fun _ _ _ _ _ _ us hl => match us, hl with | [_], _ => rfl
  have Fn13 := fun_mk (st := s_is_times) l13 c13 k13
  have bn13 := Fn13.binds (ps := ["thing"]) fun _ _ _ _ _ _ us hl => match us, hl with | [_], _ => rfl
  have Fn14 := fun_mk (st := s_Talks_init) l14 c14 k14
  have bn14 := Fn14.binds (ps := ["self", "form"]) fun _ _ _ _ _ _ us hl => match us, hl with | [_, _], _ => rfl
  have Fn15 := fun_mk (st := s__law_is_right) l15 c15 k15
  have bn15 := Fn15.binds (ps := ["thing"]) fun _ _ _ _ _ _ us hl => match us, hl with | [_], _ => rfl
  have Fn16 := fun_mk (st := s_is_pool) l16 c16 k16
  have bn16 := Fn16.binds (ps := ["low", "high"]) fun _ _ _ _ _ _ us hl => match us, hl with | [_, _], _ => rfl
  have Fn17 := fun_mk (st := s__law_bent) l17 c17 k17
  have bn17 := Fn17.binds (ps := ["bag", "parts"]) fun _ _ _ _ _ _ us hl => match us, hl with | [_, _], _ => rfl
  have Fn18 := fun_mk (st := s_is_form) l18 c18 k18
  have bn18 := Fn18.binds (ps := ["thing"]) fun _ _ _ _ _ _ us hl => match us, hl with | [_], _ => rfl
  have Fn19 := fun_mk (st := s_Gate_init) l19 c19 k19
  have bn19 := Fn19.binds (ps := ["self", "form"]) fun _ _ _ _ _ _ us hl => match us, hl with | [_, _], _ => rfl
  have Fn20 := fun_mk (st := s_Desk_init) l20 c20 k20
  have bn20 := Fn20.binds (ps := ["self", "form"]) fun _ _ _ _ _ _ us hl => match us, hl with | [_, _], _ => rfl
  have Fn21 := fun_mk (st := s_replayed) l21 c21 k21
  have bn21 := Fn21.binds (ps := ["form", "deeds"]) fun _ _ _ _ _ _ us hl => match us, hl with | [_, _], _ => rfl
  have Fn22 := fun_mk (st := s_looked) l22 c22 k22
  have bn22 := Fn22.binds (ps := ["form", "book"]) fun _ _ _ _ _ _ us hl => match us, hl with | [_, _], _ => rfl
  have Fn23 := fun_mk (st := s__law_made) l23 c23 k23
  have bn23 := Fn23.binds (ps := ["way", "thing"]) fun _ _ _ _ _ _ us hl => match us, hl with | [_, _], _ => rfl
  have Fn24 := fun_mk (st := s_law) l24 c24 k24
  have bn24 := Fn24.binds (ps := ["script"]) fun _ _ _ _ _ _ us hl => match us, hl with | [_], _ => rfl
  refine ⟨PySem.W.fnOf "law" "law" (defArgs s_law) (defBody s_law) (defScope s_law) .none kV24 dc24 pm24 an24 cd24 ct24, fun s v => .of_eq rfl, fun base kb nb => ?_⟩
  have G_is_whole : RFn l.prog w K mg base 1 "is_whole" ["thing"] sp_is_whole := ⟨_, _, PySem.W.mg_of X G a0, Fn0.kp, bn0, fn_is_whole Fn0 T ⟩
  have G_Rules_init : RIn l.prog w K mg base C.Rules 1 ["self"] (sp_Rules_init C) := ⟨_, _, ⟨mk_Rules, a1, i1, kc_Rules⟩, bn1, fn_Rules_init Fn1 T ⟩
  have G_Pool_init : RIn l.prog w K mg base C.Pool 1 ["self", "low", "high"] (sp_Pool_init C) := ⟨_, _, ⟨mk_Pool, a2, i2, kc_Pool⟩, bn2, fn_Pool_init Fn2 T ⟩
  have G__law_cell : RFn l.prog w K mg base 1 "_law_cell" ["script", "k"] sp__law_cell := ⟨_, _, PySem.W.mg_of X G a3, Fn3.kp, bn3, fn__law_cell Fn3 T ⟩
  have G__law_well : RFn l.prog w K mg base 1 "_law_well" ["cell", "turn"] sp__law_well := ⟨_, _, PySem.W.mg_of X G a4, Fn4.kp, bn4, fn__law_well Fn4 T ⟩
  have G__law_take : RFn l.prog w K mg base 1 "_law_take" ["bag", "many"] sp__law_take := ⟨_, _, PySem.W.mg_of X G a5, Fn5.kp, bn5, fn__law_take Fn5 T ⟩
  have G__law_whole : RFn l.prog w K mg base 1 "_law_whole" ["found"] sp__law_whole := ⟨_, _, PySem.W.mg_of X G a6, Fn6.kp, bn6, fn__law_whole Fn6 T ⟩
  have G__law_is_one : RFn l.prog w K mg base 1 "_law_is_one" ["thing", "words"] sp__law_is_one := ⟨_, _, PySem.W.mg_of X G a7, Fn7.kp, bn7, fn__law_is_one Fn7 T ⟩
  have G_is_whole_within : RFn l.prog w K mg base 2 "is_whole_within" ["thing", "least", "greatest"] sp_is_whole_within := ⟨_, _, PySem.W.mg_of X G a8, Fn8.kp, bn8, fn_is_whole_within Fn8 T G_is_whole⟩
  have G__law_a_form : RFn l.prog w K mg base 2 "_law_a_form" ["bag"] sp__law_a_form := ⟨_, _, PySem.W.mg_of X G a9, Fn9.kp, bn9, fn__law_a_form Fn9 T G__law_take⟩
  have G__law_odd : RFn l.prog w K mg base 2 "_law_odd" ["bag", "part"] sp__law_odd := ⟨_, _, PySem.W.mg_of X G a10, Fn10.kp, bn10, fn__law_odd Fn10 T G__law_take G__law_whole⟩
  have G__law_in_bounds : RFn l.prog w K mg base 2 "_law_in_bounds" ["thing", "low", "high"] sp__law_in_bounds := ⟨_, _, PySem.W.mg_of X G a11, Fn11.kp, bn11, fn__law_in_bounds Fn11 T G__law_whole⟩
  have G_is_door : RFn l.prog w K mg base 3 "is_door" ["thing"] sp_is_door := ⟨_, _, PySem.W.mg_of X G a12, Fn12.kp, bn12, fn_is_door Fn12 T G_is_whole_within⟩
  have G_is_times : RFn l.prog w K mg base 3 "is_times" ["thing"] sp_is_times := ⟨_, _, PySem.W.mg_of X G a13, Fn13.kp, bn13, fn_is_times Fn13 T G_is_whole_within⟩
  have G_Talks_init : RIn l.prog w K mg base C.Talks 3 ["self", "form"] (sp_Talks_init C) := ⟨_, _, ⟨mk_Talks, a14, i14, kc_Talks⟩, bn14, fn_Talks_init Fn14 T G_Pool_init⟩
  have G__law_is_right : RFn l.prog w K mg base 3 "_law_is_right" ["thing"] sp__law_is_right := ⟨_, _, PySem.W.mg_of X G a15, Fn15.kp, bn15, fn__law_is_right Fn15 T G__law_in_bounds G__law_is_one⟩
  have G__law_bent__0 : RFn l.prog w K mg base 0 "_law_bent" ["bag", "parts"] spNever := ⟨_, _, PySem.W.mg_of X G a17, Fn17.kp, bn17, never_ok⟩
  have G__law_bent__1 : RFn l.prog w K mg base 3 "_law_bent" ["bag", "parts"] sp__law_bent__1 := ⟨_, _, PySem.W.mg_of X G a17, Fn17.kp, bn17, fn__law_bent__1 Fn17 T G__law_take G__law_odd G__law_bent__0⟩
  have G_is_pool : RFn l.prog w K mg base 4 "is_pool" ["low", "high"] sp_is_pool := ⟨_, _, PySem.W.mg_of X G a16, Fn16.kp, bn16, fn_is_pool Fn16 T G_is_door⟩
  have G__law_bent : RFn l.prog w K mg base 4 "_law_bent" ["bag", "parts"] sp__law_bent := ⟨_, _, PySem.W.mg_of X G a17, Fn17.kp, bn17, fn__law_bent Fn17 T G__law_take G__law_odd G__law_bent__1⟩
  have G_is_form : RFn l.prog w K mg base 5 "is_form" ["thing"] sp_is_form := ⟨_, _, PySem.W.mg_of X G a18, Fn18.kp, bn18, fn_is_form Fn18 T G_is_whole_within G_is_pool G_is_times⟩
  have G_Gate_init : RInX l.prog w K mg base C.Gate 6 ["self", "form"] (sp_Gate_init C) := ⟨_, _, ⟨mk_Gate, a19, i19, kc_Gate⟩, bn19, fn_Gate_init Fn19 T G_is_form G_Rules_init G_Talks_init⟩
  have G_Desk_init : RInX l.prog w K mg base C.Desk 8 ["self", "form"] (sp_Desk_init C) := ⟨_, _, ⟨mk_Desk, a20, i20, kc_Desk⟩, bn20, fn_Desk_init Fn20 T G_Gate_init⟩
  have G_replayed : RFnX l.prog w K mg base 8 "replayed" ["form", "deeds"] (sp_replayed C) := ⟨_, _, PySem.W.mg_of X G a21, Fn21.kp, bn21, fn_replayed Fn21 T G_Gate_init⟩
  have G_looked : RFnX l.prog w K mg base 8 "looked" ["form", "book"] (sp_looked C) := ⟨_, _, PySem.W.mg_of X G a22, Fn22.kp, bn22, fn_looked Fn22 T G_Gate_init⟩
  have G__law_made : RFn l.prog w K mg base 10 "_law_made" ["way", "thing"] (sp__law_made C) := ⟨_, _, PySem.W.mg_of X G a23, Fn23.kp, bn23, fn__law_made Fn23 T G_Gate_init G_Desk_init G_replayed G_looked⟩
  exact fn_law Fn24 T G_is_form G__law_cell G__law_well G__law_take G__law_a_form G__law_is_right G__law_bent G__law_made
theorem all_mk2 {l : PySem.W.OpenLaw} {w : World} {K : PySem.W.Frag} {h : Heap} {mg : Str → Option Value} {fa : Addr} (X : K.In h) (G : h.Ns mainGlobals mg) (hfa : mg "law" = some (.ref fa))
    {C_Rules : Addr} {C_Pool : Addr} {C_Talks : Addr} {C_Gate : Addr} {C_Desk : Addr} {C_GateError : Addr} {C_NoForm : Addr} {C_NoDeed : Addr} {C_NoRule : Addr} {C_NoPlan : Addr} {C_NoRow : Addr}
    (aC_Rules : PySem.W.nsIn K mainGlobals "Rules" = some (some (.ref C_Rules))) (pg_Rules : PySem.W.plainGet K C_Rules Str.empty = true) (hd_Rules : PySem.W.hasDictIn K C_Rules = true) (po_Rules : PySem.W.plainOver K C_Rules = true) (sa_Rules : PySem.W.findIn K (.ref C_Rules) "__setattr__" = some (some (.builtin "object.__setattr__"))) (mk_Rules : PySem.W.makesIn K C_Rules = true) (kc_Rules : PySem.W.keepIn K (.ref C_Rules) = true)
    (na_Rules_many_told : PySem.W.findIn K (.ref C_Rules) "many_told" = some none)
    (na_Rules_standing : PySem.W.findIn K (.ref C_Rules) "standing" = some none)
    (aC_Pool : PySem.W.nsIn K mainGlobals "Pool" = some (some (.ref C_Pool))) (pg_Pool : PySem.W.plainGet K C_Pool Str.empty = true) (hd_Pool : PySem.W.hasDictIn K C_Pool = true) (po_Pool : PySem.W.plainOver K C_Pool = true) (sa_Pool : PySem.W.findIn K (.ref C_Pool) "__setattr__" = some (some (.builtin "object.__setattr__"))) (mk_Pool : PySem.W.makesIn K C_Pool = true) (kc_Pool : PySem.W.keepIn K (.ref C_Pool) = true)
    (na_Pool_low : PySem.W.findIn K (.ref C_Pool) "low" = some none)
    (na_Pool_high : PySem.W.findIn K (.ref C_Pool) "high" = some none)
    (na_Pool_mark : PySem.W.findIn K (.ref C_Pool) "mark" = some none)
    (na_Pool_taken : PySem.W.findIn K (.ref C_Pool) "taken" = some none)
    (na_Pool_until : PySem.W.findIn K (.ref C_Pool) "until" = some none)
    (aC_Talks : PySem.W.nsIn K mainGlobals "Talks" = some (some (.ref C_Talks))) (pg_Talks : PySem.W.plainGet K C_Talks Str.empty = true) (hd_Talks : PySem.W.hasDictIn K C_Talks = true) (po_Talks : PySem.W.plainOver K C_Talks = true) (sa_Talks : PySem.W.findIn K (.ref C_Talks) "__setattr__" = some (some (.builtin "object.__setattr__"))) (mk_Talks : PySem.W.makesIn K C_Talks = true) (kc_Talks : PySem.W.keepIn K (.ref C_Talks) = true)
    (na_Talks_form : PySem.W.findIn K (.ref C_Talks) "form" = some none)
    (na_Talks_pool : PySem.W.findIn K (.ref C_Talks) "pool" = some none)
    (na_Talks_now : PySem.W.findIn K (.ref C_Talks) "now" = some none)
    (na_Talks_by_inner : PySem.W.findIn K (.ref C_Talks) "by_inner" = some none)
    (na_Talks_by_number : PySem.W.findIn K (.ref C_Talks) "by_number" = some none)
    (na_Talks_holders : PySem.W.findIn K (.ref C_Talks) "holders" = some none)
    (na_Talks_numbers : PySem.W.findIn K (.ref C_Talks) "numbers" = some none)
    (aC_Gate : PySem.W.nsIn K mainGlobals "Gate" = some (some (.ref C_Gate))) (pg_Gate : PySem.W.plainGet K C_Gate Str.empty = true) (hd_Gate : PySem.W.hasDictIn K C_Gate = true) (po_Gate : PySem.W.plainOver K C_Gate = true) (sa_Gate : PySem.W.findIn K (.ref C_Gate) "__setattr__" = some (some (.builtin "object.__setattr__"))) (mk_Gate : PySem.W.makesIn K C_Gate = true) (kc_Gate : PySem.W.keepIn K (.ref C_Gate) = true)
    (na_Gate_form : PySem.W.findIn K (.ref C_Gate) "form" = some none)
    (na_Gate_table : PySem.W.findIn K (.ref C_Gate) "table" = some none)
    (na_Gate_strangers : PySem.W.findIn K (.ref C_Gate) "strangers" = some none)
    (na_Gate_done : PySem.W.findIn K (.ref C_Gate) "done" = some none)
    (na_Gate_wish : PySem.W.findIn K (.ref C_Gate) "wish" = some none)
    (aC_Desk : PySem.W.nsIn K mainGlobals "Desk" = some (some (.ref C_Desk))) (pg_Desk : PySem.W.plainGet K C_Desk Str.empty = true) (hd_Desk : PySem.W.hasDictIn K C_Desk = true) (po_Desk : PySem.W.plainOver K C_Desk = true) (sa_Desk : PySem.W.findIn K (.ref C_Desk) "__setattr__" = some (some (.builtin "object.__setattr__"))) (mk_Desk : PySem.W.makesIn K C_Desk = true) (kc_Desk : PySem.W.keepIn K (.ref C_Desk) = true)
    (na_Desk_gate : PySem.W.findIn K (.ref C_Desk) "gate" = some none)
    (aC_GateError : PySem.W.nsIn K mainGlobals "GateError" = some (some (.ref C_GateError)))
    (aC_NoForm : PySem.W.nsIn K mainGlobals "NoForm" = some (some (.ref C_NoForm)))
    (aC_NoDeed : PySem.W.nsIn K mainGlobals "NoDeed" = some (some (.ref C_NoDeed)))
    (aC_NoRule : PySem.W.nsIn K mainGlobals "NoRule" = some (some (.ref C_NoRule)))
    (aC_NoPlan : PySem.W.nsIn K mainGlobals "NoPlan" = some (some (.ref C_NoPlan)))
    (aC_NoRow : PySem.W.nsIn K mainGlobals "NoRow" = some (some (.ref C_NoRow)))
    (kf_x_NoForm : PySem.W.excIn K C_NoForm [.type "ValueError", .type "Exception", .type "BaseException", .type "object"] "ValueError.__new__" = true)
    (kf_xm : PySem.W.exmOne K (.ref C_NoForm) (.ref C_GateError) = some true)
    (kf_xk : PySem.W.xcOk K C_NoForm = true)
    (kf_k1 : PySem.W.kitOne K (.ref C_NoForm) (.ref C_NoForm) = some true)
    (kf_k2 : PySem.W.kitOne K (.ref C_NoForm) (.type "ValueError") = some true)
    (kf_k3 : PySem.W.kitAny K (.ref C_NoForm) [.ref C_NoDeed, .ref C_NoPlan, .ref C_NoRow, .ref C_NoRule] = some false)
    {f0 : Addr} {od0 an0 : Option Addr} {sl0 : Array (Option Value)} {oc0 kV0 dc0 pm0 cd0 ct0 : Value}
    (a0 : PySem.W.nsIn K mainGlobals "is_whole" = some (some (.ref f0)))
    (l0 : K.lookup f0 = some ⟨oc0, od0, .func (PySem.W.fnOf "is_whole" "is_whole" (defArgs s_is_whole) (defBody s_is_whole) (defScope s_is_whole) .none kV0 dc0 pm0 an0 cd0 ct0), sl0⟩) (c0 : PySem.W.codeIn K cd0 "is_whole" = true) (k0 : PySem.W.keepIn K (.ref f0) = true)
    {f1 : Addr} {od1 an1 : Option Addr} {sl1 : Array (Option Value)} {oc1 kV1 dc1 pm1 cd1 ct1 : Value}
    (a1 : PySem.W.findIn K (.ref C_Rules) "__init__" = some (some (.ref f1))) (i1 : PySem.W.isFn K (.ref f1) = true)
    (l1 : K.lookup f1 = some ⟨oc1, od1, .func (PySem.W.fnOf "__init__" "Rules.__init__" (defArgs s_Rules_init) (defBody s_Rules_init) (defScope s_Rules_init) .none kV1 dc1 pm1 an1 cd1 ct1), sl1⟩) (c1 : PySem.W.codeIn K cd1 "Rules.__init__" = true) (k1 : PySem.W.keepIn K (.ref f1) = true)
    {f2 : Addr} {od2 an2 : Option Addr} {sl2 : Array (Option Value)} {oc2 kV2 dc2 pm2 cd2 ct2 : Value}
    (a2 : PySem.W.findIn K (.ref C_Pool) "__init__" = some (some (.ref f2))) (i2 : PySem.W.isFn K (.ref f2) = true)
    (l2 : K.lookup f2 = some ⟨oc2, od2, .func (PySem.W.fnOf "__init__" "Pool.__init__" (defArgs s_Pool_init) (defBody s_Pool_init) (defScope s_Pool_init) .none kV2 dc2 pm2 an2 cd2 ct2), sl2⟩) (c2 : PySem.W.codeIn K cd2 "Pool.__init__" = true) (k2 : PySem.W.keepIn K (.ref f2) = true)
    {f3 : Addr} {od3 an3 : Option Addr} {sl3 : Array (Option Value)} {oc3 kV3 dc3 pm3 cd3 ct3 : Value}
    (a3 : PySem.W.nsIn K mainGlobals "_law_cell" = some (some (.ref f3)))
    (l3 : K.lookup f3 = some ⟨oc3, od3, .func (PySem.W.fnOf "_law_cell" "_law_cell" (defArgs s__law_cell) (defBody s__law_cell) (defScope s__law_cell) .none kV3 dc3 pm3 an3 cd3 ct3), sl3⟩) (c3 : PySem.W.codeIn K cd3 "_law_cell" = true) (k3 : PySem.W.keepIn K (.ref f3) = true)
    {f4 : Addr} {od4 an4 : Option Addr} {sl4 : Array (Option Value)} {oc4 kV4 dc4 pm4 cd4 ct4 : Value}
    (a4 : PySem.W.nsIn K mainGlobals "_law_well" = some (some (.ref f4)))
    (l4 : K.lookup f4 = some ⟨oc4, od4, .func (PySem.W.fnOf "_law_well" "_law_well" (defArgs s__law_well) (defBody s__law_well) (defScope s__law_well) .none kV4 dc4 pm4 an4 cd4 ct4), sl4⟩) (c4 : PySem.W.codeIn K cd4 "_law_well" = true) (k4 : PySem.W.keepIn K (.ref f4) = true)
    {f5 : Addr} {od5 an5 : Option Addr} {sl5 : Array (Option Value)} {oc5 kV5 dc5 pm5 cd5 ct5 : Value}
    (a5 : PySem.W.nsIn K mainGlobals "_law_take" = some (some (.ref f5)))
    (l5 : K.lookup f5 = some ⟨oc5, od5, .func (PySem.W.fnOf "_law_take" "_law_take" (defArgs s__law_take) (defBody s__law_take) (defScope s__law_take) .none kV5 dc5 pm5 an5 cd5 ct5), sl5⟩) (c5 : PySem.W.codeIn K cd5 "_law_take" = true) (k5 : PySem.W.keepIn K (.ref f5) = true)
    {f6 : Addr} {od6 an6 : Option Addr} {sl6 : Array (Option Value)} {oc6 kV6 dc6 pm6 cd6 ct6 : Value}
    (a6 : PySem.W.nsIn K mainGlobals "_law_whole" = some (some (.ref f6)))
    (l6 : K.lookup f6 = some ⟨oc6, od6, .func (PySem.W.fnOf "_law_whole" "_law_whole" (defArgs s__law_whole) (defBody s__law_whole) (defScope s__law_whole) .none kV6 dc6 pm6 an6 cd6 ct6), sl6⟩) (c6 : PySem.W.codeIn K cd6 "_law_whole" = true) (k6 : PySem.W.keepIn K (.ref f6) = true)
    {f7 : Addr} {od7 an7 : Option Addr} {sl7 : Array (Option Value)} {oc7 kV7 dc7 pm7 cd7 ct7 : Value}
    (a7 : PySem.W.nsIn K mainGlobals "_law_is_one" = some (some (.ref f7)))
    (l7 : K.lookup f7 = some ⟨oc7, od7, .func (PySem.W.fnOf "_law_is_one" "_law_is_one" (defArgs s__law_is_one) (defBody s__law_is_one) (defScope s__law_is_one) .none kV7 dc7 pm7 an7 cd7 ct7), sl7⟩) (c7 : PySem.W.codeIn K cd7 "_law_is_one" = true) (k7 : PySem.W.keepIn K (.ref f7) = true)
    {f8 : Addr} {od8 an8 : Option Addr} {sl8 : Array (Option Value)} {oc8 kV8 dc8 pm8 cd8 ct8 : Value}
    (a8 : PySem.W.nsIn K mainGlobals "is_whole_within" = some (some (.ref f8)))
    (l8 : K.lookup f8 = some ⟨oc8, od8, .func (PySem.W.fnOf "is_whole_within" "is_whole_within" (defArgs s_is_whole_within) (defBody s_is_whole_within) (defScope s_is_whole_within) .none kV8 dc8 pm8 an8 cd8 ct8), sl8⟩) (c8 : PySem.W.codeIn K cd8 "is_whole_within" = true) (k8 : PySem.W.keepIn K (.ref f8) = true)
    {f9 : Addr} {od9 an9 : Option Addr} {sl9 : Array (Option Value)} {oc9 kV9 dc9 pm9 cd9 ct9 : Value}
    (a9 : PySem.W.nsIn K mainGlobals "_law_a_form" = some (some (.ref f9)))
    (l9 : K.lookup f9 = some ⟨oc9, od9, .func (PySem.W.fnOf "_law_a_form" "_law_a_form" (defArgs s__law_a_form) (defBody s__law_a_form) (defScope s__law_a_form) .none kV9 dc9 pm9 an9 cd9 ct9), sl9⟩) (c9 : PySem.W.codeIn K cd9 "_law_a_form" = true) (k9 : PySem.W.keepIn K (.ref f9) = true)
    {f10 : Addr} {od10 an10 : Option Addr} {sl10 : Array (Option Value)} {oc10 kV10 dc10 pm10 cd10 ct10 : Value}
    (a10 : PySem.W.nsIn K mainGlobals "_law_odd" = some (some (.ref f10)))
    (l10 : K.lookup f10 = some ⟨oc10, od10, .func (PySem.W.fnOf "_law_odd" "_law_odd" (defArgs s__law_odd) (defBody s__law_odd) (defScope s__law_odd) .none kV10 dc10 pm10 an10 cd10 ct10), sl10⟩) (c10 : PySem.W.codeIn K cd10 "_law_odd" = true) (k10 : PySem.W.keepIn K (.ref f10) = true)
    {f11 : Addr} {od11 an11 : Option Addr} {sl11 : Array (Option Value)} {oc11 kV11 dc11 pm11 cd11 ct11 : Value}
    (a11 : PySem.W.nsIn K mainGlobals "_law_in_bounds" = some (some (.ref f11)))
    (l11 : K.lookup f11 = some ⟨oc11, od11, .func (PySem.W.fnOf "_law_in_bounds" "_law_in_bounds" (defArgs s__law_in_bounds) (defBody s__law_in_bounds) (defScope s__law_in_bounds) .none kV11 dc11 pm11 an11 cd11 ct11), sl11⟩) (c11 : PySem.W.codeIn K cd11 "_law_in_bounds" = true) (k11 : PySem.W.keepIn K (.ref f11) = true)
    {f12 : Addr} {od12 an12 : Option Addr} {sl12 : Array (Option Value)} {oc12 kV12 dc12 pm12 cd12 ct12 : Value}
    (a12 : PySem.W.nsIn K mainGlobals "is_door" = some (some (.ref f12)))
    (l12 : K.lookup f12 = some ⟨oc12, od12, .func (PySem.W.fnOf "is_door" "is_door" (defArgs s_is_door) (defBody s_is_door) (defScope s_is_door) .none kV12 dc12 pm12 an12 cd12 ct12), sl12⟩) (c12 : PySem.W.codeIn K cd12 "is_door" = true) (k12 : PySem.W.keepIn K (.ref f12) = true)
    {f13 : Addr} {od13 an13 : Option Addr} {sl13 : Array (Option Value)} {oc13 kV13 dc13 pm13 cd13 ct13 : Value}
    (a13 : PySem.W.nsIn K mainGlobals "is_times" = some (some (.ref f13)))
    (l13 : K.lookup f13 = some ⟨oc13, od13, .func (PySem.W.fnOf "is_times" "is_times" (defArgs s_is_times) (defBody s_is_times) (defScope s_is_times) .none kV13 dc13 pm13 an13 cd13 ct13), sl13⟩) (c13 : PySem.W.codeIn K cd13 "is_times" = true) (k13 : PySem.W.keepIn K (.ref f13) = true)
    {f14 : Addr} {od14 an14 : Option Addr} {sl14 : Array (Option Value)} {oc14 kV14 dc14 pm14 cd14 ct14 : Value}
    (a14 : PySem.W.findIn K (.ref C_Talks) "__init__" = some (some (.ref f14))) (i14 : PySem.W.isFn K (.ref f14) = true)
    (l14 : K.lookup f14 = some ⟨oc14, od14, .func (PySem.W.fnOf "__init__" "Talks.__init__" (defArgs s_Talks_init) (defBody s_Talks_init) (defScope s_Talks_init) .none kV14 dc14 pm14 an14 cd14 ct14), sl14⟩) (c14 : PySem.W.codeIn K cd14 "Talks.__init__" = true) (k14 : PySem.W.keepIn K (.ref f14) = true)
    {f15 : Addr} {od15 an15 : Option Addr} {sl15 : Array (Option Value)} {oc15 kV15 dc15 pm15 cd15 ct15 : Value}
    (a15 : PySem.W.nsIn K mainGlobals "_law_is_right" = some (some (.ref f15)))
    (l15 : K.lookup f15 = some ⟨oc15, od15, .func (PySem.W.fnOf "_law_is_right" "_law_is_right" (defArgs s__law_is_right) (defBody s__law_is_right) (defScope s__law_is_right) .none kV15 dc15 pm15 an15 cd15 ct15), sl15⟩) (c15 : PySem.W.codeIn K cd15 "_law_is_right" = true) (k15 : PySem.W.keepIn K (.ref f15) = true)
    {f16 : Addr} {od16 an16 : Option Addr} {sl16 : Array (Option Value)} {oc16 kV16 dc16 pm16 cd16 ct16 : Value}
    (a16 : PySem.W.nsIn K mainGlobals "is_pool" = some (some (.ref f16)))
    (l16 : K.lookup f16 = some ⟨oc16, od16, .func (PySem.W.fnOf "is_pool" "is_pool" (defArgs s_is_pool) (defBody s_is_pool) (defScope s_is_pool) .none kV16 dc16 pm16 an16 cd16 ct16), sl16⟩) (c16 : PySem.W.codeIn K cd16 "is_pool" = true) (k16 : PySem.W.keepIn K (.ref f16) = true)
    {f17 : Addr} {od17 an17 : Option Addr} {sl17 : Array (Option Value)} {oc17 kV17 dc17 pm17 cd17 ct17 : Value}
    (a17 : PySem.W.nsIn K mainGlobals "_law_bent" = some (some (.ref f17)))
    (l17 : K.lookup f17 = some ⟨oc17, od17, .func (PySem.W.fnOf "_law_bent" "_law_bent" (defArgs s__law_bent) (defBody s__law_bent) (defScope s__law_bent) .none kV17 dc17 pm17 an17 cd17 ct17), sl17⟩) (c17 : PySem.W.codeIn K cd17 "_law_bent" = true) (k17 : PySem.W.keepIn K (.ref f17) = true)
    {f18 : Addr} {od18 an18 : Option Addr} {sl18 : Array (Option Value)} {oc18 kV18 dc18 pm18 cd18 ct18 : Value}
    (a18 : PySem.W.nsIn K mainGlobals "is_form" = some (some (.ref f18)))
    (l18 : K.lookup f18 = some ⟨oc18, od18, .func (PySem.W.fnOf "is_form" "is_form" (defArgs s_is_form) (defBody s_is_form) (defScope s_is_form) .none kV18 dc18 pm18 an18 cd18 ct18), sl18⟩) (c18 : PySem.W.codeIn K cd18 "is_form" = true) (k18 : PySem.W.keepIn K (.ref f18) = true)
    {f19 : Addr} {od19 an19 : Option Addr} {sl19 : Array (Option Value)} {oc19 kV19 dc19 pm19 cd19 ct19 : Value}
    (a19 : PySem.W.findIn K (.ref C_Gate) "__init__" = some (some (.ref f19))) (i19 : PySem.W.isFn K (.ref f19) = true)
    (l19 : K.lookup f19 = some ⟨oc19, od19, .func (PySem.W.fnOf "__init__" "Gate.__init__" (defArgs s_Gate_init) (defBody s_Gate_init) (defScope s_Gate_init) .none kV19 dc19 pm19 an19 cd19 ct19), sl19⟩) (c19 : PySem.W.codeIn K cd19 "Gate.__init__" = true) (k19 : PySem.W.keepIn K (.ref f19) = true)
    {f20 : Addr} {od20 an20 : Option Addr} {sl20 : Array (Option Value)} {oc20 kV20 dc20 pm20 cd20 ct20 : Value}
    (a20 : PySem.W.findIn K (.ref C_Desk) "__init__" = some (some (.ref f20))) (i20 : PySem.W.isFn K (.ref f20) = true)
    (l20 : K.lookup f20 = some ⟨oc20, od20, .func (PySem.W.fnOf "__init__" "Desk.__init__" (defArgs s_Desk_init) (defBody s_Desk_init) (defScope s_Desk_init) .none kV20 dc20 pm20 an20 cd20 ct20), sl20⟩) (c20 : PySem.W.codeIn K cd20 "Desk.__init__" = true) (k20 : PySem.W.keepIn K (.ref f20) = true)
    {f21 : Addr} {od21 an21 : Option Addr} {sl21 : Array (Option Value)} {oc21 kV21 dc21 pm21 cd21 ct21 : Value}
    (a21 : PySem.W.nsIn K mainGlobals "replayed" = some (some (.ref f21)))
    (l21 : K.lookup f21 = some ⟨oc21, od21, .func (PySem.W.fnOf "replayed" "replayed" (defArgs s_replayed) (defBody s_replayed) (defScope s_replayed) .none kV21 dc21 pm21 an21 cd21 ct21), sl21⟩) (c21 : PySem.W.codeIn K cd21 "replayed" = true) (k21 : PySem.W.keepIn K (.ref f21) = true)
    {f22 : Addr} {od22 an22 : Option Addr} {sl22 : Array (Option Value)} {oc22 kV22 dc22 pm22 cd22 ct22 : Value}
    (a22 : PySem.W.nsIn K mainGlobals "looked" = some (some (.ref f22)))
    (l22 : K.lookup f22 = some ⟨oc22, od22, .func (PySem.W.fnOf "looked" "looked" (defArgs s_looked) (defBody s_looked) (defScope s_looked) .none kV22 dc22 pm22 an22 cd22 ct22), sl22⟩) (c22 : PySem.W.codeIn K cd22 "looked" = true) (k22 : PySem.W.keepIn K (.ref f22) = true)
    {f23 : Addr} {od23 an23 : Option Addr} {sl23 : Array (Option Value)} {oc23 kV23 dc23 pm23 cd23 ct23 : Value}
    (a23 : PySem.W.nsIn K mainGlobals "_law_made" = some (some (.ref f23)))
    (l23 : K.lookup f23 = some ⟨oc23, od23, .func (PySem.W.fnOf "_law_made" "_law_made" (defArgs s__law_made) (defBody s__law_made) (defScope s__law_made) .none kV23 dc23 pm23 an23 cd23 ct23), sl23⟩) (c23 : PySem.W.codeIn K cd23 "_law_made" = true) (k23 : PySem.W.keepIn K (.ref f23) = true)
    {f24 : Addr} {od24 an24 : Option Addr} {sl24 : Array (Option Value)} {oc24 kV24 dc24 pm24 cd24 ct24 : Value}
    (a24 : PySem.W.nsIn K mainGlobals "law" = some (some (.ref f24)))
    (l24 : K.lookup f24 = some ⟨oc24, od24, .func (PySem.W.fnOf "law" "law" (defArgs s_law) (defBody s_law) (defScope s_law) .none kV24 dc24 pm24 an24 cd24 ct24), sl24⟩) (c24 : PySem.W.codeIn K cd24 "law" = true) (k24 : PySem.W.keepIn K (.ref f24) = true)
    (z_ValueError : PySem.W.nsIn K mainGlobals "ValueError" = some none)
    (z_all : PySem.W.nsIn K mainGlobals "all" = some none)
    (z_bool : PySem.W.nsIn K mainGlobals "bool" = some none)
    (z_enumerate : PySem.W.nsIn K mainGlobals "enumerate" = some none)
    (z_int : PySem.W.nsIn K mainGlobals "int" = some none)
    (z_isinstance : PySem.W.nsIn K mainGlobals "isinstance" = some none)
    (z_len : PySem.W.nsIn K mainGlobals "len" = some none)
    (z_list : PySem.W.nsIn K mainGlobals "list" = some none)
    (z_min : PySem.W.nsIn K mainGlobals "min" = some none)
    (z_range : PySem.W.nsIn K mainGlobals "range" = some none)
    (z_str : PySem.W.nsIn K mainGlobals "str" = some none)
    (z_tuple : PySem.W.nsIn K mainGlobals "tuple" = some none)
    {t_GREATEST_DOOR : Tok} (z_GREATEST_DOOR : PySem.W.nsIn K mainGlobals "GREATEST_DOOR" = some (some (.int 9999 t_GREATEST_DOOR)))
    {t_WIDEST_STEP : Tok} (z_WIDEST_STEP : PySem.W.nsIn K mainGlobals "WIDEST_STEP" = some (some (.int 199 t_WIDEST_STEP)))
    {t_GREATEST_MOST : Tok} (z_GREATEST_MOST : PySem.W.nsIn K mainGlobals "GREATEST_MOST" = some (some (.int 200 t_GREATEST_MOST)))
    {t_GREATEST_TIME : Tok} (z_GREATEST_TIME : PySem.W.nsIn K mainGlobals "GREATEST_TIME" = some (some (.int 1000000 t_GREATEST_TIME)))
    {a_LENDINGS : Addr} {i_LENDINGS : Array Value} {n_LENDINGS : Nat} {d_LENDINGS : Option Addr} {s_LENDINGS : Array (Option Value)} (z_LENDINGS : PySem.W.nsIn K mainGlobals "LENDINGS" = some (some (.ref a_LENDINGS))) (l_LENDINGS : K.lookup a_LENDINGS = some ⟨.type "tuple", d_LENDINGS, .seq i_LENDINGS n_LENDINGS, s_LENDINGS⟩) (y_LENDINGS : i_LENDINGS.size ≤ sizeLine) (v_LENDINGS : Vals ((["door", "place", "talk"] : List Str).map V.str) i_LENDINGS.toList)
    {a_SIEVES : Addr} {i_SIEVES : Array Value} {n_SIEVES : Nat} {d_SIEVES : Option Addr} {s_SIEVES : Array (Option Value)} (z_SIEVES : PySem.W.nsIn K mainGlobals "SIEVES" = some (some (.ref a_SIEVES))) (l_SIEVES : K.lookup a_SIEVES = some ⟨.type "tuple", d_SIEVES, .seq i_SIEVES n_SIEVES, s_SIEVES⟩) (y_SIEVES : i_SIEVES.size ≤ sizeLine) (v_SIEVES : Vals ((["all", "place", "talk"] : List Str).map V.str) i_SIEVES.toList)
    {a_PICKS : Addr} {i_PICKS : Array Value} {n_PICKS : Nat} {d_PICKS : Option Addr} {s_PICKS : Array (Option Value)} (z_PICKS : PySem.W.nsIn K mainGlobals "PICKS" = some (some (.ref a_PICKS))) (l_PICKS : K.lookup a_PICKS = some ⟨.type "tuple", d_PICKS, .seq i_PICKS n_PICKS, s_PICKS⟩) (y_PICKS : i_PICKS.size ≤ sizeLine) (v_PICKS : Vals ((["next", "keep"] : List Str).map V.str) i_PICKS.toList)
    : ∃ fd : FuncData, (∀ (s : Shared) (v : Value), BindsTo s fd ⟨[v], []⟩ [("script", v)]) ∧ ∀ base : Heap, K.In base → base.Ns mainGlobals mg → FnOk l.prog w K mg base CX0 11 fa fd ["script"] (upSp K sp_law) := by
  exact all_mk (C := ⟨C_Rules, C_Pool, C_Talks, C_Gate, C_Desk, C_GateError, C_NoForm, C_NoDeed, C_NoRule, C_NoPlan, C_NoRow⟩) X G hfa aC_Rules pg_Rules hd_Rules po_Rules sa_Rules mk_Rules kc_Rules na_Rules_many_told na_Rules_standing aC_Pool pg_Pool hd_Pool po_Pool sa_Pool mk_Pool kc_Pool na_Pool_low na_Pool_high na_Pool_mark na_Pool_taken na_Pool_until aC_Talks pg_Talks hd_Talks po_Talks sa_Talks mk_Talks kc_Talks na_Talks_form na_Talks_pool na_Talks_now na_Talks_by_inner na_Talks_by_number na_Talks_holders na_Talks_numbers aC_Gate pg_Gate hd_Gate po_Gate sa_Gate mk_Gate kc_Gate na_Gate_form na_Gate_table na_Gate_strangers na_Gate_done na_Gate_wish aC_Desk pg_Desk hd_Desk po_Desk sa_Desk mk_Desk kc_Desk na_Desk_gate aC_GateError aC_NoForm aC_NoDeed aC_NoRule aC_NoPlan aC_NoRow kf_x_NoForm kf_xm kf_xk kf_k1 kf_k2 kf_k3 a0 l0 c0 k0 a1 i1 l1 c1 k1 a2 i2 l2 c2 k2 a3 l3 c3 k3 a4 l4 c4 k4 a5 l5 c5 k5 a6 l6 c6 k6 a7 l7 c7 k7 a8 l8 c8 k8 a9 l9 c9 k9 a10 l10 c10 k10 a11 l11 c11 k11 a12 l12 c12 k12 a13 l13 c13 k13 a14 i14 l14 c14 k14 a15 l15 c15 k15 a16 l16 c16 k16 a17 l17 c17 k17 a18 l18 c18 k18 a19 i19 l19 c19 k19 a20 i20 l20 c20 k20 a21 l21 c21 k21 a22 l22 c22 k22 a23 l23 c23 k23 a24 l24 c24 k24 z_ValueError z_all z_bool z_enumerate z_int z_isinstance z_len z_list z_min z_range z_str z_tuple z_GREATEST_DOOR z_WIDEST_STEP z_GREATEST_MOST z_GREATEST_TIME z_LENDINGS l_LENDINGS y_LENDINGS v_LENDINGS z_SIEVES l_SIEVES y_SIEVES v_SIEVES z_PICKS l_PICKS y_PICKS v_PICKS
theorem walk {l : PySem.W.OpenLaw} {q : Program} {loose : List Str} {XP : (Str → Option Value) → Heap → Prop} {YP : World → Heap → Prop} {d : DefRec} {K : Params → PySem.W.Frag} (hn : l.most = some 63) (hdf : d.params.defaults = [])
    (hY : ∀ (w : World) (h : Heap), YP w h → (K w.params).In h)
    (F : ∀ (w : World) (mg : Str → Option Value) (fa : Addr) (h : Heap), (K w.params).In h → h.Ns mainGlobals mg → mg d.name = some (.ref fa) →
      ∃ fd : FuncData, (∀ (s : Shared) (u : Value), BindsTo s fd ⟨[u], []⟩ [("script", u)]) ∧ ∀ base : Heap, (K w.params).In base → base.Ns mainGlobals mg → FnOk l.prog w (K w.params) mg base CX0 11 fa fd ["script"] (upSp (K w.params) sp_law)) :
    PySem.W.WalkO q loose XP YP l.row.toRowW d [] (fun f vs => PySem.call f vs) :=
  L2.walk_of (n := 63) (k := 11) (x := "script") (CX := fun _ => CX0) (sp := fun w => upSp (K w.params) sp_law) hn (by decide) hdf ⟨rfl, by decide, by decide⟩ hY F (fun _ _ a ns hl hO hS => law_in hO hS (law_start ns hl)) fun _ _ _ _ _ z => z
end K03
open PySem PySem.W PyProof.Rows
theorem PySem.Challenge.cw_lentgate_k03_forms_of_any_form_holds : PySem.Challenge.rw_lentgate_k03_forms_of_any_form.Holds := by
  w_on; o_law
  refine PySem.W.holds_open (r := (PySem.Challenge.rw_lentgate_k03_forms_of_any_form).row) (q := H03.q) (loose := H03.loose) (Xt := H03.Xt) (XP := PySem.W.XL H03.q [])
    (Yf := (PySem.W.kHook H03.K H03.ks H03.ks_eq).obs) (Ya := (PySem.W.kHook H03.K H03.ks H03.ks_eq).val) (YP := (PySem.W.kHook H03.K H03.ks H03.ks_eq).says) (N := H03.NN)
    H03.left (PySem.W.Hook.of _) (PySem.W.Hook.keeps _) (fun s e => PySem.W.xl_of s (Bool.and_eq_true_iff.mp e).1) PySem.W.XL.keeps (by rfl) (by rfl) (by rfl)
    (fun s e => PySem.W.recFacts_of (Bool.and_eq_true_iff.mp e).2) (by rfl) (by assumption) (by decide +kernel) ⟨rfl, rfl, rfl, rfl, rfl, by decide +kernel⟩ ?hw ?hc
  (case hw => w_witness2)
  k_fill
  refine K03.walk (l := PySem.Challenge.rw_lentgate_k03_forms_of_any_form) rfl rfl (fun w h Y => PySem.W.kIn_of Y) ?F
  case F =>
    intro w mg fa h KX G hmg
    refine' K03.all_mk2 KX G hmg ?aC_Rules ?pg_Rules ?hd_Rules ?po_Rules ?sa_Rules ?mk_Rules ?kc_Rules ?na_Rules_many_told ?na_Rules_standing ?aC_Pool ?pg_Pool ?hd_Pool ?po_Pool ?sa_Pool ?mk_Pool ?kc_Pool ?na_Pool_low ?na_Pool_high ?na_Pool_mark ?na_Pool_taken ?na_Pool_until ?aC_Talks ?pg_Talks ?hd_Talks ?po_Talks ?sa_Talks ?mk_Talks ?kc_Talks ?na_Talks_form ?na_Talks_pool ?na_Talks_now ?na_Talks_by_inner ?na_Talks_by_number ?na_Talks_holders ?na_Talks_numbers ?aC_Gate ?pg_Gate ?hd_Gate ?po_Gate ?sa_Gate ?mk_Gate ?kc_Gate ?na_Gate_form ?na_Gate_table ?na_Gate_strangers ?na_Gate_done ?na_Gate_wish ?aC_Desk ?pg_Desk ?hd_Desk ?po_Desk ?sa_Desk ?mk_Desk ?kc_Desk ?na_Desk_gate ?aC_GateError ?aC_NoForm ?aC_NoDeed ?aC_NoRule ?aC_NoPlan ?aC_NoRow ?kf_x_NoForm ?kf_xm ?kf_xk ?kf_k1 ?kf_k2 ?kf_k3 ?a0 ?l0 ?c0 ?k0 ?a1 ?i1 ?l1 ?c1 ?k1 ?a2 ?i2 ?l2 ?c2 ?k2 ?a3 ?l3 ?c3 ?k3 ?a4 ?l4 ?c4 ?k4 ?a5 ?l5 ?c5 ?k5 ?a6 ?l6 ?c6 ?k6 ?a7 ?l7 ?c7 ?k7 ?a8 ?l8 ?c8 ?k8 ?a9 ?l9 ?c9 ?k9 ?a10 ?l10 ?c10 ?k10 ?a11 ?l11 ?c11 ?k11 ?a12 ?l12 ?c12 ?k12 ?a13 ?l13 ?c13 ?k13 ?a14 ?i14 ?l14 ?c14 ?k14 ?a15 ?l15 ?c15 ?k15 ?a16 ?l16 ?c16 ?k16 ?a17 ?l17 ?c17 ?k17 ?a18 ?l18 ?c18 ?k18 ?a19 ?i19 ?l19 ?c19 ?k19 ?a20 ?i20 ?l20 ?c20 ?k20 ?a21 ?l21 ?c21 ?k21 ?a22 ?l22 ?c22 ?k22 ?a23 ?l23 ?c23 ?k23 ?a24 ?l24 ?c24 ?k24 ?z_ValueError ?z_all ?z_bool ?z_enumerate ?z_int ?z_isinstance ?z_len ?z_list ?z_min ?z_range ?z_str ?z_tuple ?z_GREATEST_DOOR ?z_WIDEST_STEP ?z_GREATEST_MOST ?z_GREATEST_TIME ?z_LENDINGS ?l_LENDINGS ?y_LENDINGS ?v_LENDINGS ?z_SIEVES ?l_SIEVES ?y_SIEVES ?v_SIEVES ?z_PICKS ?l_PICKS ?y_PICKS ?v_PICKS
    (case aC_Rules => k_is)
    (case pg_Rules => k_is)
    (case hd_Rules => k_is)
    (case po_Rules => k_is)
    (case sa_Rules => k_is)
    (case mk_Rules => k_is)
    (case kc_Rules => k_is)
    (case na_Rules_many_told => k_is)
    (case na_Rules_standing => k_is)
    (case aC_Pool => k_is)
    (case pg_Pool => k_is)
    (case hd_Pool => k_is)
    (case po_Pool => k_is)
    (case sa_Pool => k_is)
    (case mk_Pool => k_is)
    (case kc_Pool => k_is)
    (case na_Pool_low => k_is)
    (case na_Pool_high => k_is)
    (case na_Pool_mark => k_is)
    (case na_Pool_taken => k_is)
    (case na_Pool_until => k_is)
    (case aC_Talks => k_is)
    (case pg_Talks => k_is)
    (case hd_Talks => k_is)
    (case po_Talks => k_is)
    (case sa_Talks => k_is)
    (case mk_Talks => k_is)
    (case kc_Talks => k_is)
    (case na_Talks_form => k_is)
    (case na_Talks_pool => k_is)
    (case na_Talks_now => k_is)
    (case na_Talks_by_inner => k_is)
    (case na_Talks_by_number => k_is)
    (case na_Talks_holders => k_is)
    (case na_Talks_numbers => k_is)
    (case aC_Gate => k_is)
    (case pg_Gate => k_is)
    (case hd_Gate => k_is)
    (case po_Gate => k_is)
    (case sa_Gate => k_is)
    (case mk_Gate => k_is)
    (case kc_Gate => k_is)
    (case na_Gate_form => k_is)
    (case na_Gate_table => k_is)
    (case na_Gate_strangers => k_is)
    (case na_Gate_done => k_is)
    (case na_Gate_wish => k_is)
    (case aC_Desk => k_is)
    (case pg_Desk => k_is)
    (case hd_Desk => k_is)
    (case po_Desk => k_is)
    (case sa_Desk => k_is)
    (case mk_Desk => k_is)
    (case kc_Desk => k_is)
    (case na_Desk_gate => k_is)
    (case aC_GateError => k_is)
    (case aC_NoForm => k_is)
    (case aC_NoDeed => k_is)
    (case aC_NoRule => k_is)
    (case aC_NoPlan => k_is)
    (case aC_NoRow => k_is)
    (case kf_x_NoForm => kernel_rfl)
    (case kf_xm => kernel_rfl)
    (case kf_xk => kernel_rfl)
    (case kf_k1 => kernel_rfl)
    (case kf_k2 => kernel_rfl)
    (case kf_k3 => kernel_rfl)
    (case a0 => k_is)
    (case l0 => k_is)
    (case c0 => k_is)
    (case k0 => k_is)
    (case a1 => k_is)
    (case i1 => k_is)
    (case l1 => k_is)
    (case c1 => k_is)
    (case k1 => k_is)
    (case a2 => k_is)
    (case i2 => k_is)
    (case l2 => k_is)
    (case c2 => k_is)
    (case k2 => k_is)
    (case a3 => k_is)
    (case l3 => k_is)
    (case c3 => k_is)
    (case k3 => k_is)
    (case a4 => k_is)
    (case l4 => k_is)
    (case c4 => k_is)
    (case k4 => k_is)
    (case a5 => k_is)
    (case l5 => k_is)
    (case c5 => k_is)
    (case k5 => k_is)
    (case a6 => k_is)
    (case l6 => k_is)
    (case c6 => k_is)
    (case k6 => k_is)
    (case a7 => k_is)
    (case l7 => k_is)
    (case c7 => k_is)
    (case k7 => k_is)
    (case a8 => k_is)
    (case l8 => k_is)
    (case c8 => k_is)
    (case k8 => k_is)
    (case a9 => k_is)
    (case l9 => k_is)
    (case c9 => k_is)
    (case k9 => k_is)
    (case a10 => k_is)
    (case l10 => k_is)
    (case c10 => k_is)
    (case k10 => k_is)
    (case a11 => k_is)
    (case l11 => k_is)
    (case c11 => k_is)
    (case k11 => k_is)
    (case a12 => k_is)
    (case l12 => k_is)
    (case c12 => k_is)
    (case k12 => k_is)
    (case a13 => k_is)
    (case l13 => k_is)
    (case c13 => k_is)
    (case k13 => k_is)
    (case a14 => k_is)
    (case i14 => k_is)
    (case l14 => k_is)
    (case c14 => k_is)
    (case k14 => k_is)
    (case a15 => k_is)
    (case l15 => k_is)
    (case c15 => k_is)
    (case k15 => k_is)
    (case a16 => k_is)
    (case l16 => k_is)
    (case c16 => k_is)
    (case k16 => k_is)
    (case a17 => k_is)
    (case l17 => k_is)
    (case c17 => k_is)
    (case k17 => k_is)
    (case a18 => k_is)
    (case l18 => k_is)
    (case c18 => k_is)
    (case k18 => k_is)
    (case a19 => k_is)
    (case i19 => k_is)
    (case l19 => k_is)
    (case c19 => k_is)
    (case k19 => k_is)
    (case a20 => k_is)
    (case i20 => k_is)
    (case l20 => k_is)
    (case c20 => k_is)
    (case k20 => k_is)
    (case a21 => k_is)
    (case l21 => k_is)
    (case c21 => k_is)
    (case k21 => k_is)
    (case a22 => k_is)
    (case l22 => k_is)
    (case c22 => k_is)
    (case k22 => k_is)
    (case a23 => k_is)
    (case l23 => k_is)
    (case c23 => k_is)
    (case k23 => k_is)
    (case a24 => k_is)
    (case l24 => k_is)
    (case c24 => k_is)
    (case k24 => k_is)
    (case z_ValueError => k_is)
    (case z_all => k_is)
    (case z_bool => k_is)
    (case z_enumerate => k_is)
    (case z_int => k_is)
    (case z_isinstance => k_is)
    (case z_len => k_is)
    (case z_list => k_is)
    (case z_min => k_is)
    (case z_range => k_is)
    (case z_str => k_is)
    (case z_tuple => k_is)
    (case z_GREATEST_DOOR => k_is)
    (case z_WIDEST_STEP => k_is)
    (case z_GREATEST_MOST => k_is)
    (case z_GREATEST_TIME => k_is)
    (case z_LENDINGS => k_is)
    (case l_LENDINGS => k_is)
    (case y_LENDINGS => exact (by decide))
    (case v_LENDINGS => exact .cons ⟨_, rfl⟩ (.cons ⟨_, rfl⟩ (.cons ⟨_, rfl⟩ (.nil))))
    (case z_SIEVES => k_is)
    (case l_SIEVES => k_is)
    (case y_SIEVES => exact (by decide))
    (case v_SIEVES => exact .cons ⟨_, rfl⟩ (.cons ⟨_, rfl⟩ (.cons ⟨_, rfl⟩ (.nil))))
    (case z_PICKS => k_is)
    (case l_PICKS => k_is)
    (case y_PICKS => exact (by decide))
    (case v_PICKS => exact .cons ⟨_, rfl⟩ (.cons ⟨_, rfl⟩ (.nil)))
