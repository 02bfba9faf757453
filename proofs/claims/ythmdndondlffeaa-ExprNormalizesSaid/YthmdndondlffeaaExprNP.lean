/- Facts: a row of expressions that is written in place. -/
import Derived.Test.YthmdndondlffeaaExprNF
namespace Go.Proofs.Ythmdndondlffeaa
open Go Go.RowKit Go.Sort
set_option linter.unusedVariables false
/-- the cells of block g, as many as cap expressions, begin with es; below W0 nothing has turned -/
structure BlkX (W0 w : World) (g cap : Nat) (es : List (ExIn W0)) : Prop where
  hb : W0.heap.size ≤ g
  shape : ∃ cur, w.heap[g]? = some (.cells cur 24 (0, 0)) ∧ cur.size = cap * 3
  cells : ∀ j u, (cellsE es)[j]? = some u → w.cell? ⟨g, j, none⟩ = some u
  le : es.length ≤ cap
  cm : cap ≤ maxLen
  bel : Below W0.heap.size W0 w
theorem BlkX.lt {W0 w : World} {g cap : Nat} {es : List (ExIn W0)} (h : BlkX W0 w g cap es) : g < w.heap.size := by
  obtain ⟨cur, h1, _⟩ := h.shape
  exact (Array.getElem?_eq_some_iff.1 h1).1
theorem BlkX.is {W0 w : World} {g cap : Nat} {es : List (ExIn W0)} (h : BlkX W0 w g cap es) {o : Nat} (ho : o < cap * 3) : (w.cell? ⟨g, o, none⟩).isSome = true := by
  obtain ⟨cur, h1, h2⟩ := h.shape
  simp only [World.cell?, h1]
  simp [h2, ho]
theorem BlkX.fr {W0 w : World} {g cap : Nat} {es : List (ExIn W0)} (h : BlkX W0 w g cap es) (o : Nat) : w.frozen? ⟨g, o, none⟩ = false := by
  obtain ⟨cur, h1, h2⟩ := h.shape
  simp [World.frozen?, h1]
theorem BlkX.get {W0 w : World} {g cap : Nat} {es : List (ExIn W0)} (h : BlkX W0 w g cap es) {i : Nat} (hi : i < es.length) :
    w.cell? ⟨g, i * 3, none⟩ = some (.int .i64 es[i].1.op) ∧ w.cell? ⟨g, i * 3 + 1, none⟩ = some (.int .i64 es[i].1.l) ∧ w.cell? ⟨g, i * 3 + 2, none⟩ = some (.slice es[i].1.a es[i].1.ks.length es[i].1.c) := by
  have e : es.toArray[i]! = es[i] := by rw [getElem!_pos _ _ (by simpa using hi)]; simp
  have h0 := cellsE_at es i 0 (by omega) hi
  have h1 := cellsE_at es i 1 (by omega) hi
  have h2 := cellsE_at es i 2 (by omega) hi
  rw [e] at h0 h1 h2
  exact ⟨h.cells _ _ h0, h.cells _ _ h1, h.cells _ _ h2⟩
theorem BlkX.keep {W0 w w' : World} {g cap B : Nat} {es : List (ExIn W0)} (h : BlkX W0 w g cap es) (hk : Below B w w') (hB : g < B) : BlkX W0 w' g cap es := by
  obtain ⟨cur, h1, h2⟩ := h.shape
  refine ⟨h.hb, ⟨cur, (hk.block g hB).trans h1, h2⟩, fun j u hu => ?_, h.le, h.cm, h.bel.trans (hk.mono (by have := h.hb; omega))⟩
  rw [hk.cell (p := ⟨g, j, none⟩) hB]; exact h.cells j u hu
theorem BlkX.alloc {W0 w : World} {g cap : Nat} {es : List (ExIn W0)} (h : BlkX W0 w g cap es) (o : Obj) : BlkX W0 (w.alloc o) g cap es :=
  h.keep ((Below.refl w.heap.size w).alloc (Nat.le_refl _) o) h.lt
theorem BlkX.drew {W0 w : World} {g cap : Nat} {es : List (ExIn W0)} (h : BlkX W0 w g cap es) : BlkX W0 w.drew g cap es :=
  h.keep (Below.refl w.heap.size w).drew h.lt
theorem BlkX.pre {W0 w : World} {g cap : Nat} {es : List (ExIn W0)} (h : BlkX W0 w g cap es) (k : Nat) : BlkX W0 w g cap (es.take k) := by
  refine ⟨h.hb, h.shape, fun j u hu => h.cells j u ?_, by have := h.le; simp; omega, h.cm, h.bel⟩
  have e : cellsE es = cellsE (es.take k) ++ cellsE (es.drop k) := by rw [← cellsE_append, List.take_append_drop]
  have hlt := (List.getElem?_eq_some_iff.1 hu).1
  rw [e, List.getElem?_append_left hlt]; exact hu
theorem BlkX.of_own {W0 w : World} {g n cap : Nat} {es : List (ExIn W0)} (hB : Below W0.heap.size W0 w) (h : w.ownsRow W0.heap.size 24 3 (.slice (some ⟨g, 0, none⟩) n cap) es.length (cellsE es)) : n = es.length ∧ BlkX W0 w g cap es := by
  have hc := h.cells (g := g) rfl
  rcases h.2 with ⟨h1, _⟩ | ⟨g', cap', cur, he, hg, hb, h1, h2, h3, h4⟩
  · cases h1
  · injection he with e1 e2 e3
    injection e1 with e1
    injection e1 with e1
    subst e1 e2 e3
    refine ⟨rfl, hg, ⟨cur, hb, h3⟩, fun j u hu => ?_, h1, h2, hB⟩
    have := hc j u hu
    rw [Addr.add_lit, Nat.zero_add] at this; exact this
theorem BlkX.own {W0 w : World} {g cap : Nat} {es : List (ExIn W0)} (h : BlkX W0 w g cap es) : w.ownsRow W0.heap.size 24 3 (.slice (some ⟨g, 0, none⟩) es.length cap) es.length (cellsE es) := by
  obtain ⟨cur, h1, h2⟩ := h.shape
  refine ⟨cellsE_len es, .inr ⟨g, cap, cur, rfl, h.hb, h1, h.le, h.cm, h2, ?_⟩⟩
  apply List.ext_getElem?
  intro j
  by_cases hj : j < es.length * 3
  · rw [List.getElem?_take_of_lt hj]
    obtain ⟨u, hu⟩ : ∃ u, (cellsE es)[j]? = some u := ⟨_, List.getElem?_eq_getElem (by rw [cellsE_len]; exact hj)⟩
    have h3 := h.cells j u hu
    simp only [World.cell?, h1] at h3
    rw [hu, Array.getElem?_toList]
    simpa using h3
  · rw [List.getElem?_take_eq_none (by omega), List.getElem?_eq_none (by rw [cellsE_len]; omega)]
/-- cells set beyond the first ones -/
theorem shape_setCells {e : TypeId} {g : Nat} : ∀ (vs : List Value) (o : Nat) (w : World) (cur : Array Value), w.heap[g]? = some (.cells cur e (0, 0)) → ∃ cur', (w.setCells g o vs).heap[g]? = some (.cells cur' e (0, 0)) ∧ cur'.size = cur.size
  | [], o, w, cur, h => ⟨cur, h, rfl⟩
  | v :: r, o, w, cur, h => by
    obtain ⟨cur', h1, h2⟩ := shape_setCells r (o + 1) (w.setCell ⟨g, o, none⟩ v) _ (heap_setCell_same w g o cur e v h)
    exact ⟨cur', h1, by rw [h2]; simp⟩
theorem below_setCells {B g : Nat} : ∀ (vs : List Value) (o : Nat) (a w : World), Below B a w → B ≤ g → Below B a (w.setCells g o vs)
  | [], o, a, w, h, _ => h
  | v :: r, o, a, w, h, hB => below_setCells r (o + 1) a _ (h.setCell (p := ⟨g, o, none⟩) hB v) hB
theorem BlkX.cut {W0 w : World} {g cap : Nat} {es : List (ExIn W0)} (h : BlkX W0 w g cap es) (o : Nat) (ho : es.length * 3 ≤ o) (vs : List Value) : BlkX W0 (w.setCells g o vs) g cap es := by
  obtain ⟨cur, h1, h2⟩ := h.shape
  obtain ⟨cur', h3, h4⟩ := shape_setCells vs o w cur h1
  refine ⟨h.hb, ⟨cur', h3, by omega⟩, fun j u hu => ?_, h.le, h.cm, below_setCells vs o W0 w h.bel h.hb⟩
  have hlt := (List.getElem?_eq_some_iff.1 hu).1
  rw [cellsE_len] at hlt
  rw [World.cell?_setCells_out g vs o w ⟨g, j, none⟩ (fun _ _ => .inl (by simp; omega))]
  exact h.cells j u hu
theorem cellsE_get {W0 : World} {es : List (ExIn W0)} {j : Nat} {u : Value} (h : (cellsE es)[j]? = some u) : ∃ (hi : j / 3 < es.length), u = (encX (es[j / 3]'hi))[j % 3]! := by
  have hlt := (List.getElem?_eq_some_iff.1 h).1
  rw [cellsE_len] at hlt
  have hi : j / 3 < es.length := by omega
  refine ⟨hi, ?_⟩
  have h1 := cellsE_at es (j / 3) (j % 3) (Nat.mod_lt _ (by omega)) hi
  rw [show j / 3 * 3 + j % 3 = j by omega, h] at h1
  injection h1 with h1
  rw [h1, getElem!_pos es.toArray _ (by simpa using hi)]
  simp
/-- an element set -/
theorem BlkX.set {W0 w : World} {g cap : Nat} {es : List (ExIn W0)} (h : BlkX W0 w g cap es) {j : Nat} (hj : j < es.length) (x : ExIn W0) : BlkX W0 (w.setCells g (j * 3) (encX x)) g cap (es.set j x) := by
  obtain ⟨cur, h1, h2⟩ := h.shape
  obtain ⟨cur', h3, h4⟩ := shape_setCells (encX x) (j * 3) w cur h1
  have hle := h.le
  refine ⟨h.hb, ⟨cur', h3, by omega⟩, fun i u hu => ?_, by simpa using h.le, h.cm, below_setCells _ _ W0 w h.bel h.hb⟩
  obtain ⟨hi, hu2⟩ := cellsE_get hu
  have hi' : i / 3 < es.length := by simpa using hi
  by_cases e : i / 3 = j
  · have hr : i % 3 < (encX x).length := by rw [encX_len]; omega
    have h5 := World.cell?_setCells_in g (encX x) (j * 3) w (fun q hq => h.is (by rw [encX_len] at hq; omega)) (i % 3) hr
    rw [show j * 3 + i % 3 = i by omega] at h5
    rw [h5, hu2]
    subst e
    rw [List.getElem_set_self]
    exact congrArg some (getElem!_pos (encX x) (i % 3) hr).symm
  · rw [World.cell?_setCells_out g _ _ w ⟨g, i, none⟩ (fun _ _ => by rw [encX_len]; simp; omega)]
    rw [List.getElem_set_ne (by omega)] at hu2
    have h6 := cellsE_at es (i / 3) (i % 3) (Nat.mod_lt _ (by omega)) hi'
    rw [show i / 3 * 3 + i % 3 = i by omega] at h6
    rw [hu2]
    refine h.cells i _ ?_
    rw [h6, getElem!_pos es.toArray _ (by simpa using hi')]
    simp
/-- a row of such expressions is a tree's list of kids -/
theorem BlkX.inx {W0 w : World} {g cap : Nat} {es : List (ExIn W0)} (h : BlkX W0 w g cap es) {op l : Int} (ho : B64 op) (hl : B64 l) : InX w op l (es.map (·.1.t)) (some ⟨g, 0, none⟩) := by
  have hle := h.le
  have hcm := h.cm
  refine ⟨.row g 0 _ (fun i => (es.toArray[i]!).1.a) (fun i => (es.toArray[i]!).1.c) h.lt (fun i k hk => ?_) (fun i k hk => ?_) (fun i k hk => ?_), ho, hl, by simp; unfold maxLen at hcm; omega⟩
  all_goals
    have hi : i < es.length := by have := (List.getElem?_eq_some_iff.1 hk).1; simpa using this
    have e : es.toArray[i]! = es[i] := by rw [getElem!_pos _ _ (by simpa using hi)]; simp
    obtain rfl : es[i].1.t = k := by simpa [hi] using hk
    try rw [e]
  · obtain ⟨c0, c1, c2⟩ := h.get hi
    simp only [Nat.zero_add]
    exact ⟨c0, c1, c2⟩
  · exact ⟨es[i].2.2.1, es[i].2.2.2.1, es[i].2.2.2.2⟩
  · exact (es[i].2.keep h.bel).1
end Go.Proofs.Ythmdndondlffeaa
