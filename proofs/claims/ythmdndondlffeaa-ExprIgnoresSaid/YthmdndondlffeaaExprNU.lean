/- Contract: normalList. -/
import Derived.Test.YthmdndondlffeaaExprNT
import Derived.Test.YthmdndondlffeaaExprNW
namespace Go.Proofs.Ythmdndondlffeaa
open Go Go.RowKit Go.Sort
set_option linter.unusedVariables false
/-- a result's cell is written: the tree does not touch it -/
theorem inX_ret {w : World} {b0 : Nat} {x : Ex} (y0 : w.cell? ⟨b0, 0, none⟩ = some (.int .i64 0)) (y1 : w.cell? ⟨b0, 1, none⟩ = some (.int .i64 0)) (y2 : w.cell? ⟨b0, 2, none⟩ = some (.slice none 0 0)) (h : InX w x.op x.l x.ks x.a) (hw : wfT 6 x.t = true) (u v z : Value) :
    InX (((w.setCell ⟨b0, 0, none⟩ u).setCell ⟨b0, 1, none⟩ v).setCell ⟨b0, 2, none⟩ z) x.op x.l x.ks x.a :=
  inX_zero (g := b0) (o := 0) (vs := [u, v, z]) rfl y0 y1 y2 h hw
theorem below_ret {B b0 : Nat} {a w : World} (h : Below B a w) (hb : B ≤ b0) (u v z : Value) : Below B a (((w.setCell ⟨b0, 0, none⟩ u).setCell ⟨b0, 1, none⟩ v).setCell ⟨b0, 2, none⟩ z) :=
  ((h.setCell (p := ⟨b0, 0, none⟩) hb u).setCell (p := ⟨b0, 1, none⟩) hb v).setCell (p := ⟨b0, 2, none⟩) hb z
/-- a box of zeros that may be written -/
def Zero3 (w : World) (b0 : Nat) : Prop := Box w b0 (.int .i64 0) (.int .i64 0) (.slice none 0 0) ∧ w.frozen? ⟨b0, 0, none⟩ = false ∧ w.frozen? ⟨b0, 1, none⟩ = false ∧ w.frozen? ⟨b0, 2, none⟩ = false
theorem Zero3.new (w : World) : Zero3 (w.alloc (.cells #[.int .i64 0, .int .i64 0, .slice none 0 0] 24)) w.heap.size := by
  obtain ⟨f0, f1, f2⟩ := box_frozen (Below.refl (w.heap.size + 1) (w.alloc (.cells #[.int .i64 0, .int .i64 0, .slice none 0 0] 24)))
  exact ⟨Box.new _ _ _ _, f0, f1, f2⟩
theorem Zero3.keep {W W' : World} {b : Nat} (h : Zero3 W b) (hb : Below W.heap.size W W') : Zero3 W' b := by
  have hlt : b < W.heap.size := cell_lt (s := none) h.1.1
  exact ⟨h.1.keep hb, by rw [hb.frozen (p := ⟨b, 0, none⟩) hlt]; exact h.2.1, by rw [hb.frozen (p := ⟨b, 1, none⟩) hlt]; exact h.2.2.1, by rw [hb.frozen (p := ⟨b, 2, none⟩) hlt]; exact h.2.2.2⟩
/-- the loop: i looked at, j kept in front; from place i on the row is as it was -/
structure KeepI {W0 : World} (ab ne : T) (es : List (ExIn W0)) (i j : Nat) (L : List (ExIn W0)) : Prop where
  size : L.length = es.length
  le : j ≤ i
  low : (L.take j).map (·.1.t) = ((es.map (·.1.t)).take i).filter fun k => !isT k ne
  high : ∀ q, i ≤ q → L[q]? = es[q]?
  no : ∀ q (h : q < es.length), q < i → isT es[q].1.t ab = false
theorem KeepI.start {W0 : World} (ab ne : T) (es : List (ExIn W0)) : KeepI ab ne es 0 0 es := ⟨rfl, Nat.le_refl _, by simp, fun _ _ => rfl, fun q h hq => by omega⟩
theorem KeepI.skip {W0 : World} {ab ne : T} {es L : List (ExIn W0)} {i j : Nat} (h : KeepI ab ne es i j L) (hi : i < es.length) (h1 : isT es[i].1.t ab = false) (h2 : isT es[i].1.t ne = true) : KeepI ab ne es (i + 1) j L :=
  ⟨h.size, Nat.le_succ_of_le h.le, by rw [take_snoc (by simpa using hi), List.filter_append, h.low]; simp [h2], fun q hq => h.high q (by omega), fun q hq hlt => by
    by_cases e : q = i
    · subst e; exact h1
    · exact h.no q hq (by omega)⟩
theorem KeepI.put {W0 : World} {ab ne : T} {es L : List (ExIn W0)} {i j : Nat} (h : KeepI ab ne es i j L) (hi : i < es.length) (h1 : isT es[i].1.t ab = false) (h2 : isT es[i].1.t ne = false) : KeepI ab ne es (i + 1) (j + 1) (L.set j es[i]) := by
  have hj := h.le
  have hs := h.size
  refine ⟨by simpa using h.size, by omega, ?_, fun q hq => by rw [List.getElem?_set_ne (by omega)]; exact h.high q (by omega), fun q hq hlt => by
    by_cases e : q = i
    · subst e; exact h1
    · exact h.no q hq (by omega)⟩
  have hk : j < (L.set j es[i]).length := by simp; omega
  have e : (es.map (·.1.t)).take (i + 1) = _ := take_snoc (by simpa using hi)
  rw [e, List.filter_append, ← h.low, List.take_succ_eq_append_getElem hk, List.map_append, List.take_set_of_le (Nat.le_refl j)]
  simp [h2]
theorem KeepI.done {W0 : World} {op : Int} {ab ne : T} {ks : List T} {es L : List (ExIn W0)} {j : Nat} (h : KeepI ab ne es es.length j L) (he : es.map (·.1.t) = flatT op ks) :
    (L.take j).map (·.1.t) = partsT op ne ks ∧ listT op ab ne ks = outT op ne (qsT op ne ks) := by
  refine ⟨by rw [h.low, List.take_of_length_le (by simp), he]; rfl, ?_⟩
  have : ((flatT op ks).any fun k => isT k ab) = false := by
    rw [← he, List.any_eq_false]
    intro x hx
    obtain ⟨y, hy, rfl⟩ := List.mem_map.1 hx
    obtain ⟨q, hq, rfl⟩ := List.mem_iff_getElem.1 hy
    rw [h.no q hq hq]; decide
  unfold listT qsT
  rw [if_neg (by rw [this]; decide)]
theorem list_ab {W0 : World} {op : Int} {ab ne : T} {ks : List T} {es : List (ExIn W0)} {i : Nat} (hi : i < es.length) (he : es.map (·.1.t) = flatT op ks) (h : isT es[i].1.t ab = true) : listT op ab ne ks = ab := by
  unfold listT
  rw [if_pos]
  rw [← he, List.any_eq_true]
  exact ⟨es[i].1.t, List.mem_map.2 ⟨es[i], List.getElem_mem hi, rfl⟩, h⟩
theorem sorted_map {W0 : World} {es : List (ExIn W0)} (h : SortedX es) : (es.map (·.1.t)).Pairwise fun x y => cmpT x y ≤ 0 := List.pairwise_map.2 h
end Go.Proofs.Ythmdndondlffeaa
