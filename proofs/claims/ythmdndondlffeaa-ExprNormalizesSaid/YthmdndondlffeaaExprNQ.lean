/- Facts: CompactFunc's loops, in terms of lists. -/
import Derived.Test.YthmdndondlffeaaExprNP
import Derived.Test.YthmdndondlffeaaExprNI
namespace Go.Proofs.Ythmdndondlffeaa
open Go Go.RowKit Go.Sort
set_option linter.unusedVariables false
theorem take_two {l : List T} {m : Nat} (hm : 0 < m) (h : m < l.length) : l.take (m + 1) = l.take (m - 1) ++ [l[m - 1], l[m]] ∧ l.take m = l.take (m - 1) ++ [l[m - 1]] := by
  obtain ⟨n, rfl⟩ : ∃ n, m = n + 1 := ⟨m - 1, by omega⟩
  simp only [Nat.add_sub_cancel]
  have h1 : l.take (n + 1) = l.take n ++ [l[n]] := take_snoc (by omega)
  have h2 : l.take (n + 1 + 1) = l.take (n + 1) ++ [l[n + 1]] := take_snoc h
  exact ⟨by rw [h2, h1, List.append_assoc]; rfl, h1⟩
theorem runs_take_eq {l : List T} {m : Nat} (hm : 0 < m) (h : m < l.length) (e : l[m] = l[m - 1]) : runsT (l.take (m + 1)) = runsT (l.take m) := by
  obtain ⟨h1, h2⟩ := take_two hm h
  rw [h1, h2, runs_snoc, if_pos (by rw [e]; exact cmpT_self _)]
theorem runs_take_ne {l : List T} {m : Nat} (hm : 0 < m) (h : m < l.length) (e : l[m] ≠ l[m - 1]) : runsT (l.take (m + 1)) = runsT (l.take m) ++ [l[m]] := by
  obtain ⟨h1, h2⟩ := take_two hm h
  rw [h1, h2, runs_snoc, if_neg]
  intro hc
  exact e (cmpT_zero _ _ hc).symm
/-- m places looked at; what is kept of them, k, lies in front; from place k on the row is as it was -/
structure CompI {W0 : World} (es : List (ExIn W0)) (m k : Nat) (L : List (ExIn W0)) : Prop where
  size : L.length = es.length
  lt : k < m
  le : m ≤ es.length
  low : (L.take k).map (·.1.t) = runsT ((es.map (·.1.t)).take m)
  high : ∀ j, k ≤ j → L[j]? = es[j]?
theorem CompI.start {W0 : World} {es : List (ExIn W0)} {k : Nat} (hk : 0 < k) (hlt : k < es.length) (hall : ∀ i (h : i + 1 < es.length), i + 1 < k → es[i].1.t ≠ es[i + 1].1.t) (e : es[k].1.t = es[k - 1].1.t) : CompI es (k + 1) k es := by
  refine ⟨rfl, Nat.lt_succ_self k, hlt, ?_, fun _ _ => rfl⟩
  rw [runs_take_eq hk (by simpa using hlt) (by simpa using e), List.map_take, runs_all]
  intro i hi hc
  have hi1 : i + 1 < k := by simp at hi; omega
  have h1 := cmpT_zero _ _ hc
  simp at h1
  exact hall i (by omega) hi1 h1
theorem CompI.skip {W0 : World} {es L : List (ExIn W0)} {m k : Nat} (h : CompI es m k L) (hm : m < es.length) (e : es[m].1.t = es[m - 1].1.t) : CompI es (m + 1) k L :=
  ⟨h.size, Nat.lt_succ_of_lt h.lt, hm, by rw [runs_take_eq (by have := h.lt; omega) (by simpa using hm) (by simpa using e)]; exact h.low, h.high⟩
theorem CompI.put {W0 : World} {es L : List (ExIn W0)} {m k : Nat} (h : CompI es m k L) (hm : m < es.length) (e : es[m].1.t ≠ es[m - 1].1.t) : CompI es (m + 1) (k + 1) (L.set k es[m]) := by
  have h1 := h.lt
  have h2 := h.size
  refine ⟨by simpa using h.size, by omega, hm, ?_, fun j hj => ?_⟩
  · rw [runs_take_ne (by omega) (by simpa using hm) (by simpa using e), ← h.low]
    have hk : k < (L.set k es[m]).length := by simp; omega
    rw [List.take_succ_eq_append_getElem hk, List.map_append]
    congr 1
    · rw [List.take_set_of_le (Nat.le_refl k)]
    · simp
  · rw [List.getElem?_set_ne (by omega)]; exact h.high j (by omega)
theorem runs_none {W0 : World} {es : List (ExIn W0)} (hall : ∀ i (h : i + 1 < es.length), es[i].1.t ≠ es[i + 1].1.t) : runsT (es.map (·.1.t)) = es.map (·.1.t) := by
  refine runs_all _ fun i hi hc => ?_
  have h1 := cmpT_zero _ _ hc
  simp at h1
  exact hall i (by simpa using hi) h1
end Go.Proofs.Ythmdndondlffeaa
