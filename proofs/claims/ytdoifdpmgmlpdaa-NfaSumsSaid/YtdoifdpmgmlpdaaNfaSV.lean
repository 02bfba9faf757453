/- Facts: the disjoint union of two valid automata is valid. -/
import Derived.Test.YtdoifdpmgmlpdaaNfaQ
import Derived.Test.YtdoifdpmgmlpdaaNfaT
namespace Go.Proofs.Ytdoifdpmgmlpdaa
set_option linter.unusedVariables false
theorem lt_trans_ltE {a b c : Ed} (h : ltE a b = true) (h2 : ltE b c = true) : ltE a c = true := by
  unfold ltE at *; rw [decide_eq_true_iff] at *; omega
theorem asc_of {es : List Ed} (h : ∀ i, 0 < i → i < es.length → ltE (es.getD (i - 1) noE) (es.getD i noE) = true) : Asc es := by
  refine List.pairwise_iff_getElem.2 fun i j hi hj hij => ?_
  obtain ⟨d, rfl⟩ : ∃ d, j = i + 1 + d := ⟨j - (i + 1), by omega⟩
  induction d with
  | zero =>
    have := h (i + 1) (by omega) hj
    rw [getD_of (List.getElem?_eq_getElem hj), show i + 1 - 1 = i by omega, getD_of (List.getElem?_eq_getElem hi)] at this
    exact this
  | succ d ih =>
    have h1 := ih (by omega) (by omega)
    have := h (i + 1 + (d + 1)) (by omega) hj
    rw [getD_of (List.getElem?_eq_getElem hj), show i + 1 + (d + 1) - 1 = i + 1 + d by omega, getD_of (List.getElem?_eq_getElem (show i + 1 + d < es.length by omega))] at this
    exact lt_trans_ltE h1 this
theorem valN_asc {L S : Int} {st fi : Nat} {es : List Ed} (hv : valN L S st fi es = true) : Asc es := by
  refine asc_of fun i h0 hi => ?_
  have := (valN_iff.1 hv).2.2 i hi
  rw [okAt, Bool.and_eq_true, Bool.or_eq_true, decide_eq_true_iff] at this
  rcases this.2 with h | h
  · omega
  · exact h
theorem or_lt {x y n m : Nat} (hx : x < 2 ^ n) (hy : y < 2 ^ m) : x ||| y * 2 ^ n < 2 ^ (n + m) := by
  refine Nat.or_lt_two_pow (Nat.lt_of_lt_of_le hx (Nat.pow_le_pow_right (by omega) (by omega))) ?_
  rw [Nat.pow_add, Nat.mul_comm (2 ^ n)]
  exact Nat.mul_lt_mul_of_pos_right hy (Nat.two_pow_pos n)
theorem sum_valid {L : Int} {n m sa fa sb fb : Nat} {ea eb : List Ed} (ha : valN L (n : Int) sa fa ea = true) (hb : valN L (m : Int) sb fb eb = true) (h64 : n + m ≤ 64) : valN L ((n + m : Nat) : Int) (sa ||| sb * 2 ^ n) (fa ||| fb * 2 ^ n) (sumE n ea eb) = true := by
  have h1 := valN_iff.1 ha
  have h2 := valN_iff.1 hb
  rw [Int.toNat_natCast] at h1 h2
  refine valN_iff.2 ⟨by omega, ?_, edB_iff.1 (asc_edB ?_ ?_)⟩
  · rw [Int.toNat_natCast]
    exact ⟨or_lt h1.2.1.1 h2.2.1.1, or_lt h1.2.1.2 h2.2.1.2⟩
  · refine List.pairwise_append.2 ⟨valN_asc ha, List.pairwise_map.2 ((valN_asc hb).imp fun h => ?_), ?_⟩
    · unfold ltE at *; rw [decide_eq_true_iff] at *; simp only [shE]; omega
    · intro x hx y hy
      obtain ⟨z, hz, rfl⟩ := List.mem_map.1 hy
      have h3 := inE_iff.1 (valN_in ha hx)
      have h4 := inE_iff.1 (valN_in hb hz)
      unfold ltE; rw [decide_eq_true_iff]; simp only [shE]; omega
  · intro e he
    rcases List.mem_append.1 he with h | h
    · have h3 := inE_iff.1 (valN_in ha h)
      exact inE_iff.2 (by omega)
    · obtain ⟨z, hz, rfl⟩ := List.mem_map.1 h
      have h4 := inE_iff.1 (valN_in hb hz)
      exact inE_iff.2 (by simp only [shE]; omega)
end Go.Proofs.Ytdoifdpmgmlpdaa
