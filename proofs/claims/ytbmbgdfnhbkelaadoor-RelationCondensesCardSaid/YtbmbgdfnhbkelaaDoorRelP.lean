/- Plain facts on products, converses, images. -/
import Derived.Test.YtbmbgdfnhbkelaaDoorRelT
namespace Go.Proofs.YtbmbgdfnhbkelaaDoor
open Go Go.RowKit
set_option linter.unusedVariables false

theorem bit_lt {x n i : Nat} (hx : x < 2 ^ n) (h : x.testBit i = true) : i < n := by
  apply Nat.lt_of_not_le
  intro hle
  rw [Nat.testBit_lt_two_pow (Nat.lt_of_lt_of_le hx (Nat.pow_le_pow_right (by decide) hle))] at h
  cases h
theorem ext_bit {x y : Nat} (h : ∀ i, x.testBit i = true ↔ y.testBit i = true) : x = y :=
  Nat.eq_of_testBit_eq fun i => by rw [Bool.eq_iff_iff]; exact h i
theorem compF_lt {n : Nat} {f g : Nat → Nat} (hg : ∀ j, j < n → g j < 2 ^ n) (i : Nat) : compF n f g i < 2 ^ n := imgN_lt hg
theorem compF_val {n : Nat} {f g : Nat → Nat} (h : valB n g = true) : valB n (compF n f g) = true :=
  valB_iff.2 ⟨(valB_iff.1 h).1, fun j _ => compF_lt (valB_iff.1 h).2 j⟩
theorem unionF_val {n : Nat} {f g : Nat → Nat} (hf : valB n f = true) (hg : valB n g = true) : valB n (unionF f g) = true :=
  valB_iff.2 ⟨(valB_iff.1 hf).1, fun j hj => Nat.or_lt_two_pow ((valB_iff.1 hf).2 j hj) ((valB_iff.1 hg).2 j hj)⟩
theorem meetF_val {n : Nat} {f g : Nat → Nat} (hf : valB n f = true) : valB n (meetF f g) = true :=
  valB_iff.2 ⟨(valB_iff.1 hf).1, fun j hj => Nat.lt_of_le_of_lt Nat.and_le_left ((valB_iff.1 hf).2 j hj)⟩
theorem idF_val {n : Nat} (hn : n ≤ 64) : valB n idF = true := valB_iff.2 ⟨hn, fun j hj => Nat.pow_lt_pow_right (by decide) hj⟩
theorem transF_val {n : Nat} {f : Nat → Nat} (hn : n ≤ 64) : valB n (transF n f) = true := valB_iff.2 ⟨hn, fun j _ => trN_lt⟩
theorem pairB_mk {n : Nat} {f g : Nat → Nat} (hf : valB n f = true) (hg : valB n g = true) : pairB n f n g = true := pairB_iff.2 ⟨hf, hg, rfl⟩

theorem compF_bit {n : Nat} {f g : Nat → Nat} {i t : Nat} : (compF n f g i).testBit t = true ↔ ∃ j, j < n ∧ (f i).testBit j = true ∧ (g j).testBit t = true := imgN_bit
theorem transF_bit {n : Nat} {f : Nat → Nat} {t i : Nat} : (transF n f t).testBit i = true ↔ i < n ∧ (f i).testBit t = true := trN_bit
theorem idF_bit {i t : Nat} : (idF i).testBit t = true ↔ i = t := by rw [idF, Nat.testBit_two_pow, decide_eq_true_iff]
theorem unionF_bit {f g : Nat → Nat} {i t : Nat} : (unionF f g i).testBit t = true ↔ (f i).testBit t = true ∨ (g i).testBit t = true := by rw [unionF, Nat.testBit_or, Bool.or_eq_true]
theorem meetF_bit {f g : Nat → Nat} {i t : Nat} : (meetF f g i).testBit t = true ↔ (f i).testBit t = true ∧ (g i).testBit t = true := by rw [meetF, Nat.testBit_and, Bool.and_eq_true]

theorem comp_assoc {n : Nat} {f g h : Nat → Nat} (i : Nat) : compF n (compF n f g) h i = compF n f (compF n g h) i := by
  apply ext_bit
  intro t
  simp only [compF_bit]
  constructor
  · rintro ⟨j, hj, ⟨k, hk, h1, h2⟩, h3⟩
    exact ⟨k, hk, h1, j, hj, h2, h3⟩
  · rintro ⟨k, hk, h1, j, hj, h2, h3⟩
    exact ⟨j, hj, ⟨k, hk, h1, h2⟩, h3⟩
theorem comp_id_left {n : Nat} {f : Nat → Nat} {i : Nat} (hi : i < n) : compF n idF f i = f i := by
  apply ext_bit
  intro t
  simp only [compF_bit, idF_bit]
  exact ⟨fun ⟨j, _, h1, h2⟩ => h1 ▸ h2, fun h => ⟨i, hi, rfl, h⟩⟩
theorem comp_id_right {n : Nat} {f : Nat → Nat} {i : Nat} (hf : f i < 2 ^ n) : compF n f idF i = f i := by
  apply ext_bit
  intro t
  simp only [compF_bit, idF_bit]
  exact ⟨fun ⟨j, _, h1, h2⟩ => h2 ▸ h1, fun h => ⟨t, bit_lt hf h, h, rfl⟩⟩
theorem trans_comp {n : Nat} {f g : Nat → Nat} {t : Nat} (ht : t < n) : transF n (compF n f g) t = compF n (transF n g) (transF n f) t := by
  apply ext_bit
  intro i
  simp only [compF_bit, transF_bit]
  constructor
  · rintro ⟨hi, j, hj, h1, h2⟩
    exact ⟨j, hj, ⟨hj, h2⟩, hi, h1⟩
  · rintro ⟨j, hj, ⟨_, h2⟩, hi, h1⟩
    exact ⟨hi, j, hj, h1, h2⟩
theorem comp_union {n : Nat} {f g h : Nat → Nat} (i : Nat) : compF n f (unionF g h) i = unionF (compF n f g) (compF n f h) i := by
  apply ext_bit
  intro t
  simp only [compF_bit, unionF_bit]
  constructor
  · rintro ⟨j, hj, h1, h2 | h2⟩
    · exact .inl ⟨j, hj, h1, h2⟩
    · exact .inr ⟨j, hj, h1, h2⟩
  · rintro (⟨j, hj, h1, h2⟩ | ⟨j, hj, h1, h2⟩)
    · exact ⟨j, hj, h1, .inl h2⟩
    · exact ⟨j, hj, h1, .inr h2⟩
theorem trans_meet {n : Nat} {f g : Nat → Nat} (t : Nat) : transF n (meetF f g) t = meetF (transF n f) (transF n g) t := by
  apply ext_bit
  intro i
  simp only [transF_bit, meetF_bit]
  exact ⟨fun ⟨h1, h2, h3⟩ => ⟨⟨h1, h2⟩, h1, h3⟩, fun ⟨⟨h1, h2⟩, _, h3⟩ => ⟨h1, h2, h3⟩⟩
theorem img_comp {n s : Nat} {f g : Nat → Nat} : imgN (compF n f g) s n = imgN g (imgN f s n) n := by
  apply ext_bit
  intro t
  simp only [imgN_bit, compF_bit]
  constructor
  · rintro ⟨i, hi, h1, j, hj, h2, h3⟩
    exact ⟨j, hj, ⟨i, hi, h1, h2⟩, h3⟩
  · rintro ⟨j, hj, ⟨i, hi, h1, h2⟩, h3⟩
    exact ⟨i, hi, h1, j, hj, h2, h3⟩
theorem img_or {n s t : Nat} {f : Nat → Nat} : imgN f (s ||| t) n = imgN f s n ||| imgN f t n := by
  apply ext_bit
  intro u
  simp only [imgN_bit, Nat.testBit_or, Bool.or_eq_true]
  constructor
  · rintro ⟨i, hi, h1 | h1, h2⟩
    · exact .inl ⟨i, hi, h1, h2⟩
    · exact .inr ⟨i, hi, h1, h2⟩
  · rintro (⟨i, hi, h1, h2⟩ | ⟨i, hi, h1, h2⟩)
    · exact ⟨i, hi, .inl h1, h2⟩
    · exact ⟨i, hi, .inr h1, h2⟩
end Go.Proofs.YtbmbgdfnhbkelaaDoor
