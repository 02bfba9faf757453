/- Plain facts on closures: reflexive, transitive, least. -/
import Derived.Test.YtbmbgdfnhbkelaaDoorRelP
import Derived.Test.YtbmbgdfnhbkelaaDoorRelLM
namespace Go.Proofs.YtbmbgdfnhbkelaaDoor
open Go Go.RowKit
set_option linter.unusedVariables false

theorem stF_bit {f : Nat → Nat} {k i t : Nat} : (stF f k i).testBit t = true ↔ (f i).testBit t = true ∨ ((f i).testBit k = true ∧ (f k).testBit t = true) := by
  unfold stF
  by_cases h : (f i).testBit k = true
  · rw [if_pos h, Nat.testBit_or, Bool.or_eq_true]
    exact ⟨fun h1 => h1.imp id fun h2 => ⟨h, h2⟩, fun h1 => h1.imp id fun h2 => h2.2⟩
  · rw [if_neg h]
    exact ⟨.inl, fun h1 => h1.elim id fun h2 => absurd h2.1 h⟩
theorem warF_mono {f : Nat → Nat} {i t : Nat} (h : (f i).testBit t = true) : ∀ k, (warF f k i).testBit t = true
  | 0 => h
  | k + 1 => stF_bit.2 (.inl (warF_mono h k))
theorem warF_trans {f : Nat → Nat} : ∀ k i j t, j < k → (warF f k i).testBit j = true → (warF f k j).testBit t = true → (warF f k i).testBit t = true
  | 0, i, j, t, h, _, _ => by omega
  | k + 1, i, j, t, hj, h1, h2 => by
    have ih := @warF_trans f k
    rw [warF, stF_bit] at h1 h2 ⊢
    by_cases e : j = k
    · subst e
      rcases h1 with h1 | ⟨h1, h3⟩ <;> rcases h2 with h2 | ⟨h2, h4⟩ <;> exact .inr ⟨h1, by assumption⟩
    · have hjk : j < k := by omega
      rcases h1 with h1 | ⟨h1, h3⟩ <;> rcases h2 with h2 | ⟨h2, h4⟩
      · exact .inl (ih i j t hjk h1 h2)
      · exact .inr ⟨ih i j k hjk h1 h2, h4⟩
      · exact .inr ⟨h1, ih k j t hjk h3 h2⟩
      · exact .inr ⟨h1, h4⟩
theorem warF_least {f d : Nat → Nat} {n : Nat} (hf : ∀ i, i < n → ∀ t, (f i).testBit t = true → (d i).testBit t = true) (hd : ∀ i j t, j < n → (d i).testBit j = true → (d j).testBit t = true → (d i).testBit t = true) :
    ∀ k, k ≤ n → ∀ i, i < n → ∀ t, (warF f k i).testBit t = true → (d i).testBit t = true
  | 0, _, i, hi, t, h => hf i hi t h
  | k + 1, hk, i, hi, t, h => by
    have ih := @warF_least f d n hf hd k (by omega)
    rw [warF, stF_bit] at h
    rcases h with h | ⟨h1, h2⟩
    · exact ih i hi t h
    · exact hd i k t (by omega) (ih i hi k h1) (ih k (by omega) t h2)
theorem warF_lt {f : Nat → Nat} {n : Nat} (hf : ∀ i, i < n → f i < 2 ^ n) : ∀ k, k ≤ n → ∀ i, i < n → warF f k i < 2 ^ n
  | 0, _ => hf
  | k + 1, hk => fun i hi => by
    have ih := warF_lt hf k (by omega)
    rw [warF, stF]
    split
    · exact Nat.or_lt_two_pow (ih i hi) (ih k (by omega))
    · exact ih i hi

theorem clF_val {n : Nat} {f : Nat → Nat} (h : valB n f = true) : valB n (clF n f) = true := by
  obtain ⟨h1, h2⟩ := valB_iff.1 h
  exact valB_iff.2 ⟨h1, warF_lt (fun i hi => Nat.or_lt_two_pow (h2 i hi) (Nat.pow_lt_pow_right (by decide) hi)) n (Nat.le_refl _)⟩
theorem clF_has {n : Nat} {f : Nat → Nat} {i t : Nat} (h : (f i).testBit t = true) : (clF n f i).testBit t = true :=
  warF_mono (f := fun i => f i ||| 2 ^ i) (by rw [Nat.testBit_or, h]; rfl) n
theorem clF_refl {n : Nat} {f : Nat → Nat} (i : Nat) : (clF n f i).testBit i = true :=
  warF_mono (f := fun i => f i ||| 2 ^ i) (by rw [Nat.testBit_or, Nat.testBit_two_pow_self, Bool.or_true]) n
theorem clF_trans {n : Nat} {f : Nat → Nat} {i j t : Nat} (hj : j < n) (h1 : (clF n f i).testBit j = true) (h2 : (clF n f j).testBit t = true) : (clF n f i).testBit t = true :=
  warF_trans n i j t hj h1 h2
theorem clF_least {n : Nat} {f d : Nat → Nat} (hf : ∀ i, i < n → ∀ t, (f i).testBit t = true → (d i).testBit t = true) (hr : ∀ i, i < n → (d i).testBit i = true) (hd : ∀ i j t, j < n → (d i).testBit j = true → (d j).testBit t = true → (d i).testBit t = true)
    {i t : Nat} (hi : i < n) (h : (clF n f i).testBit t = true) : (d i).testBit t = true :=
  warF_least (f := fun i => f i ||| 2 ^ i) (fun i hi t h => by
    rw [Nat.testBit_or, Bool.or_eq_true, Nat.testBit_two_pow, decide_eq_true_iff] at h
    rcases h with h | h
    · exact hf i hi t h
    · subst h; exact hr i hi) hd n (Nat.le_refl _) i hi t h
theorem cl_square {n : Nat} {f : Nat → Nat} {i : Nat} (hi : i < n) : compF n (clF n f) (clF n f) i = clF n f i := by
  apply ext_bit
  intro t
  rw [compF_bit]
  exact ⟨fun ⟨j, hj, h1, h2⟩ => clF_trans hj h1 h2, fun h => ⟨i, hi, clF_refl i, h⟩⟩
theorem union_sub {c d : Nat → Nat} {i : Nat} (h : ∀ t, (d i).testBit t = true → (c i).testBit t = true) : unionF c d i = c i := by
  apply ext_bit
  intro t
  rw [unionF_bit]
  exact ⟨fun h1 => h1.elim id (h t), .inl⟩
theorem union_sup {c d : Nat → Nat} {i : Nat} (h : ∀ t, (c i).testBit t = true → (d i).testBit t = true) : unionF c d i = d i := by
  apply ext_bit
  intro t
  rw [unionF_bit]
  exact ⟨fun h1 => h1.elim (h t) id, .inr⟩
theorem cl_union_self {n : Nat} {f : Nat → Nat} (i : Nat) : unionF (clF n f) f i = clF n f i := union_sub fun t h => clF_has h
theorem cl_union_id {n : Nat} {f : Nat → Nat} (i : Nat) : unionF (clF n f) idF i = clF n f i := union_sub fun t h => by
  rw [idF_bit] at h; subst h; exact clF_refl i
theorem cl_mono {n : Nat} {f g : Nat → Nat} {i : Nat} (hi : i < n) (hfg : ∀ i, i < n → ∀ t, (f i).testBit t = true → (g i).testBit t = true) {t : Nat} (h : (clF n f i).testBit t = true) : (clF n g i).testBit t = true :=
  clF_least (fun i hi t h => clF_has (hfg i hi t h)) (fun i _ => clF_refl i) (fun i j t hj h1 h2 => clF_trans hj h1 h2) hi h
theorem cl_in_union {n : Nat} {f g : Nat → Nat} {i : Nat} (hi : i < n) : unionF (clF n f) (clF n (unionF f g)) i = clF n (unionF f g) i :=
  union_sup fun t h => cl_mono hi (fun i _ t h => unionF_bit.2 (.inl h)) h
theorem cl_of_union {n : Nat} {f g : Nat → Nat} {i : Nat} (hi : i < n) : clF n (unionF (clF n f) g) i = clF n (unionF f g) i := by
  apply ext_bit
  intro t
  constructor
  · intro h
    refine clF_least (fun i hi t h => ?_) (fun i _ => clF_refl i) (fun i j t hj h1 h2 => clF_trans hj h1 h2) hi h
    rw [unionF_bit] at h
    rcases h with h | h
    · exact cl_mono hi (fun i _ t h => unionF_bit.2 (.inl h)) h
    · exact clF_has (unionF_bit.2 (.inr h))
  · intro h
    exact cl_mono hi (fun i _ t h => unionF_bit.2 ((unionF_bit.1 h).imp (fun h => clF_has h) id)) h
end Go.Proofs.YtbmbgdfnhbkelaaDoor
