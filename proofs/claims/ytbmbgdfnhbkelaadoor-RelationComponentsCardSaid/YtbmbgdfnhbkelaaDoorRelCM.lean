/- Plain facts on components: least points, numbers, the order of the components. -/
import Derived.Test.YtbmbgdfnhbkelaaDoorRelR
import Derived.Test.YtbmbgdfnhbkelaaDoorRelN
import Derived.Lib.TrailingZeros
namespace Go.Proofs.YtbmbgdfnhbkelaaDoor
open Go Go.RowKit
set_option linter.unusedVariables false

/-- c is reflexive and transitive on n points -/
structure Pre (n : Nat) (c : Nat → Nat) : Prop where
  hn : n ≤ 64
  lt : ∀ i, i < n → c i < 2 ^ n
  refl : ∀ i, i < n → (c i).testBit i = true
  trans : ∀ i j t, j < n → (c i).testBit j = true → (c j).testBit t = true → (c i).testBit t = true
theorem clF_pre {n : Nat} {f : Nat → Nat} (h : valB n f = true) : Pre n (clF n f) :=
  ⟨(valB_iff.1 h).1, (valB_iff.1 (clF_val h)).2, fun i _ => clF_refl i, fun i j t hj h1 h2 => clF_trans hj h1 h2⟩
theorem Pre.val {n : Nat} {c : Nat → Nat} (P : Pre n c) : valB n c = true := valB_iff.2 ⟨P.hn, P.lt⟩

theorem ctz_bit {x : Nat} (h0 : x ≠ 0) (hx : x < 18446744073709551616) : x.testBit (Lib.ctz 64 x) = true ∧ (∀ j, j < Lib.ctz 64 x → x.testBit j = false) ∧ Lib.ctz 64 x < 64 := by
  obtain ⟨m, hm, hk⟩ := Lib.ctzFrom_spec 64 x (by omega) (by exact hx)
  have e : Lib.ctz 64 x = Lib.ctzFrom 64 x := by simp [Lib.ctz, h0]
  rw [e]
  generalize Lib.ctzFrom 64 x = k at *
  have hb : ∀ j, x.testBit j = (decide (k ≤ j) && (2 * m + 1).testBit (j - k)) := by
    intro j
    rw [hm, Nat.mul_comm, Nat.testBit_mul_two_pow]
  refine ⟨?_, ?_, hk⟩
  · rw [hb]; simp
  · intro j hj; rw [hb]; simp; omega

/-- the points that are related to i both ways -/
def mutF (n : Nat) (c : Nat → Nat) (i : Nat) : Nat := meetF c (transF n c) i
theorem mut_bit {n i t : Nat} {c : Nat → Nat} : (mutF n c i).testBit t = true ↔ (c i).testBit t = true ∧ t < n ∧ (c t).testBit i = true := by
  rw [mutF, meetF_bit, transF_bit]
/-- the least of them -/
def leastF (n : Nat) (c : Nat → Nat) (i : Nat) : Nat := Lib.ctz 64 (mutF n c i)

section
variable {n : Nat} {c : Nat → Nat}
theorem mut_self (P : Pre n c) {i : Nat} (hi : i < n) : (mutF n c i).testBit i = true := mut_bit.2 ⟨P.refl i hi, hi, P.refl i hi⟩
theorem mut_ne (P : Pre n c) {i : Nat} (hi : i < n) : mutF n c i ≠ 0 := by
  intro h
  have := mut_self P hi
  rw [h] at this
  simp at this
theorem mut_u (P : Pre n c) {i : Nat} (hi : i < n) : mutF n c i < 18446744073709551616 := and_u (valB_u P.val hi)
theorem least_bit (P : Pre n c) {i : Nat} (hi : i < n) : (c i).testBit (leastF n c i) = true ∧ leastF n c i < n ∧ (c (leastF n c i)).testBit i = true :=
  mut_bit.1 (ctz_bit (mut_ne P hi) (mut_u P hi)).1
theorem least_min (P : Pre n c) {i t : Nat} (hi : i < n) (ht : (mutF n c i).testBit t = true) : leastF n c i ≤ t := by
  apply Nat.le_of_not_lt
  intro h
  have := (ctz_bit (mut_ne P hi) (mut_u P hi)).2.1 t h
  rw [ht] at this; cases this
theorem least_le (P : Pre n c) {i : Nat} (hi : i < n) : leastF n c i ≤ i := least_min P hi (mut_self P hi)
theorem mut_eq (P : Pre n c) {i t : Nat} (hi : i < n) (ht : t < n) (h1 : (c i).testBit t = true) (h2 : (c t).testBit i = true) : mutF n c t = mutF n c i := by
  apply ext_bit
  intro u
  rw [mut_bit, mut_bit]
  constructor
  · rintro ⟨a, b, d⟩
    exact ⟨P.trans i t u ht h1 a, b, P.trans u t i ht d h2⟩
  · rintro ⟨a, b, d⟩
    exact ⟨P.trans t i u hi h2 a, b, P.trans u i t hi d h1⟩
theorem least_eq (P : Pre n c) {i t : Nat} (hi : i < n) (ht : t < n) (h1 : (c i).testBit t = true) (h2 : (c t).testBit i = true) : leastF n c t = leastF n c i := by
  rw [leastF, leastF, mut_eq P hi ht h1 h2]
theorem least_idem (P : Pre n c) {i : Nat} (hi : i < n) : leastF n c (leastF n c i) = leastF n c i := by
  obtain ⟨h1, h2, h3⟩ := least_bit P hi
  exact least_eq P hi h2 h1 h3
theorem least_same (P : Pre n c) {i t : Nat} (hi : i < n) (ht : t < n) (h : leastF n c i = leastF n c t) : (c i).testBit t = true ∧ (c t).testBit i = true := by
  obtain ⟨h1, h2, h3⟩ := least_bit P hi
  obtain ⟨k1, k2, k3⟩ := least_bit P ht
  rw [← h] at k1 k3
  exact ⟨P.trans i _ t h2 h1 k3, P.trans t _ i h2 k1 h3⟩

/-- how many of the first k points are the least of their component -/
def cntN (n : Nat) (c : Nat → Nat) : Nat → Nat
  | 0 => 0
  | k + 1 => if leastF n c k < k then cntN n c k else cntN n c k + 1
/-- the number of i's component -/
def numF (n : Nat) (c : Nat → Nat) (i : Nat) : Nat := cntN n c (leastF n c i)
theorem cnt_mono : ∀ {j k : Nat}, j ≤ k → cntN n c j ≤ cntN n c k
  | j, 0, h => Nat.le_of_eq (by rw [show j = 0 by omega])
  | j, k + 1, h => by
    by_cases e : j = k + 1
    · subst e; exact Nat.le_refl _
    · have := cnt_mono (j := j) (k := k) (by omega)
      rw [cntN]; split <;> omega
theorem cnt_le : ∀ {k : Nat}, cntN n c k ≤ k
  | 0 => Nat.le_refl _
  | k + 1 => by have := cnt_le (k := k); rw [cntN]; split <;> omega
theorem cnt_rep {k : Nat} (h : ¬ leastF n c k < k) : cntN n c (k + 1) = cntN n c k + 1 := by rw [cntN, if_neg h]
theorem cnt_other {k : Nat} (h : leastF n c k < k) : cntN n c (k + 1) = cntN n c k := by rw [cntN, if_pos h]
theorem num_rep (P : Pre n c) {i : Nat} (hi : i < n) (h : ¬ leastF n c i < i) : numF n c i = cntN n c i := by
  have := least_le P hi
  rw [numF, show leastF n c i = i by omega]
theorem num_least (P : Pre n c) {i : Nat} (hi : i < n) : numF n c (leastF n c i) = numF n c i := by rw [numF, numF, least_idem P hi]
theorem num_succ (P : Pre n c) {i : Nat} (hi : i < n) : cntN n c (leastF n c i + 1) = numF n c i + 1 := by
  rw [cnt_rep (by rw [least_idem P hi]; omega)]; rfl
theorem num_lt (P : Pre n c) {i k : Nat} (hi : i < n) (hk : i < k) : numF n c i < cntN n c k := by
  have h1 := num_succ P hi
  have h2 := cnt_mono (n := n) (c := c) (show leastF n c i + 1 ≤ k by have := least_le P hi; omega)
  omega
theorem num_lt64 (P : Pre n c) {i : Nat} (hi : i < n) : numF n c i < 64 := by
  have := num_lt P hi hi
  have := cnt_le (n := n) (c := c) (k := n)
  have := P.hn
  omega
theorem num_inj (P : Pre n c) {i t : Nat} (hi : i < n) (ht : t < n) : numF n c i = numF n c t ↔ leastF n c i = leastF n c t := by
  constructor
  · intro h
    have h1 := num_succ P hi
    have h2 := num_succ P ht
    rcases Nat.lt_trichotomy (leastF n c i) (leastF n c t) with e | e | e
    · have := cnt_mono (n := n) (c := c) (show leastF n c i + 1 ≤ leastF n c t by omega)
      rw [h1] at this; rw [numF, numF] at h; rw [numF] at this; omega
    · exact e
    · have := cnt_mono (n := n) (c := c) (show leastF n c t + 1 ≤ leastF n c i by omega)
      rw [h2] at this; rw [numF, numF] at h; rw [numF] at this; omega
  · intro h; rw [numF, numF, h]
theorem num_mut (P : Pre n c) {i t : Nat} (hi : i < n) (ht : t < n) : numF n c i = numF n c t ↔ (c i).testBit t = true ∧ (c t).testBit i = true := by
  rw [num_inj P hi ht]
  exact ⟨least_same P hi ht, fun ⟨h1, h2⟩ => (least_eq P hi ht h1 h2).symm⟩
theorem num_surj (P : Pre n c) : ∀ {k x : Nat}, k ≤ n → x < cntN n c k → ∃ i, i < k ∧ numF n c i = x
  | 0, x, _, h => by simp [cntN] at h
  | k + 1, x, hk, h => by
    by_cases hl : leastF n c k < k
    · rw [cnt_other hl] at h
      obtain ⟨i, hi, he⟩ := num_surj P (by omega) h
      exact ⟨i, by omega, he⟩
    · rw [cnt_rep hl] at h
      by_cases e : x = cntN n c k
      · exact ⟨k, by omega, by rw [num_rep P (by omega) hl, e]⟩
      · obtain ⟨i, hi, he⟩ := num_surj P (k := k) (x := x) (by omega) (by omega)
        exact ⟨i, by omega, he⟩
theorem cnt_max (P : Pre n c) {k : Nat} (hk : k < n) : max (cntN n c k) (numF n c k + 1) = cntN n c (k + 1) := by
  by_cases hl : leastF n c k < k
  · rw [cnt_other hl]
    have : numF n c k + 1 ≤ cntN n c k := by
      have h1 := num_succ P hk
      have h2 := cnt_mono (n := n) (c := c) (show leastF n c k + 1 ≤ k by omega)
      omega
    omega
  · rw [cnt_rep hl, num_rep P hk hl]; omega
end

/-- the components' numbers as a list -/
def numL (n : Nat) (c : Nat → Nat) : List Nat := (List.range n).map (numF n c)
theorem numL_len (n : Nat) (c : Nat → Nat) : (numL n c).length = n := by simp [numL]

theorem mem_mem {s k j : Nat} : j ∈ mem s k ↔ j < k ∧ s.testBit j = true := by simp [mem, List.mem_filter]
/-- one more related point j: component x is related to j's -/
def stepO (num : Nat → Nat) (x : Nat) (F : Nat → Nat) (j y : Nat) : Nat := if y = x then F y ||| 2 ^ num j else F y
def rowO (num : Nat → Nat) (x : Nat) (F : Nat → Nat) (l : List Nat) : Nat → Nat := l.foldl (stepO num x) F
theorem rowO_snoc (num : Nat → Nat) (x : Nat) (F : Nat → Nat) (l : List Nat) (j : Nat) : rowO num x F (l ++ [j]) = stepO num x (rowO num x F l) j := by simp [rowO]
theorem rowO_bit {num : Nat → Nat} {x : Nat} {l : List Nat} : ∀ {F : Nat → Nat} {y t : Nat}, (rowO num x F l y).testBit t = true ↔ (F y).testBit t = true ∨ (y = x ∧ ∃ j, j ∈ l ∧ num j = t) := by
  induction l with
  | nil => intro F y t; simp [rowO]
  | cons a l ih =>
    intro F y t
    rw [rowO, List.foldl_cons]
    have := @ih (stepO num x F a) y t
    rw [rowO] at this
    rw [this, stepO]
    by_cases e : y = x
    · rw [if_pos e, Nat.testBit_or, Bool.or_eq_true, Nat.testBit_two_pow, decide_eq_true_iff]
      simp only [e, List.mem_cons, true_and]
      constructor
      · rintro ((h | h) | ⟨j, hj, hn⟩)
        · exact .inl h
        · exact .inr ⟨a, .inl rfl, h⟩
        · exact .inr ⟨j, .inr hj, hn⟩
      · rintro (h | ⟨j, rfl | hj, hn⟩)
        · exact .inl (.inl h)
        · exact .inl (.inr hn)
        · exact .inr ⟨j, hj, hn⟩
    · rw [if_neg e]; simp [e]
/-- the order's rows after the first k points -/
def ordI (n : Nat) (c num : Nat → Nat) : Nat → (Nat → Nat)
  | 0 => fun _ => 0
  | k + 1 => rowO num (num k) (ordI n c num k) (mem (c k) n)
theorem ordI_bit {n : Nat} {c num : Nat → Nat} : ∀ {k y t : Nat}, (ordI n c num k y).testBit t = true ↔ ∃ i, i < k ∧ num i = y ∧ ∃ j, j < n ∧ (c i).testBit j = true ∧ num j = t
  | 0, y, t => by simp [ordI]
  | k + 1, y, t => by
    rw [ordI, rowO_bit, ordI_bit (k := k)]
    constructor
    · rintro (⟨i, hi, h1, h2⟩ | ⟨rfl, j, hj, hn⟩)
      · exact ⟨i, by omega, h1, h2⟩
      · exact ⟨k, by omega, rfl, j, (mem_mem.1 hj).1, (mem_mem.1 hj).2, hn⟩
    · rintro ⟨i, hi, h1, j, hj, hc, hn⟩
      by_cases e : i = k
      · subst e; exact .inr ⟨h1.symm, j, mem_mem.2 ⟨hj, hc⟩, hn⟩
      · exact .inl ⟨i, by omega, h1, j, hj, hc, hn⟩
/-- the order of the components -/
def ordF (n : Nat) (c : Nat → Nat) : Nat → Nat := ordI n c (numF n c) n
theorem ordF_bit {n : Nat} {c : Nat → Nat} {y t : Nat} : (ordF n c y).testBit t = true ↔ ∃ i, i < n ∧ numF n c i = y ∧ ∃ j, j < n ∧ (c i).testBit j = true ∧ numF n c j = t := ordI_bit
theorem rowO_u {num : Nat → Nat} {x : Nat} {l : List Nat} (hl : ∀ j, j ∈ l → num j < 64) : ∀ {F : Nat → Nat}, (∀ y, F y < 18446744073709551616) → ∀ y, rowO num x F l y < 18446744073709551616 := by
  induction l with
  | nil => intro F hF y; exact hF y
  | cons a l ih =>
    intro F hF y
    rw [rowO, List.foldl_cons]
    refine ih (fun j hj => hl j (List.mem_cons_of_mem _ hj)) (F := stepO num x F a) (fun y => ?_) y
    rw [stepO]
    split
    · exact or_u (hF y) (pow_lt64 (hl a List.mem_cons_self))
    · exact hF y
theorem ordI_u {n : Nat} {c num : Nat → Nat} (hl : ∀ j, j < n → num j < 64) : ∀ k y, ordI n c num k y < 18446744073709551616
  | 0, y => by simp [ordI]
  | k + 1, y => rowO_u (fun j hj => hl j (mem_mem.1 hj).1) (ordI_u hl k) y
theorem mem_all {s n : Nat} (hs : s < 2 ^ n) (hn : n ≤ 64) : mem s 64 = mem s n := by
  obtain ⟨d, hd⟩ : ∃ d, 64 = n + d := ⟨64 - n, by omega⟩
  rw [hd]
  clear hd
  induction d with
  | zero => rfl
  | succ d ih =>
    rw [← Nat.add_assoc, mem_no, ih]
    exact Nat.testBit_lt_two_pow (Nat.lt_of_lt_of_le hs (Nat.pow_le_pow_right (by decide) (by omega)))
end Go.Proofs.YtbmbgdfnhbkelaaDoor
