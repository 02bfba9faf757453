/- Plain facts on the order of the components, converses, and topological orders. -/
import Derived.Test.YtbmbgdfnhbkelaaDoorRelCM
import Derived.Test.YtbmbgdfnhbkelaaDoorRelV
namespace Go.Proofs.YtbmbgdfnhbkelaaDoor
open Go Go.RowKit
set_option linter.unusedVariables false

section
variable {n : Nat} {c : Nat → Nat}
theorem ord_lt (P : Pre n c) (y : Nat) : ordF n c y < 2 ^ cntN n c n := by
  apply Nat.lt_pow_two_of_testBit
  intro t ht
  rw [← Bool.not_eq_true, ordF_bit]
  rintro ⟨i, hi, h1, j, hj, h2, h3⟩
  have := num_lt P hj hj
  omega
theorem cnt64 (P : Pre n c) : cntN n c n ≤ 64 := Nat.le_trans cnt_le P.hn
theorem ord_val (P : Pre n c) : valB (cntN n c n) (ordF n c) = true := valB_iff.2 ⟨cnt64 P, fun y _ => ord_lt P y⟩
theorem ord_refl (P : Pre n c) {y : Nat} (hy : y < cntN n c n) : (ordF n c y).testBit y = true := by
  obtain ⟨i, hi, he⟩ := num_surj P (Nat.le_refl n) hy
  exact ordF_bit.2 ⟨i, hi, he, i, hi, P.refl i hi, he⟩
theorem ord_trans (P : Pre n c) {y t u : Nat} (h1 : (ordF n c y).testBit t = true) (h2 : (ordF n c t).testBit u = true) : (ordF n c y).testBit u = true := by
  rw [ordF_bit] at h1 h2 ⊢
  obtain ⟨i, hi, a1, j, hj, a2, a3⟩ := h1
  obtain ⟨i', hi', b1, j', hj', b2, b3⟩ := h2
  have hm := (num_mut P hj hi').1 (by rw [a3, b1])
  exact ⟨i, hi, a1, j', hj', P.trans i i' j' hi' (P.trans i j i' hj a2 hm.1) b2, b3⟩
theorem ord_closed (P : Pre n c) {y : Nat} (hy : y < cntN n c n) : clF (cntN n c n) (ordF n c) y = ordF n c y := by
  apply ext_bit
  intro t
  constructor
  · intro h
    exact clF_least (fun i _ t h => h) (fun i hi => ord_refl P hi) (fun i j t _ h1 h2 => ord_trans P h1 h2) hy h
  · exact fun h => clF_has h
theorem ord_anti (P : Pre n c) {y : Nat} (hy : y < cntN n c n) : meetF (ordF n c) (transF (cntN n c n) (ordF n c)) y = idF y := by
  apply ext_bit
  intro t
  rw [meetF_bit, transF_bit, idF_bit]
  constructor
  · rintro ⟨h1, _, h2⟩
    rw [ordF_bit] at h1 h2
    obtain ⟨i, hi, a1, j, hj, a2, a3⟩ := h1
    obtain ⟨j', hj', b1, i', hi', b2, b3⟩ := h2
    have m1 := (num_mut P hj hj').1 (by rw [a3, b1])
    have m2 := (num_mut P hi' hi).1 (by rw [b3, a1])
    have hji : (c j).testBit i = true := P.trans j i' i hi' (P.trans j j' i' hj' m1.1 b2) m2.1
    rw [← a1, ← a3]
    exact (num_mut P hi hj).2 ⟨a2, hji⟩
  · rintro rfl
    exact ⟨ord_refl P hy, hy, ord_refl P hy⟩
end

/-! ### the converse -/
theorem cl_trans_one {n : Nat} {f : Nat → Nat} {i t : Nat} (hi : i < n) (h : (clF n (transF n f) i).testBit t = true) : t < n ∧ (clF n f t).testBit i = true := by
  have := clF_least (n := n) (f := transF n f) (d := transF n (clF n f)) (fun i _ t h => by
    rw [transF_bit] at h ⊢; exact ⟨h.1, clF_has h.2⟩) (fun i hi => by rw [transF_bit]; exact ⟨hi, clF_refl i⟩)
    (fun i j t hj h1 h2 => by
      rw [transF_bit] at h1 h2 ⊢
      exact ⟨h2.1, clF_trans hj h2.2 h1.2⟩) hi h
  rwa [transF_bit] at this
theorem cl_trans_two {n : Nat} {f : Nat → Nat} {i t : Nat} (ht : t < n) (hf : ∀ i, i < n → f i < 2 ^ n) (h : (clF n f t).testBit i = true) : (clF n (transF n f) i).testBit t = true := by
  have := clF_least (n := n) (f := f) (d := transF n (clF n (transF n f))) (fun t ht i h => by
    rw [transF_bit]
    exact ⟨bit_lt (hf t ht) h, clF_has (transF_bit.2 ⟨ht, h⟩)⟩) (fun i hi => by rw [transF_bit]; exact ⟨hi, clF_refl i⟩)
    (fun i j t hj h1 h2 => by
      rw [transF_bit] at h1 h2 ⊢
      exact ⟨h2.1, clF_trans hj h2.2 h1.2⟩) ht h
  rw [transF_bit] at this
  exact this.2
section
variable {n : Nat} {f : Nat → Nat}
theorem cl_trans (hv : valB n f = true) {i t : Nat} (hi : i < n) (ht : t < n) : (clF n (transF n f) i).testBit t = true ↔ (clF n f t).testBit i = true :=
  ⟨fun h => (cl_trans_one hi h).2, fun h => cl_trans_two ht (valB_iff.1 hv).2 h⟩
theorem mut_trans (hv : valB n f = true) {i : Nat} (hi : i < n) : mutF n (clF n (transF n f)) i = mutF n (clF n f) i := by
  apply ext_bit
  intro t
  rw [mut_bit, mut_bit]
  constructor
  · rintro ⟨h1, h2, h3⟩
    exact ⟨(cl_trans hv h2 hi).1 h3, h2, (cl_trans hv hi h2).1 h1⟩
  · rintro ⟨h1, h2, h3⟩
    exact ⟨(cl_trans hv hi h2).2 h3, h2, (cl_trans hv h2 hi).2 h1⟩
theorem least_trans (hv : valB n f = true) {i : Nat} (hi : i < n) : leastF n (clF n (transF n f)) i = leastF n (clF n f) i := by
  rw [leastF, leastF, mut_trans hv hi]
theorem cnt_trans (hv : valB n f = true) : ∀ {k : Nat}, k ≤ n → cntN n (clF n (transF n f)) k = cntN n (clF n f) k
  | 0, _ => rfl
  | k + 1, hk => by rw [cntN, cntN, least_trans hv (by omega), cnt_trans hv (by omega)]
theorem num_trans (hv : valB n f = true) {i : Nat} (hi : i < n) : numF n (clF n (transF n f)) i = numF n (clF n f) i := by
  rw [numF, numF, least_trans hv hi, cnt_trans hv (by have := least_le (clF_pre hv) hi; omega)]
theorem numL_trans (hv : valB n f = true) : numL n (clF n (transF n f)) = numL n (clF n f) :=
  List.map_congr_left fun i hi => num_trans hv (List.mem_range.1 hi)
theorem ord_conv (hv : valB n f = true) {y : Nat} : ordF n (clF n (transF n f)) y = transF (cntN n (clF n f) n) (ordF n (clF n f)) y := by
  apply ext_bit
  intro t
  rw [transF_bit, ordF_bit, ordF_bit]
  constructor
  · rintro ⟨i, hi, h1, j, hj, h2, h3⟩
    rw [num_trans hv hi] at h1
    rw [num_trans hv hj] at h3
    exact ⟨h3 ▸ num_lt (clF_pre hv) hj hj, j, hj, h3, i, hi, (cl_trans hv hi hj).1 h2, h1⟩
  · rintro ⟨_, j, hj, h3, i, hi, h2, h1⟩
    exact ⟨i, hi, by rw [num_trans hv hi]; exact h1, j, hj, (cl_trans hv hi hj).2 h2, by rw [num_trans hv hj]; exact h3⟩
end

/-! ### topological orders -/
theorem cnt_full {n : Nat} {c : Nat → Nat} : ∀ {m : Nat}, cntN n c m = m → ∀ k, k < m → ¬ leastF n c k < k
  | 0, _, k, hk => by omega
  | m + 1, h, k, hk => by
    have hle := cnt_le (n := n) (c := c) (k := m)
    by_cases hl : leastF n c m < m
    · rw [cnt_other hl] at h; omega
    · rw [cnt_rep hl] at h
      by_cases e : k = m
      · subst e; exact hl
      · exact cnt_full (m := m) (by omega) k (by omega)
theorem cnt_all {n : Nat} {c : Nat → Nat} : ∀ {m : Nat}, (∀ k, k < m → ¬ leastF n c k < k) → cntN n c m = m
  | 0, _ => rfl
  | m + 1, h => by rw [cnt_rep (h m (by omega)), cnt_all fun k hk => h k (by omega)]
theorem cnt_anti {n : Nat} {c : Nat → Nat} (P : Pre n c) : cntN n c n = n ↔ ∀ i j, i < n → j < n → (c i).testBit j = true → (c j).testBit i = true → i = j := by
  constructor
  · intro h i j hi hj h1 h2
    have e := least_eq P hi hj h1 h2
    have a1 := cnt_full h i hi
    have a2 := cnt_full h j hj
    have b1 := least_le P hi
    have b2 := least_le P hj
    omega
  · intro h
    refine cnt_all fun k hk hl => ?_
    obtain ⟨h1, h2, h3⟩ := least_bit P hk
    have := h k _ hk h2 h1 h3
    omega

theorem warF_pred {f : Nat → Nat} {n : Nat} {R : Nat → Nat → Prop} (hf : ∀ i, i < n → ∀ t, (f i).testBit t = true → R i t) (hd : ∀ i j t, j < n → R i j → R j t → R i t) :
    ∀ k, k ≤ n → ∀ i, i < n → ∀ t, (warF f k i).testBit t = true → R i t
  | 0, _, i, hi, t, h => hf i hi t h
  | k + 1, hk, i, hi, t, h => by
    have ih := @warF_pred f n R hf hd k (by omega)
    rw [warF, stF_bit] at h
    rcases h with h | ⟨h1, h2⟩
    · exact ih i hi t h
    · exact hd i k t (by omega) (ih i hi k h1) (ih k (by omega) t h2)
theorem clF_pred {n : Nat} {f : Nat → Nat} {R : Nat → Nat → Prop} (hf : ∀ i, i < n → ∀ t, (f i).testBit t = true → R i t) (hr : ∀ i, i < n → R i i) (hd : ∀ i j t, j < n → R i j → R j t → R i t)
    {i t : Nat} (hi : i < n) (h : (clF n f i).testBit t = true) : R i t :=
  warF_pred (f := fun i => f i ||| 2 ^ i) (fun i hi t h => by
    rw [Nat.testBit_or, Bool.or_eq_true, Nat.testBit_two_pow, decide_eq_true_iff] at h
    rcases h with h | h
    · exact hf i hi t h
    · subst h; exact hr i hi) hd n (Nat.le_refl _) i hi t h

theorem mem_len_succ {p i : Nat} (hp : p.testBit i = false) : ∀ {n : Nat}, (mem (p ||| 2 ^ i) n).length = (mem p n).length + if i < n then 1 else 0
  | 0 => by simp [mem]
  | n + 1 => by
    have ih := @mem_len_succ p i hp n
    by_cases e : i = n
    · subst e
      rw [mem_yes (by rw [Nat.testBit_or, Nat.testBit_two_pow_self, Bool.or_true]), mem_no hp, List.length_append, ih]
      simp
    · have hb : (p ||| 2 ^ i).testBit n = p.testBit n := by
        rw [Nat.testBit_or, Nat.testBit_two_pow]; simp [e]
      cases h : p.testBit n
      · rw [mem_no (by rw [hb, h]), mem_no h, ih]
        by_cases h1 : i < n
        · rw [if_pos h1, if_pos (by omega)]
        · rw [if_neg h1, if_neg (by omega)]
      · rw [mem_yes (by rw [hb, h]), mem_yes h, List.length_append, List.length_append, ih]
        by_cases h1 : i < n
        · simp only [List.length_singleton]; rw [if_pos h1, if_pos (by omega)]
        · simp only [List.length_singleton]; rw [if_neg h1, if_neg (by omega)]; try omega
theorem mem_full {p : Nat} : ∀ {n : Nat}, (mem p n).length = n → ∀ t, t < n → p.testBit t = true
  | 0, _, t, ht => by omega
  | n + 1, h, t, ht => by
    have hle := mem_len p n
    cases hb : p.testBit n
    · rw [mem_no hb] at h; omega
    · rw [mem_yes hb, List.length_append] at h
      by_cases e : t = n
      · subst e; exact hb
      · exact mem_full (n := n) (by simpa using h) t (by omega)
theorem mem_some {p : Nat} : ∀ {n : Nat}, (mem p n).length < n → ∃ t, t < n ∧ p.testBit t = false
  | 0, h => by omega
  | n + 1, h => by
    cases hb : p.testBit n
    · exact ⟨n, by omega, hb⟩
    · rw [mem_yes hb, List.length_append] at h
      obtain ⟨t, ht, he⟩ := mem_some (p := p) (n := n) (by simpa using h)
      exact ⟨t, by omega, he⟩
theorem mem_mono {x y : Nat} (h : ∀ t, x.testBit t = true → y.testBit t = true) : ∀ {n : Nat}, (mem x n).length ≤ (mem y n).length
  | 0 => by simp [mem]
  | n + 1 => by
    have ih := @mem_mono x y h n
    cases hx : x.testBit n
    · rw [mem_no hx]
      cases hy : y.testBit n
      · rw [mem_no hy]; exact ih
      · rw [mem_yes hy, List.length_append]; omega
    · rw [mem_yes hx, mem_yes (h n hx), List.length_append, List.length_append]
      simp only [List.length_singleton]; omega
theorem mem_strict {x y i : Nat} (h : ∀ t, x.testBit t = true → y.testBit t = true) (hx : x.testBit i = false) (hy : y.testBit i = true) {n : Nat} (hi : i < n) : (mem x n).length < (mem y n).length := by
  have h1 := mem_len_succ (n := n) hx
  rw [if_pos hi] at h1
  have h2 : (mem (x ||| 2 ^ i) n).length ≤ (mem y n).length := mem_mono fun t ht => by
    rw [Nat.testBit_or, Bool.or_eq_true, Nat.testBit_two_pow, decide_eq_true_iff] at ht
    rcases ht with ht | ht
    · exact h t ht
    · subst ht; exact hy
  omega

/-- point i is free: it is not placed, and all before it are -/
theorem free_iff {n : Nat} {f : Nat → Nat} {p i : Nat} (hn : n ≤ 64) (hi : i < n) (hp : p < 18446744073709551616) :
    freeB (transF n f) p i = true ↔ p.testBit i = false ∧ ∀ j, j < n → (f j).testBit i = true → j = i ∨ p.testBit j = true := by
  have hu : transF n f i < 18446744073709551616 := trN_u hn
  have hz : ∀ x : Nat, x = 0 ↔ ∀ t, x.testBit t = false := fun x =>
    ⟨fun h t => by subst h; simp, fun h => Nat.eq_of_testBit_eq fun t => by rw [h t]; simp⟩
  rw [freeB, Bool.and_eq_true, Bool.not_eq_true', decide_eq_true_iff, hz]
  constructor
  · rintro ⟨h1, h2⟩
    refine ⟨h1, fun j hj hf => ?_⟩
    have h := h2 j
    rw [← Bool.not_eq_true, andN_bit (andN_u hu) (pow_lt64 (by omega)), andN_bit hu hp, transF_bit] at h
    by_cases e : j = i
    · exact .inl e
    · refine .inr ?_
      cases hpj : p.testBit j
      · exfalso
        apply h
        exact ⟨⟨⟨hj, hf⟩, hpj⟩, by rw [Nat.testBit_two_pow]; simp; omega⟩
      · rfl
  · rintro ⟨h1, h2⟩
    refine ⟨h1, fun t => ?_⟩
    rw [← Bool.not_eq_true, andN_bit (andN_u hu) (pow_lt64 (by omega)), andN_bit hu hp, transF_bit]
    rintro ⟨⟨⟨ht, hf⟩, hpt⟩, hti⟩
    rcases h2 t ht hf with e | e
    · subst e; rw [Nat.testBit_two_pow_self] at hti; cases hti
    · rw [e] at hpt; cases hpt
theorem next_free {b : Nat → Nat} {p n i : Nat} (h : nextO b p n = some i) : freeB b p i = true := List.find?_some h
theorem next_ne {b : Nat → Nat} {p n i : Nat} (hi : i < n) (h : freeB b p i = true) : ∃ j, nextO b p n = some j := by
  cases hx : nextO b p n with
  | some j => exact ⟨j, rfl⟩
  | none =>
    unfold nextO at hx
    rw [List.find?_eq_none] at hx
    exact absurd h (hx i (List.mem_range.2 hi))

section
variable {n : Nat} {f : Nat → Nat}
/-- what holds of the placed points -/
structure TopInv (n : Nat) (f : Nat → Nat) (k p : Nat) : Prop where
  u : p < 18446744073709551616
  cnt : (mem p n).length = k
  down : ∀ x, p.testBit x = true → ∀ y, y < n → (f y).testBit x = true → y = x ∨ p.testBit y = true
  anti : ∀ x, p.testBit x = true → ∀ y, y < n → (clF n f y).testBit x = true → (clF n f x).testBit y = true → x = y
theorem TopInv.cdown {k p : Nat} (h : TopInv n f k p) {x y : Nat} (hx : p.testBit x = true) (hy : y < n) (hc : (clF n f y).testBit x = true) : p.testBit y = true :=
  clF_pred (R := fun y x => p.testBit x = true → p.testBit y = true) (fun y hy x hf hx => by
    rcases h.down x hx y hy hf with e | e
    · rw [e]; exact hx
    · exact e) (fun i _ h => h) (fun i j t _ h1 h2 h3 => h1 (h2 h3)) hy hc hx
theorem TopInv.step {k p i : Nat} (hn : n ≤ 64) (h : TopInv n f k p) (hi : i < n) (hf : freeB (transF n f) p i = true) : TopInv n f (k + 1) (p ||| 2 ^ i) := by
  obtain ⟨h1, h2⟩ := (free_iff hn hi h.u).1 hf
  have hb : ∀ t, (p ||| 2 ^ i).testBit t = true ↔ p.testBit t = true ∨ i = t := fun t => by
    rw [Nat.testBit_or, Bool.or_eq_true, Nat.testBit_two_pow, decide_eq_true_iff]
  have down' : ∀ x, (p ||| 2 ^ i).testBit x = true → ∀ y, y < n → (f y).testBit x = true → y = x ∨ (p ||| 2 ^ i).testBit y = true := by
    intro x hx y hy hfy
    rcases (hb x).1 hx with hx | rfl
    · rcases h.down x hx y hy hfy with e | e
      · exact .inl e
      · exact .inr ((hb y).2 (.inl e))
    · rcases h2 y hy hfy with e | e
      · exact .inl e
      · exact .inr ((hb y).2 (.inl e))
  refine ⟨or_u h.u (pow_lt64 (by omega)), by rw [mem_len_succ h1, if_pos hi, h.cnt], down', ?_⟩
  intro x hx y hy hyx hxy
  rcases (hb x).1 hx with hx | rfl
  · exact h.anti x hx y hy hyx hxy
  · have hy' : (p ||| 2 ^ i).testBit y = true :=
      clF_pred (R := fun y x => (p ||| 2 ^ i).testBit x = true → (p ||| 2 ^ i).testBit y = true) (fun y hy x hf hx => by
        rcases down' x hx y hy hf with e | e
        · rw [e]; exact hx
        · exact e) (fun i _ h => h) (fun i j t _ h1 h2 h3 => h1 (h2 h3)) hy hyx hx
    rcases (hb y).1 hy' with hp | e
    · have := h.cdown hp hi hxy
      rw [h1] at this; cases this
    · exact e
theorem top_inv (hn : n ≤ 64) : ∀ {k : Nat} {l : List Nat} {p : Nat}, topN (transF n f) n k = some (l, p) → TopInv n f k p
  | 0, l, p, h => by
    simp only [topN, Option.some.injEq, Prod.mk.injEq] at h
    obtain ⟨rfl, rfl⟩ := h
    exact ⟨by decide, by simp [mem], fun x hx => by simp at hx, fun x hx => by simp at hx⟩
  | k + 1, l, p, h => by
    simp only [topN] at h
    cases h1 : topN (transF n f) n k with
    | none => rw [h1] at h; cases h
    | some q =>
      obtain ⟨l1, p1⟩ := q
      have ih := top_inv hn h1
      rw [h1] at h
      simp only at h
      cases h2 : nextO (transF n f) p1 n with
      | none => rw [h2] at h; cases h
      | some i =>
        rw [h2] at h
        simp only [Option.some.injEq, Prod.mk.injEq] at h
        obtain ⟨rfl, rfl⟩ := h
        exact ih.step hn (next_lt h2) (next_free h2)
theorem free_some (hv : valB n f = true) (hanti : ∀ i j, i < n → j < n → (clF n f i).testBit j = true → (clF n f j).testBit i = true → i = j) {p : Nat} (hp : p < 18446744073709551616) :
    ∀ m i, i < n → p.testBit i = false → (mem (transF n (clF n f) i) n).length ≤ m → ∃ j, j < n ∧ freeB (transF n f) p j = true
  | 0, i, hi, hpi, hm => by
    exfalso
    have h := mem_mono (x := 2 ^ i) (y := transF n (clF n f) i) (n := n) (fun t ht => by
      rw [Nat.testBit_two_pow, decide_eq_true_iff] at ht
      subst ht
      rw [transF_bit]; exact ⟨hi, clF_refl i⟩)
    have h2 := mem_len_succ (p := 0) (i := i) (n := n) (by simp)
    rw [if_pos hi, Nat.zero_or] at h2
    omega
  | m + 1, i, hi, hpi, hm => by
    have hn := (valB_iff.1 hv).1
    by_cases hf : freeB (transF n f) p i = true
    · exact ⟨i, hi, hf⟩
    · rw [free_iff hn hi hp] at hf
      have : ∃ j, j < n ∧ (f j).testBit i = true ∧ j ≠ i ∧ p.testBit j = false := by
        apply Classical.byContradiction
        intro hno
        apply hf
        refine ⟨hpi, fun j hj hfj => ?_⟩
        by_cases e : j = i
        · exact .inl e
        · refine .inr ?_
          cases hpj : p.testBit j
          · exact absurd ⟨j, hj, hfj, e, hpj⟩ hno
          · rfl
      obtain ⟨j, hj, hfj, hne, hpj⟩ := this
      have hji : (clF n f j).testBit i = true := clF_has hfj
      have hs := mem_strict (x := transF n (clF n f) j) (y := transF n (clF n f) i) (i := i) (n := n) (fun t ht => by
        rw [transF_bit] at ht ⊢
        exact ⟨ht.1, clF_trans hj ht.2 hji⟩) (by
          rw [← Bool.not_eq_true, transF_bit]
          rintro ⟨_, hij⟩
          exact hne (hanti j i hj hi hji hij)) (by rw [transF_bit]; exact ⟨hi, clF_refl i⟩) hi
      exact free_some hv hanti hp m j hj hpj (by omega)
theorem top_some (hv : valB n f = true) (hanti : ∀ i j, i < n → j < n → (clF n f i).testBit j = true → (clF n f j).testBit i = true → i = j) : ∀ k, k ≤ n → ∃ q, topN (transF n f) n k = some q
  | 0, _ => ⟨_, rfl⟩
  | k + 1, hk => by
    obtain ⟨⟨l, p⟩, h⟩ := top_some hv hanti k (by omega)
    have inv := top_inv (valB_iff.1 hv).1 h
    obtain ⟨i, hi, hpi⟩ := mem_some (p := p) (n := n) (by rw [inv.cnt]; omega)
    obtain ⟨j, hj, hf⟩ := free_some hv hanti inv.u _ i hi hpi (Nat.le_refl _)
    obtain ⟨t, ht⟩ := next_ne hj hf
    exact ⟨_, topN_step h ht⟩
/-- there is a topological order exactly if every component is a single point -/
theorem top_iff (hv : valB n f = true) : topB (transF n f) n = true ↔ cntN n (clF n f) n = n := by
  rw [cnt_anti (clF_pre hv), topB]
  constructor
  · intro h
    cases ht : topN (transF n f) n n with
    | none => rw [ht] at h; cases h
    | some q =>
      obtain ⟨l, p⟩ := q
      have inv := top_inv (valB_iff.1 hv).1 ht
      have hall := mem_full inv.cnt
      intro i j hi hj h1 h2
      exact (inv.anti j (hall j hj) i hi h1 h2).symm
  · intro h
    obtain ⟨q, hq⟩ := top_some hv h n (Nat.le_refl _)
    rw [hq]; rfl
end
end Go.Proofs.YtbmbgdfnhbkelaaDoor
