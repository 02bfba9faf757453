/- Plain facts on partitions whose lists are functions: no Go, no program. -/
import Derived.WalkKit
import Derived.Below
import Derived.OwnWalk
import Derived.OpenShut
import Derived.Deep.Draws
import Derived.Deep.QuietTactic
import Derived.BigQuiet
import Derived.Lib.Hide
import Derived.Maps.OwnSet
namespace Go.Proofs.Ytfgpjkkdgjhkfaa
open Go Go.RowKit
set_option linter.unusedVariables false

/-! ### first positions -/
/-- the first of the first k positions with the value x; k if there is none -/
def fnd (f : Nat → Int) (x : Int) : Nat → Nat
  | 0 => 0
  | k + 1 => if fnd f x k < k then fnd f x k else if f k = x then k else k + 1
theorem fnd_le (f : Nat → Int) (x : Int) : ∀ k, fnd f x k ≤ k
  | 0 => Nat.le_refl _
  | k + 1 => by have := fnd_le f x k; rw [fnd]; split <;> (try split) <;> omega
theorem fnd_val {f : Nat → Int} {x : Int} : ∀ {k}, fnd f x k < k → f (fnd f x k) = x
  | 0, h => by simp at h
  | k + 1, h => by
    rw [fnd] at h ⊢
    split
    · rename_i h1; exact fnd_val h1
    · rename_i h1
      rw [if_neg h1] at h
      split
      · assumption
      · rename_i h2; rw [if_neg h2] at h; omega
theorem fnd_min {f : Nat → Int} {x : Int} : ∀ {k j}, j < fnd f x k → f j ≠ x
  | 0, j, h => by simp [fnd] at h
  | k + 1, j, h => by
    rw [fnd] at h
    split at h
    · exact fnd_min h
    · rename_i h1
      have hk : fnd f x k = k := by have := fnd_le f x k; omega
      split at h
      · exact fnd_min (k := k) (by omega)
      · rename_i h2
        by_cases e : j = k
        · subst e; exact h2
        · exact fnd_min (k := k) (by omega)
theorem fnd_lt {f : Nat → Int} {x : Int} {k j : Nat} (hj : j < k) (h : f j = x) : fnd f x k ≤ j := by
  apply Nat.le_of_not_lt; intro h1; exact fnd_min h1 h
/-- the first position with the value of position i -/
def fst (f : Nat → Int) (i : Nat) : Nat := fnd f (f i) i
theorem fst_le (f : Nat → Int) (i : Nat) : fst f i ≤ i := fnd_le _ _ _
theorem fst_val (f : Nat → Int) (i : Nat) : f (fst f i) = f i := by
  by_cases h : fst f i < i
  · exact fnd_val h
  · have : fst f i = i := by have := fst_le f i; omega
    rw [this]
theorem fst_min {f : Nat → Int} {i j : Nat} (h : j < fst f i) : f j ≠ f i := fnd_min h
theorem fst_least {f : Nat → Int} {i j : Nat} (h : f j = f i) : fst f i ≤ j := by
  apply Nat.le_of_not_lt; intro h1; exact fst_min h1 h
theorem fst_eq {f : Nat → Int} {i j : Nat} (h : f i = f j) : fst f i = fst f j := by
  have h1 : fst f i ≤ fst f j := fst_least (by rw [fst_val f, h])
  have h2 : fst f j ≤ fst f i := fst_least (by rw [fst_val f, h])
  omega
theorem fst_fst (f : Nat → Int) (i : Nat) : fst f (fst f i) = fst f i := fst_eq (fst_val f i)
theorem fst_iff {f : Nat → Int} {i j : Nat} : fst f i = fst f j ↔ f i = f j :=
  ⟨fun h => by rw [← fst_val f i, h, fst_val f], fst_eq⟩

/-! ### numbers of classes -/
/-- how many classes the first i points meet -/
def cls (f : Nat → Int) : Nat → Nat
  | 0 => 0
  | i + 1 => if fst f i = i then cls f i + 1 else cls f i
theorem cls_yes {f : Nat → Int} {i : Nat} (h : fst f i = i) : cls f (i + 1) = cls f i + 1 := by rw [cls, if_pos h]
theorem cls_no {f : Nat → Int} {i : Nat} (h : fst f i ≠ i) : cls f (i + 1) = cls f i := by rw [cls, if_neg h]
theorem cls_le (f : Nat → Int) : ∀ i, cls f i ≤ i
  | 0 => Nat.le_refl _
  | i + 1 => by have := cls_le f i; rw [cls]; split <;> omega
theorem cls_mono {f : Nat → Int} {i : Nat} : ∀ {j}, i ≤ j → cls f i ≤ cls f j
  | 0, h => by
    have e : i = 0 := by omega
    rw [e]; exact Nat.le_refl _
  | j + 1, h => by
    by_cases e : i = j + 1
    · subst e; exact Nat.le_refl _
    · have := cls_mono (f := f) (i := i) (j := j) (by omega)
      rw [cls]; split <;> omega
theorem cls_lt {f : Nat → Int} {i j : Nat} (h : fst f i = i) (hj : i < j) : cls f i < cls f j := by
  have := cls_mono (f := f) (show i + 1 ≤ j from hj)
  rw [cls_yes h] at this; omega
/-- the number of the class of a point -/
def canN (f : Nat → Int) (i : Nat) : Nat := cls f (fst f i)
/-- the canonical form -/
def can (f : Nat → Int) (i : Nat) : Int := (canN f i : Int)
theorem canN_lt {f : Nat → Int} {i n : Nat} (h : i < n) : canN f i < cls f n := cls_lt (fst_fst f i) (by have := fst_le f i; omega)
theorem canN_le (f : Nat → Int) (i : Nat) : canN f i ≤ i := by have := canN_lt (f := f) (show i < i + 1 by omega); have := cls_le f (i + 1); omega
theorem canN_new {f : Nat → Int} {i : Nat} (h : fst f i = i) : canN f i = cls f i := by rw [canN, h]
theorem canN_old {f : Nat → Int} {i : Nat} (h : fst f i ≠ i) : canN f i < cls f i := cls_lt (fst_fst f i) (by have := fst_le f i; omega)
theorem canN_inj {f : Nat → Int} {i j : Nat} : canN f i = canN f j ↔ f i = f j := by
  refine ⟨fun h => ?_, fun h => by rw [canN, canN, fst_eq h]⟩
  rw [← fst_iff]
  rcases Nat.lt_trichotomy (fst f i) (fst f j) with h1 | h1 | h1
  · have := cls_lt (fst_fst f i) h1; unfold canN at h; omega
  · exact h1
  · have := cls_lt (fst_fst f j) h1; unfold canN at h; omega
theorem can_inj {f : Nat → Int} {i j : Nat} : can f i = can f j ↔ f i = f j := by rw [← canN_inj (f := f)]; unfold can; omega
theorem cls_surj {f : Nat → Int} : ∀ {i c}, c < cls f i → ∃ j, j < i ∧ fst f j = j ∧ cls f j = c
  | 0, c, h => by simp [cls] at h
  | i + 1, c, h => by
    by_cases e : c < cls f i
    · obtain ⟨j, h1, h2⟩ := cls_surj e; exact ⟨j, by omega, h2⟩
    · by_cases hn : fst f i = i
      · rw [cls_yes hn] at h; exact ⟨i, by omega, hn, by omega⟩
      · rw [cls_no hn] at h; omega
/-- the same pattern of equal values -/
def Pat (n : Nat) (f g : Nat → Int) : Prop := ∀ i j, i < n → j < n → (f i = f j ↔ g i = g j)
theorem Pat.symm {n : Nat} {f g : Nat → Int} (h : Pat n f g) : Pat n g f := fun i j hi hj => (h i j hi hj).symm
theorem Pat.refl (n : Nat) (f : Nat → Int) : Pat n f f := fun _ _ _ _ => Iff.rfl
theorem Pat.trans {n : Nat} {f g h : Nat → Int} (a : Pat n f g) (b : Pat n g h) : Pat n f h := fun i j hi hj => (a i j hi hj).trans (b i j hi hj)
theorem pat_can (n : Nat) (f : Nat → Int) : Pat n (can f) f := fun i j _ _ => can_inj
theorem pat_fst {n : Nat} {f g : Nat → Int} (h : Pat n f g) {i : Nat} (hi : i < n) : fst f i = fst g i := by
  have a := fst_le f i
  have b := fst_le g i
  have h1 : fst g i ≤ fst f i := fst_least ((h _ i (by omega) hi).1 (fst_val f i))
  have h2 : fst f i ≤ fst g i := fst_least ((h _ i (by omega) hi).2 (fst_val g i))
  omega
theorem pat_cls {n : Nat} {f g : Nat → Int} (h : Pat n f g) : ∀ {i : Nat}, i ≤ n → cls f i = cls g i
  | 0, _ => rfl
  | i + 1, hi => by rw [cls, cls, pat_fst h hi, pat_cls h (Nat.le_of_succ_le hi)]
theorem pat_canN {n : Nat} {f g : Nat → Int} (h : Pat n f g) {i : Nat} (hi : i < n) : canN f i = canN g i := by
  unfold canN
  rw [pat_fst h hi]
  exact pat_cls h (by have := fst_le g i; omega)
theorem pat_eq {n : Nat} {f g : Nat → Int} (h : Pat n f g) {i : Nat} (hi : i < n) : can f i = can g i := by
  unfold can; rw [pat_canN h hi]
theorem pat_of {n : Nat} {f g : Nat → Int} (h : ∀ i, i < n → f i = g i) : Pat n f g := fun i j hi hj => by rw [h i hi, h j hj]
theorem can_can (f : Nat → Int) (i : Nat) : can (can f) i = can f i := pat_eq (pat_can (i + 1) f) (by omega)

/-! ### valid partitions -/
def valP (n : Nat) (f : Nat → Int) : Bool := decide (n ≤ 4096) && (List.range n).all fun i => f i == can f i
theorem valP_iff {n : Nat} {f : Nat → Int} : valP n f = true ↔ n ≤ 4096 ∧ ∀ i, i < n → f i = can f i := by
  simp [valP, List.all_eq_true]
theorem valP_long {n : Nat} {f : Nat → Int} (h : 4096 < n) : valP n f = false := by
  rw [← Bool.not_eq_true, valP_iff]; omega
theorem valP_not {n i : Nat} {f : Nat → Int} (hi : i < n) (h : f i ≠ can f i) : valP n f = false := by
  rw [← Bool.not_eq_true, valP_iff]; exact fun h2 => h (h2.2 i hi)
theorem valP_can {n : Nat} (hn : n ≤ 4096) (f : Nat → Int) : valP n (can f) = true := valP_iff.2 ⟨hn, fun i _ => (can_can f i).symm⟩
theorem valP_congr {n : Nat} {f g : Nat → Int} (h : ∀ i, i < n → f i = g i) : valP n f = valP n g := by
  rw [Bool.eq_iff_iff, valP_iff, valP_iff]
  refine and_congr_right fun _ => forall_congr' fun i => ?_
  refine forall_congr' fun hi => ?_
  rw [h i hi, pat_eq (pat_of h) hi]
theorem valP_same {n : Nat} {f g : Nat → Int} (hf : valP n f = true) (hg : valP n g = true) (h : Pat n f g) {i : Nat} (hi : i < n) : f i = g i := by
  rw [(valP_iff.1 hf).2 i hi, (valP_iff.1 hg).2 i hi, pat_eq h hi]
/-- what the check of one position finds -/
theorem pre_ok {f : Nat → Int} {i : Nat} (h : ∀ j, j < i → f j = can f j) (h0 : 0 ≤ f i) (h1 : f i ≤ (cls f i : Int)) : f i = can f i := by
  by_cases e : f i = (cls f i : Int)
  · have hn : fst f i = i := by
      apply Classical.byContradiction; intro hc
      have hl := fst_le f i
      have h2 := h (fst f i) (by omega)
      rw [fst_val f, e] at h2
      have h3 := canN_lt (f := f) (show fst f i < i by omega)
      unfold can at h2
      omega
    rw [can, canN_new hn, e]
  · obtain ⟨j, hj, hn, hc⟩ := cls_surj (f := f) (i := i) (c := (f i).toNat) (by omega)
    have h2 := h j hj
    have h3 : f j = f i := by rw [h2, can, canN_new hn, hc]; omega
    rw [← can_inj.2 h3, ← h2, h3]
theorem ok_pre {f : Nat → Int} {i : Nat} (h : f i = can f i) : 0 ≤ f i ∧ f i ≤ (cls f i : Int) := by
  rw [h, can]
  by_cases e : fst f i = i
  · rw [canN_new e]; omega
  · have := canN_old e; omega
theorem ok_new {f : Nat → Int} {i : Nat} (h : f i = can f i) : f i = (cls f i : Int) ↔ fst f i = i := by
  rw [h, can]
  by_cases e : fst f i = i
  · rw [canN_new e]; simp [e]
  · have := canN_old e; simp only [e, iff_false]; omega

/-! ### least points -/
def leastL (f : Nat → Int) : Nat → List Nat
  | 0 => []
  | i + 1 => if fst f i = i then leastL f i ++ [i] else leastL f i
theorem leastL_length (f : Nat → Int) : ∀ i, (leastL f i).length = cls f i
  | 0 => rfl
  | i + 1 => by rw [leastL, cls]; split <;> simp [leastL_length f i]
theorem leastL_at {f : Nat → Int} {j : Nat} (hn : fst f j = j) : ∀ {n}, j < n → (leastL f n)[cls f j]? = some j
  | 0, h => by omega
  | n + 1, h => by
    rw [leastL]
    by_cases e : j = n
    · subst e
      rw [if_pos hn, List.getElem?_append_right (by rw [leastL_length]; exact Nat.le_refl _), leastL_length]
      simp
    · have := leastL_at hn (n := n) (by omega)
      have hlt := cls_lt hn (show j < n by omega)
      split
      · rw [List.getElem?_append_left (by rw [leastL_length]; exact hlt)]; exact this
      · exact this
theorem leastL_get {f : Nat → Int} {i n : Nat} (h : i < n) : (leastL f n)[canN f i]? = some (fst f i) :=
  leastL_at (fst_fst f i) (by have := fst_le f i; omega)

/-! ### refinement -/
def refB (n : Nat) (p q : Nat → Int) : Bool := (List.range n).all fun i => q i == q (fst p i)
theorem refB_iff0 {n : Nat} {p q : Nat → Int} : refB n p q = true ↔ ∀ i, i < n → q i = q (fst p i) := by simp [refB, List.all_eq_true]
theorem refB_iff {n : Nat} {p q : Nat → Int} : refB n p q = true ↔ ∀ i j, i < n → j < n → p i = p j → q i = q j := by
  rw [refB_iff0]
  refine ⟨fun h i j hi hj e => ?_, fun h i hi => h i _ hi (by have := fst_le p i; omega) (fst_val p i).symm⟩
  rw [h i hi, h j hj, fst_eq e]
theorem refB_no {n i j : Nat} {p q : Nat → Int} (hi : i < n) (hj : j < n) (e : p i = p j) (h : q i ≠ q j) : refB n p q = false := by
  rw [← Bool.not_eq_true, refB_iff]; exact fun h2 => h (h2 i j hi hj e)
theorem refB_pat {n : Nat} {p q : Nat → Int} (h1 : refB n p q = true) (h2 : refB n q p = true) : Pat n p q :=
  fun i j hi hj => ⟨refB_iff.1 h1 i j hi hj, refB_iff.1 h2 i j hi hj⟩
theorem refB_trans {n : Nat} {p q r : Nat → Int} (h1 : refB n p q = true) (h2 : refB n q r = true) : refB n p r = true :=
  refB_iff.2 fun i j hi hj e => refB_iff.1 h2 i j hi hj (refB_iff.1 h1 i j hi hj e)
theorem refB_pl {n : Nat} {p p' q : Nat → Int} (h : Pat n p p') : refB n p q = refB n p' q := by
  rw [Bool.eq_iff_iff, refB_iff, refB_iff]
  exact ⟨fun k i j hi hj e => k i j hi hj ((h i j hi hj).2 e), fun k i j hi hj e => k i j hi hj ((h i j hi hj).1 e)⟩
theorem refB_pr {n : Nat} {p q q' : Nat → Int} (h : Pat n q q') : refB n p q = refB n p q' := by
  rw [Bool.eq_iff_iff, refB_iff, refB_iff]
  exact ⟨fun k i j hi hj e => (h i j hi hj).1 (k i j hi hj e), fun k i j hi hj e => (h i j hi hj).2 (k i j hi hj e)⟩

/-! ### maps from values to numbers of classes -/
def mapF (H : Type) (f : Nat → Int) : Nat → DataW H
  | 0 => .map []
  | i + 1 => if fst f i = i then (mapF H f i).put (.int .i64 (f i)) (.lit (.int .i64 (cls f i))) else mapF H f i
theorem keyI (x : Int) : WideAt.IsKeyLit (.int .i64 x) := trivial
theorem mapF_isMap (H : Type) (f : Nat → Int) : ∀ i, Maps.IsMap (mapF H f i)
  | 0 => Maps.isMap_empty
  | i + 1 => by rw [mapF]; split; exact (mapF_isMap H f i).put _ _; exact mapF_isMap H f i
theorem mapF_tidy (H : Type) (f : Nat → Int) : ∀ i, Maps.Tidy (mapF H f i)
  | 0 => Maps.tidy_empty
  | i + 1 => by rw [mapF]; split; exact (mapF_tidy H f i).put (keyI _) _; exact mapF_tidy H f i
theorem mapF_has (H : Type) (f : Nat → Int) (x : Int) : ∀ i, Maps.has (mapF H f i) (.int .i64 x) = decide (fnd f x i < i)
  | 0 => rfl
  | i + 1 => by
    have ih := mapF_has H f x i
    have hl := fnd_le f x i
    rw [mapF, fnd]
    by_cases hx : f i = x
    · by_cases h1 : fnd f x i < i
      · have hn : fst f i ≠ i := by unfold fst; rw [hx]; omega
        rw [if_neg hn, if_pos h1, ih]; simp only [decide_eq_decide]; omega
      · have hn : fst f i = i := by unfold fst; rw [hx]; omega
        rw [if_pos hn, if_neg h1, if_pos hx, hx, Maps.has_put_same (mapF_isMap H f i) (keyI _)]; simp
    · rw [if_neg hx]
      have hne : (Lit.int .i64 x) ≠ .int .i64 (f i) := fun e => hx (by injection e with _ e2; exact e2.symm)
      by_cases h1 : fnd f x i < i
      · rw [if_pos h1]
        split
        · rw [Maps.has_put_other hne, ih]; simp only [decide_eq_decide]; omega
        · rw [ih]; simp only [decide_eq_decide]; omega
      · rw [if_neg h1]
        split
        · rw [Maps.has_put_other hne, ih]; simp only [decide_eq_decide]; omega
        · rw [ih]; simp only [decide_eq_decide]; omega
theorem mapF_at (H : Type) (f : Nat → Int) (x : Int) (z : DataW H) : ∀ i, fnd f x i < i → (mapF H f i).atKey (.int .i64 x) z = .lit (.int .i64 (cls f (fnd f x i)))
  | 0, h => by simp at h
  | i + 1, h => by
    have hl := fnd_le f x i
    rw [mapF]
    rw [fnd] at h ⊢
    by_cases h1 : fnd f x i < i
    · rw [if_pos h1]
      split
      · rename_i hn
        have hne : (Lit.int .i64 x) ≠ .int .i64 (f i) := fun e => by
          injection e with _ e2
          unfold fst at hn; rw [← e2] at hn; omega
        rw [Maps.atKey_put_other hne]
        exact mapF_at H f x z i h1
      · exact mapF_at H f x z i h1
    · rw [if_neg h1] at h ⊢
      by_cases hx : f i = x
      · rw [if_pos hx] at h ⊢
        have hn : fst f i = i := by unfold fst; rw [hx]; omega
        rw [if_pos hn, hx, Maps.atKey_put_same (mapF_isMap H f i) (keyI _)]
      · rw [if_neg hx] at h; omega
theorem mapF_size (H : Type) (f : Nat → Int) : ∀ i, Maps.size (mapF H f i) = cls f i
  | 0 => rfl
  | i + 1 => by
    rw [mapF, cls]
    split
    · rename_i hn
      rw [Maps.size_put (mapF_tidy H f i), mapF_has, mapF_size H f i]
      have : ¬ fnd f (f i) i < i := by unfold fst at hn; omega
      simp [this]
    · exact mapF_size H f i
theorem mapF_yes (H : Type) {f : Nat → Int} {i : Nat} (h : fst f i = i) : mapF H f (i + 1) = (mapF H f i).put (.int .i64 (f i)) (.lit (.int .i64 (cls f i))) := by rw [mapF, if_pos h]
theorem mapF_no (H : Type) {f : Nat → Int} {i : Nat} (h : fst f i ≠ i) : mapF H f (i + 1) = mapF H f i := by rw [mapF, if_neg h]
theorem mapF_known (H : Type) (f : Nat → Int) (i : Nat) : Maps.has (mapF H f i) (.int .i64 (f i)) = decide (fst f i ≠ i) := by
  rw [mapF_has]; have := fst_le f i; unfold fst at *; simp only [decide_eq_decide]; omega
theorem mapF_old (H : Type) {f : Nat → Int} {i : Nat} (h : fst f i ≠ i) (z : DataW H) : (mapF H f i).atKey (.int .i64 (f i)) z = .lit (.int .i64 (can f i)) :=
  mapF_at H f (f i) z i (by have := fst_le f i; unfold fst at *; omega)
end Go.Proofs.Ytfgpjkkdgjhkfaa
