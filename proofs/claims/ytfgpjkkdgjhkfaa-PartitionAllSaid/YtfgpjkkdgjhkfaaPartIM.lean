/- Facts: all partitions of few points, in order. No Go. -/
import Derived.Test.YtfgpjkkdgjhkfaaPartE
namespace Go.Proofs.Ytfgpjkkdgjhkfaa
open Go Go.RowKit Go.Maps
set_option linter.unusedVariables false


theorem getN_app {p : List Nat} {c i : Nat} (h : i < p.length) : getN (p ++ [c]) i = getN p i := by
  unfold getN; rw [List.getD_eq_getElem?_getD, List.getD_eq_getElem?_getD, List.getElem?_append_left h]
theorem getN_last (p : List Nat) (c : Nat) : getN (p ++ [c]) p.length = (c : Int) := by
  unfold getN; rw [List.getD_eq_getElem?_getD, List.getElem?_append_right (Nat.le_refl _)]; simp
/-- the number of classes -/
def cntL (p : List Nat) : Nat := cls (getN p) p.length
def extL (p : List Nat) : List (List Nat) := (List.range (cntL p + 1)).map fun c => p ++ [c]
/-- all partitions of n points -/
def allN : Nat → List (List Nat)
  | 0 => [[]]
  | n + 1 => (allN n).flatMap extL
/-- a valid partition of n points -/
def Good (n : Nat) (p : List Nat) : Prop := p.length = n ∧ ∀ i, i < n → getN p i = can (getN p) i
theorem cntL_le (p : List Nat) : cntL p ≤ p.length := cls_le _ _
theorem good_ext {n c : Nat} {p : List Nat} (h : Good n p) (hc : c ≤ cntL p) : Good (n + 1) (p ++ [c]) := by
  obtain ⟨h1, h2⟩ := h
  refine ⟨by simp [h1], ?_⟩
  have hpat : Pat n (getN (p ++ [c])) (getN p) := pat_of fun i hi => getN_app (by omega)
  have hpre : ∀ i, i < n → getN (p ++ [c]) i = can (getN (p ++ [c])) i := fun i hi => by
    rw [pat_eq hpat hi, getN_app (by omega)]; exact h2 i hi
  intro i hi
  by_cases e : i < n
  · exact hpre i e
  · obtain rfl : i = n := by omega
    have hl : getN (p ++ [c]) i = (c : Int) := by rw [← h1]; exact getN_last p c
    refine pre_ok hpre (by rw [hl]; omega) ?_
    rw [hl, pat_cls hpat (Nat.le_refl _)]
    unfold cntL at hc
    rw [h1] at hc
    omega
theorem allN_good : ∀ {n : Nat} {p : List Nat}, p ∈ allN n → Good n p
  | 0, p, h => by
    have : p = [] := by simpa [allN] using h
    subst this
    exact ⟨rfl, fun i hi => by omega⟩
  | n + 1, p, h => by
    obtain ⟨q, hq, hp⟩ := List.mem_flatMap.1 h
    obtain ⟨c, hc, rfl⟩ := List.mem_map.1 hp
    exact good_ext (allN_good hq) (by have := List.mem_range.1 hc; omega)
theorem good_val {n : Nat} {p : List Nat} (h : Good n p) (hn : n ≤ 4096) : valP n (getN p) = true := valP_iff.2 ⟨hn, h.2⟩
theorem good_le {n : Nat} {p : List Nat} (h : Good n p) {x : Nat} (hx : x ∈ p) : x ≤ n := by
  obtain ⟨i, hi⟩ := List.getElem?_of_mem hx
  have hlt : i < p.length := by
    apply Nat.lt_of_not_le; intro hle; rw [List.getElem?_eq_none hle] at hi; cases hi
  have h1 := h.2 i (by rw [← h.1]; exact hlt)
  rw [getN_at hi, can] at h1
  have := canN_le (getN p) i
  have := h.1
  omega
def fac : Nat → Nat
  | 0 => 1
  | n + 1 => fac n * (n + 1)
theorem allN_len : ∀ n, (allN n).length ≤ fac n
  | 0 => by simp [allN, fac]
  | n + 1 => by
    have ih := allN_len n
    have hb : ((allN n).flatMap extL).length ≤ (allN n).length * (n + 1) := by
      have key : ∀ l : List (List Nat), (∀ p ∈ l, (extL p).length ≤ n + 1) → (l.flatMap extL).length ≤ l.length * (n + 1) := by
        intro l
        induction l with
        | nil => simp
        | cons p l ih =>
          intro h
          rw [List.flatMap_cons, List.length_append, List.length_cons, Nat.succ_mul]
          have h1 := h p (by simp)
          have h2 := ih fun q hq => h q (by simp [hq])
          omega
      refine key _ fun p hp => ?_
      have h1 := (allN_good hp).1
      have h2 := cntL_le p
      unfold extL; simp; omega
    rw [allN]
    calc _ ≤ (allN n).length * (n + 1) := hb
      _ ≤ fac n * (n + 1) := Nat.mul_le_mul_right _ ih
/-! ### the order -/
def lessB (n : Nat) (f g : Nat → Int) : Bool := (List.range n).any fun i => ((List.range i).all fun j => f j == g j) && decide (f i < g i)
theorem lessB_iff {n : Nat} {f g : Nat → Int} : lessB n f g = true ↔ ∃ i, i < n ∧ (∀ j, j < i → f j = g j) ∧ f i < g i := by
  simp [lessB, List.any_eq_true, List.all_eq_true]
theorem lessB_at {n i : Nat} {f g : Nat → Int} (hi : i < n) (h : ∀ j, j < i → f j = g j) (hne : f i ≠ g i) : lessB n f g = decide (f i < g i) := by
  rw [Bool.eq_iff_iff, lessB_iff, decide_eq_true_iff]
  constructor
  · rintro ⟨k, hk, h1, h2⟩
    rcases Nat.lt_trichotomy k i with e | e | e
    · have := h k e; omega
    · subst e; exact h2
    · exact absurd (h1 i e) hne
  · exact fun h2 => ⟨i, hi, h, h2⟩
theorem lessB_eq {n : Nat} {f g : Nat → Int} (h : ∀ j, j < n → f j = g j) : lessB n f g = false := by
  rw [← Bool.not_eq_true, lessB_iff]
  rintro ⟨i, hi, _, h2⟩
  have := h i hi; omega
theorem allN_sorted : ∀ n, (allN n).Pairwise fun p q => lessB n (getN p) (getN q) = true
  | 0 => by simp [allN]
  | n + 1 => by
    rw [allN, List.pairwise_flatMap]
    refine ⟨fun p hp => ?_, ?_⟩
    · have hl := (allN_good hp).1
      unfold extL
      rw [List.pairwise_map]
      refine List.Pairwise.imp ?_ List.pairwise_lt_range
      intro c d hcd
      refine lessB_iff.2 ⟨n, by omega, fun j hj => ?_, ?_⟩
      · rw [getN_app (by omega), getN_app (by omega)]
      · have h1 := getN_last p c
        have h2 := getN_last p d
        rw [hl] at h1 h2
        rw [h1, h2]; omega
    · refine List.Pairwise.imp_of_mem ?_ (allN_sorted n)
      intro p q hp hq hpq x hx y hy
      have hpl := (allN_good hp).1
      have hql := (allN_good hq).1
      obtain ⟨c, _, rfl⟩ := List.mem_map.1 hx
      obtain ⟨d, _, rfl⟩ := List.mem_map.1 hy
      obtain ⟨i, hi, h1, h2⟩ := lessB_iff.1 hpq
      exact lessB_iff.2 ⟨i, by omega, fun j hj => by rw [getN_app (by omega), getN_app (by omega)]; exact h1 j hj, by rw [getN_app (by omega), getN_app (by omega)]; exact h2⟩
/-- the list of a partition -/
def canL (f : Nat → Int) (n : Nat) : List Nat := (List.range n).map (canN f)
theorem canL_len (f : Nat → Int) (n : Nat) : (canL f n).length = n := by simp [canL]
theorem canL_get {f : Nat → Int} {n i : Nat} (h : i < n) : getN (canL f n) i = can f i := by
  rw [getN_at (x := canN f i) (by simp [canL, h])]; rfl
theorem canL_mem (f : Nat → Int) : ∀ n, canL f n ∈ allN n
  | 0 => by simp [canL, allN]
  | n + 1 => by
    rw [allN, List.mem_flatMap]
    refine ⟨canL f n, canL_mem f n, ?_⟩
    unfold extL
    rw [List.mem_map]
    refine ⟨canN f n, ?_, by simp [canL, List.range_succ]⟩
    rw [List.mem_range]
    have h1 : cntL (canL f n) = cls f n := by
      unfold cntL
      rw [canL_len]
      exact pat_cls ((pat_of fun i hi => canL_get hi).trans (pat_can n f)) (Nat.le_refl n)
    rw [h1]
    by_cases e : fst f n = n
    · rw [canN_new e]; omega
    · have := canN_old e; omega
theorem same_canL {n : Nat} {f : Nat → Int} {q : List Nat} (hf : valP n f = true) (hq : q.length = n) : sameB n f n (getN q) = decide (q = canL f n) := by
  rw [Bool.eq_iff_iff, sameB_iff, decide_eq_true_iff]
  constructor
  · rintro ⟨_, h⟩
    apply List.ext_getElem?
    intro i
    by_cases hi : i < n
    · have h1 := h i hi
      rw [(valP_iff.1 hf).2 i hi, ← canL_get hi] at h1
      rw [List.getElem?_eq_getElem (by omega), List.getElem?_eq_getElem (by rw [canL_len]; exact hi)]
      rw [getN_at (List.getElem?_eq_getElem (by rw [canL_len]; exact hi)), getN_at (List.getElem?_eq_getElem (by omega))] at h1
      congr 1
      omega
    · rw [List.getElem?_eq_none (by omega), List.getElem?_eq_none (by rw [canL_len]; omega)]
  · rintro rfl
    exact ⟨rfl, fun j hj => by rw [canL_get hj]; exact (valP_iff.1 hf).2 j hj⟩
theorem good_canL {n : Nat} (f : Nat → Int) : Good n (canL f n) := allN_good (canL_mem f n)
/-- among the first i once it is there, it is not later -/
theorem once {n i : Nat} {p q : List Nat} (hi : (allN n)[i]? = some q) (hp : p ∈ (allN n).take i) : q ≠ p := by
  rintro rfl
  have hs := allN_sorted n
  have hlt : i < (allN n).length := by
    apply Nat.lt_of_not_le; intro hle; rw [List.getElem?_eq_none hle] at hi; cases hi
  obtain ⟨j, hj⟩ := List.getElem?_of_mem hp
  rw [List.getElem?_take] at hj
  split at hj
  · rename_i hji
    have h1 := List.pairwise_iff_getElem.1 hs j i (by omega) hlt hji
    rw [List.getElem?_eq_getElem hlt] at hi
    rw [List.getElem?_eq_getElem (by omega)] at hj
    rw [Option.some.inj hi, Option.some.inj hj] at h1
    rw [lessB_eq fun _ _ => rfl] at h1
    cases h1
  · cases hj
end Go.Proofs.Ytfgpjkkdgjhkfaa
