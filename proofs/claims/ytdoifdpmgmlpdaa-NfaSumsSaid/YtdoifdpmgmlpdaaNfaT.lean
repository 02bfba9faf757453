/- Facts: the runs of a disjoint union. -/
import Derived.Test.YtdoifdpmgmlpdaaNfaS
namespace Go.Proofs.Ytdoifdpmgmlpdaa
set_option linter.unusedVariables false
def shE (n : Nat) (e : Ed) : Ed := ⟨(n : Int) + e.f, e.l, (n : Int) + e.t⟩
def sumE (n : Nat) (a b : List Ed) : List Ed := a ++ b.map (shE n)
def Split (n : Nat) (c a b : Nat → Nat) : Prop := ∀ q, c q = if q < n then a q else b (q - n)
theorem Split.longA {n : Nat} {c a b acc aa ab : Nat → Nat} {x : Int} (h : Split n c a b) (h2 : Split n acc aa ab) {e : Ed} (he : 0 ≤ e.f ∧ 0 ≤ e.t ∧ e.f.toNat < n ∧ e.t.toNat < n) : Split n (longE c x acc e) (longE a x aa e) ab := by
  intro q
  have h3 := h e.f.toNat
  rw [if_pos he.2.2.1] at h3
  have h4 := h2 q
  unfold longE
  by_cases hl : e.l = x
  · rw [if_pos hl, if_pos hl]
    rw [h3, h4]
    by_cases hq : q = e.t.toNat
    · have : q < n := by omega
      simp only [hq, if_true, he.2.2.2]
    · simp only [hq, if_false]
  · rw [if_neg hl, if_neg hl]; exact h4
theorem Split.longB {n : Nat} {c a b acc aa ab : Nat → Nat} {x : Int} (h : Split n c a b) (h2 : Split n acc aa ab) {e : Ed} (he : 0 ≤ e.f ∧ 0 ≤ e.t) : Split n (longE c x acc (shE n e)) aa (longE b x ab e) := by
  intro q
  have e1 : (shE n e).f.toNat = n + e.f.toNat := by simp only [shE]; omega
  have e2 : (shE n e).t.toNat = n + e.t.toNat := by simp only [shE]; omega
  have h3 := h (n + e.f.toNat)
  rw [if_neg (by omega), Nat.add_sub_cancel_left] at h3
  have h4 := h2 q
  unfold longE
  rw [e1, e2, show (shE n e).l = e.l from rfl]
  by_cases hl : e.l = x
  · rw [if_pos hl, if_pos hl]
    rw [h3, h4]
    by_cases hq : q = n + e.t.toNat
    · have : ¬ q < n := by omega
      have e3 : q - n = e.t.toNat := by omega
      simp only [hq, if_true, Nat.add_sub_cancel_left, if_neg (show ¬ n + e.t.toNat < n by omega)]
    · simp only [hq, if_false]
      by_cases hn : q < n
      · simp only [hn, if_true]
      · rw [if_neg hn, if_neg hn, if_neg (by omega)]
  · rw [if_neg hl, if_neg hl]; exact h4
theorem Split.long {n : Nat} {ea eb : List Ed} (ha : ToB n ea) {m : Nat} (hb : ToB m eb) {c a b : Nat → Nat} {x : Int} (h : Split n c a b) : Split n (longL (sumE n ea eb) c x) (longL ea a x) (longL eb b x) := by
  have first : ∀ (es : List Ed) (acc aa ab : Nat → Nat), ToB n es → Split n acc aa ab → Split n (es.foldl (longE c x) acc) (es.foldl (longE a x) aa) ab := by
    intro es
    induction es with
    | nil => intro acc aa ab _ h; exact h
    | cons e es ih => intro acc aa ab h1 h2; exact ih _ _ _ (fun e' he' => h1 e' (by simp [he'])) (h.longA h2 (h1 e (by simp)))
  have second : ∀ (es : List Ed) (acc aa ab : Nat → Nat), ToB m es → Split n acc aa ab → Split n ((es.map (shE n)).foldl (longE c x) acc) aa (es.foldl (longE b x) ab) := by
    intro es
    induction es with
    | nil => intro acc aa ab _ h; exact h
    | cons e es ih => intro acc aa ab h1 h2; exact ih _ _ _ (fun e' he' => h1 e' (by simp [he'])) (h.longB h2 ⟨(h1 e (by simp)).1, (h1 e (by simp)).2.1⟩)
  unfold longL sumE
  rw [List.foldl_append]
  exact second eb _ _ _ hb (first ea _ _ _ ha (fun q => by split <;> rfl))
theorem Split.word {n : Nat} {ea eb : List Ed} (ha : ToB n ea) {m : Nat} (hb : ToB m eb) : ∀ (w : List Int) {c a b : Nat → Nat}, Split n c a b → Split n (longW (sumE n ea eb) w c) (longW ea w a) (longW eb w b)
  | [], _, _, _, h => h
  | x :: w, _, _, _, h => Split.word ha hb w (h.long ha hb)
theorem or_shl_bit {a b n q : Nat} (ha : a < 2 ^ n) : (a ||| b * 2 ^ n).testBit q = if q < n then a.testBit q else b.testBit (q - n) := by
  rw [Nat.testBit_or, Nat.mul_comm, Nat.testBit_two_pow_mul]
  by_cases h : q < n
  · rw [if_pos h, decide_eq_false (by omega), Bool.false_and, Bool.or_false]
  · rw [if_neg h, Nat.testBit_lt_two_pow (Nat.lt_of_lt_of_le ha (Nat.pow_le_pow_right (by decide) (by omega))), decide_eq_true (by omega), Bool.true_and, Bool.false_or]
theorem split_cnt {a b n : Nat} (ha : a < 2 ^ n) : Split n (cntS (a ||| b * 2 ^ n)) (cntS a) (cntS b) := by
  intro q
  unfold cntS
  rw [or_shl_bit ha]
  by_cases h : q < n
  · simp only [h, if_true]
  · simp only [h, if_false]
theorem sumF_low {a b n : Nat} (ha : a < 2 ^ n) {c x y : Nat → Nat} (h : Split n c x y) : ∀ k, k ≤ n → sumF (a ||| b * 2 ^ n) c k = sumF a x k
  | 0, _ => rfl
  | k + 1, hk => by
    have ih := sumF_low (b := b) ha h k (by omega)
    unfold sumF
    rw [or_shl_bit ha, if_pos (show k < n by omega), ih, h k, if_pos (show k < n by omega)]
theorem satR_sat (A x : Nat) : satR (A + satR x) = satR (A + x) := by unfold satR; omega
theorem satR_sat' (A x y : Nat) : satR (satR (A + x) + y) = satR (A + satR (x + y)) := by unfold satR; omega
theorem satR_of_le {x : Nat} (h : x ≤ 2147483648) : satR x = x := by unfold satR; omega
theorem sumF_succ (fi : Nat) (c : Nat → Nat) (k : Nat) : sumF fi c (k + 1) = if fi.testBit k then satR (sumF fi c k + c k) else sumF fi c k := rfl
theorem sumF_high {a b n : Nat} (ha : a < 2 ^ n) {c x y : Nat → Nat} (h : Split n c x y) : ∀ k, sumF (a ||| b * 2 ^ n) c (n + k) = satR (sumF a x n + sumF b y k)
  | 0 => by rw [Nat.add_zero, sumF_low (b := b) ha h n (Nat.le_refl _)]; simp only [sumF, Nat.add_zero]; rw [satR_of_le (sumF_le _ _ _)]
  | k + 1 => by
    have ih := sumF_high (b := b) ha h k
    rw [← Nat.add_assoc, sumF_succ, sumF_succ, or_shl_bit ha, if_neg (show ¬ n + k < n by omega), Nat.add_sub_cancel_left, ih, h (n + k), if_neg (show ¬ n + k < n by omega), Nat.add_sub_cancel_left]
    by_cases hb : b.testBit k = true
    · rw [if_pos hb, if_pos hb, satR_sat']
    · rw [if_neg hb, if_neg hb]
theorem runs_sum {ea eb : List Ed} {n m sa fa sb fb : Nat} (ha : ToB n ea) (hb : ToB m eb) (hsa : sa < 2 ^ n) (hfa : fa < 2 ^ n) (w : List Int) :
    runsN (sumE n ea eb) (n + m) (sa ||| sb * 2 ^ n) (fa ||| fb * 2 ^ n) w = min (runsN ea n sa fa w + runsN eb m sb fb w) 2147483648 := by
  unfold runsN
  rw [sumF_high hfa (Split.word ha hb w (split_cnt hsa))]
  rfl
end Go.Proofs.Ytdoifdpmgmlpdaa
