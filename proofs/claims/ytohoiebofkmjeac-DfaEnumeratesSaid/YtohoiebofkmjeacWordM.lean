/- Plain facts on words (lists of bytes): no Go, no program. -/
import Derived.WalkKit
import Derived.Laws.BytesArg
namespace Go.Proofs.Ytohoiebofkmjeac.wrd.WordM
open Go Go.RowKit
set_option maxRecDepth 100000

/-- The byte c is one of the first k letters. -/
def letB (k : Int) (c : UInt8) : Bool := decide (97 ≤ (c.toNat : Int)) && decide ((c.toNat : Int) < 97 + k)
/-- k is a number of letters. -/
def mayB (k : Int) : Bool := decide (1 ≤ k) && decide (k ≤ 6)
/-- l is a word over k letters. -/
def wordB (k : Int) (l : List UInt8) : Bool := mayB k && decide (l.length ≤ 2048) && l.all (letB k)

theorem mayB_true {k : Int} (h1 : 1 ≤ k) (h2 : k ≤ 6) : mayB k = true := by simp [mayB, h1, h2]
theorem mayB_false {k : Int} (h : k < 1 ∨ 6 < k) : mayB k = false := by simp [mayB]; omega
theorem mayB_iff {k : Int} : mayB k = true ↔ 1 ≤ k ∧ k ≤ 6 := by simp [mayB]
theorem letB_iff {k : Int} {c : UInt8} : letB k c = true ↔ 97 ≤ (c.toNat : Int) ∧ (c.toNat : Int) < 97 + k := by simp [letB]

theorem w64b (c : UInt8) : wrap64 (c.toNat : Int) = c.toNat := IntWalk.wrap64_in _ (by have := c.toNat_lt; omega)
theorem w8sub {c : UInt8} (h : 97 ≤ (c.toNat : Int)) : ((c.toNat : Int) - 97) % 256 = c.toNat - 97 := by have := c.toNat_lt; omega
theorem take_snoc (s : ByteArray) (k : Nat) (h : k < s.size) : s.data.toList.take (k + 1) = s.data.toList.take k ++ [s[k]] := by
  rw [List.take_succ_eq_append_getElem (by simpa using h)]; rfl
theorem take_all (s : ByteArray) (k : Nat) (h : s.size ≤ k) : s.data.toList.take k = s.data.toList := List.take_of_length_le (by simpa using h)

theorem all_snoc {p : UInt8 → Bool} {s : ByteArray} {k : Nat} (h : k < s.size) (ha : (s.data.toList.take k).all p = true) (hc : p s[k] = true) : (s.data.toList.take (k + 1)).all p = true := by
  rw [take_snoc s k h, List.all_append, ha]; simp [hc]
theorem not_all {p : UInt8 → Bool} {s : ByteArray} {k : Nat} (h : k < s.size) (hc : p s[k] = false) : s.data.toList.all p = false := by
  rw [← Bool.not_eq_true, List.all_eq_true]
  intro hall
  have := hall s[k] (by simp; exact Array.getElem_mem _)
  rw [hc] at this; cases this

theorem wordB_long {k : Int} {s : ByteArray} (h : 2048 < s.size) : wordB k s.data.toList = false := by
  have : ¬ s.data.toList.length ≤ 2048 := by simpa using h
  simp only [wordB, decide_eq_false this, Bool.and_false, Bool.false_and]
theorem wordB_may {k : Int} {l : List UInt8} (h : mayB k = false) : wordB k l = false := by simp [wordB, h]
theorem wordB_mk {k : Int} {s : ByteArray} (h : mayB k = true) (hl : s.size ≤ 2048) : wordB k s.data.toList = s.data.toList.all (letB k) := by
  have : s.data.toList.length ≤ 2048 := by simpa using hl
  simp only [wordB, h, decide_eq_true this, Bool.true_and]

/-! ### the digits of a number over k letters, the lowest first, as byte numbers -/
def low (k : Nat) : Nat → Nat → List Int
  | 0, _ => []
  | f + 1, n => if n = 0 then [] else (97 + ((n - 1) % k : Nat) : Int) :: low k f ((n - 1) / k)
def digs (k n : Nat) : List Int := low k n n
theorem low_fuel (k : Nat) : ∀ (f g n : Nat), n ≤ f → n ≤ g → low k f n = low k g n
  | 0, 0, _, _, _ => rfl
  | 0, g + 1, n, h, _ => by obtain rfl : n = 0 := by omega
                            simp [low]
  | f + 1, 0, n, _, h => by obtain rfl : n = 0 := by omega
                            simp [low]
  | f + 1, g + 1, n, h1, h2 => by
    by_cases hn : n = 0
    · simp [low, hn]
    · have hd : (n - 1) / k ≤ n - 1 := Nat.div_le_self _ _
      simp only [low, if_neg hn, low_fuel k f g ((n - 1) / k) (by omega) (by omega)]
theorem digs_zero (k : Nat) : digs k 0 = [] := rfl
theorem digs_succ (k m : Nat) : digs k (m + 1) = (97 + (m % k : Nat) : Int) :: digs k (m / k) := by
  have hd : m / k ≤ m := Nat.div_le_self _ _
  show low k (m + 1) (m + 1) = _
  simp only [low, Nat.add_one_sub_one, if_neg (Nat.succ_ne_zero m)]
  rw [low_fuel k m (m / k) (m / k) hd (Nat.le_refl _)]; rfl

/-- the word of rank n over k letters, and whether there is one (of at most 2048 letters) -/
def urB (k n : Nat) : Bool := decide ((digs k n).length ≤ 2048)
def urS (k n : Nat) : ByteArray := bif urB k n then strOfNums (digs k n).reverse else ⟨#[]⟩
theorem ur_long {k n : Nat} {xs ys : List Int} (h : xs ++ ys = digs k n) (hl : xs.length = 2048) (hy : ys ≠ []) : urB k n = false ∧ urS k n = ⟨#[]⟩ := by
  have h1 : urB k n = false := by
    have : 0 < ys.length := List.length_pos_iff.2 hy
    simp only [urB, ← h, List.length_append, decide_eq_false_iff_not]; omega
  exact ⟨h1, by simp only [urS, h1, cond_false]⟩
theorem ur_short {k n : Nat} {xs : List Int} (h : xs = digs k n) (hl : xs.length ≤ 2048) : urB k n = true ∧ urS k n = strOfNums xs.reverse := by
  have h1 : urB k n = true := by simp only [urB, ← h, decide_eq_true_eq]; exact hl
  exact ⟨h1, by simp only [urS, h1, cond_true, h]⟩
end Go.Proofs.Ytohoiebofkmjeac.wrd.WordM
