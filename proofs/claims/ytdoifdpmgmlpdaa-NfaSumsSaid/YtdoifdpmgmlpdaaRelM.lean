/- Plain facts on relations whose rows are natural numbers read as sets of bits: no Go, no program. -/
import Derived.WalkKit
import Derived.Below
import Derived.OwnWalk
import Derived.Deep.Draws
import Derived.Deep.QuietTactic
import Derived.BigQuiet
import Derived.Lib.Hide
import Derived.Laws.BitsAllLaws
namespace Go.Proofs.Ytdoifdpmgmlpdaa.rel
open Go Go.RowKit
set_option maxRecDepth 100000
set_option linter.unusedVariables false

/-- n rows are a relation -/
def valB (n : Nat) (f : Nat → Nat) : Bool := decide (n ≤ 64) && (List.range n).all fun j => decide (f j < 2 ^ n)
theorem valB_iff {n : Nat} {f : Nat → Nat} : valB n f = true ↔ n ≤ 64 ∧ ∀ j, j < n → f j < 2 ^ n := by
  simp [valB, List.all_eq_true]
theorem valB_long {n : Nat} {f : Nat → Nat} (h : 64 < n) : valB n f = false := by
  rw [← Bool.not_eq_true, valB_iff]; omega
theorem valB_not {n j : Nat} {f : Nat → Nat} (hj : j < n) (h : ¬ f j < 2 ^ n) : valB n f = false := by
  rw [← Bool.not_eq_true, valB_iff]; exact fun ⟨_, h2⟩ => h (h2 j hj)
theorem valB_all {n : Nat} {f : Nat → Nat} (hn : n ≤ 64) (h : ∀ j, j < n → f j < 2 ^ n) : valB n f = true := valB_iff.2 ⟨hn, h⟩
theorem valB_congr {n : Nat} {f g : Nat → Nat} (h : ∀ j, j < n → f j = g j) : valB n f = valB n g := by
  rw [Bool.eq_iff_iff, valB_iff, valB_iff]
  exact ⟨fun ⟨a, b⟩ => ⟨a, fun j hj => h j hj ▸ b j hj⟩, fun ⟨a, b⟩ => ⟨a, fun j hj => (h j hj).symm ▸ b j hj⟩⟩
theorem pow_le64 {n : Nat} (h : n ≤ 64) : 2 ^ n ≤ 18446744073709551616 := Nat.le_trans (Nat.pow_le_pow_right (by decide) h) (by decide)
theorem pow_lt64 {j : Nat} (h : j < 64) : 2 ^ j < 18446744073709551616 := Nat.lt_of_lt_of_le (Nat.pow_lt_pow_right (by decide) h) (by decide)
theorem valB_u {n : Nat} {f : Nat → Nat} (h : valB n f = true) {j : Nat} (hj : j < n) : f j < 18446744073709551616 := by
  obtain ⟨h1, h2⟩ := valB_iff.1 h
  exact Nat.lt_of_lt_of_le (h2 j hj) (pow_le64 h1)
theorem or_u {x y : Nat} (hx : x < 18446744073709551616) (hy : y < 18446744073709551616) : x ||| y < 18446744073709551616 := Nat.or_lt_two_pow (n := 64) hx hy
theorem and_u {x y : Nat} (hx : x < 18446744073709551616) : x &&& y < 18446744073709551616 := Nat.lt_of_le_of_lt Nat.and_le_left hx

/-- the union of the first k rows -/
def orN (f : Nat → Nat) : Nat → Nat
  | 0 => 0
  | k + 1 => orN f k ||| f k
theorem orN_u {f : Nat → Nat} : ∀ {k n : Nat}, k ≤ n → (∀ i, i < n → f i < 18446744073709551616) → orN f k < 18446744073709551616
  | 0, _, _, _ => by simp [orN]
  | k + 1, _, h, hf => or_u (orN_u (Nat.le_of_succ_le h) hf) (hf k h)
theorem orN_lt {f : Nat → Nat} {m : Nat} : ∀ {k : Nat}, orN f k < 2 ^ m ↔ ∀ j, j < k → f j < 2 ^ m
  | 0 => by simp [orN, Nat.two_pow_pos]
  | k + 1 => by
    constructor
    · intro h j hj
      have h1 : orN f k < 2 ^ m := Nat.lt_of_le_of_lt Nat.left_le_or h
      have h2 : f k < 2 ^ m := Nat.lt_of_le_of_lt Nat.right_le_or h
      by_cases e : j = k
      · subst e; exact h2
      · exact orN_lt.1 h1 j (by omega)
    · intro h
      exact Nat.or_lt_two_pow (orN_lt.2 fun j hj => h j (by omega)) (h k (by omega))
theorem div_zero_iff {x n : Nat} : (x / 2 ^ n = 0) ↔ x < 2 ^ n := by
  rw [Nat.div_eq_zero_iff]
  have := Nat.two_pow_pos n
  omega

/-- the image of a set under the first k rows -/
def imgN (f : Nat → Nat) (s : Nat) : Nat → Nat
  | 0 => 0
  | k + 1 => if s.testBit k then imgN f s k ||| f k else imgN f s k
theorem imgN_u {f : Nat → Nat} {s : Nat} : ∀ {k n : Nat}, k ≤ n → (∀ i, i < n → f i < 18446744073709551616) → imgN f s k < 18446744073709551616
  | 0, _, _, _ => by simp [imgN]
  | k + 1, _, h, hf => by
    unfold imgN
    split
    · exact or_u (imgN_u (Nat.le_of_succ_le h) hf) (hf k h)
    · exact imgN_u (Nat.le_of_succ_le h) hf
theorem imgN_lt {f : Nat → Nat} {s m : Nat} : ∀ {k : Nat}, (∀ i, i < k → f i < 2 ^ m) → imgN f s k < 2 ^ m
  | 0, _ => Nat.two_pow_pos m
  | k + 1, hf => by
    unfold imgN
    have := @imgN_lt f s m k (fun i hi => hf i (by omega))
    split
    · exact Nat.or_lt_two_pow this (hf k (by omega))
    · exact this
theorem imgN_yes {f : Nat → Nat} {s k : Nat} (h : s.testBit k = true) : imgN f s (k + 1) = imgN f s k ||| f k := by simp [imgN, h]
theorem imgN_no {f : Nat → Nat} {s k : Nat} (h : s.testBit k = false) : imgN f s (k + 1) = imgN f s k := by simp [imgN, h]
theorem imgN_bit {f : Nat → Nat} {s t : Nat} : ∀ {k : Nat}, (imgN f s k).testBit t = true ↔ ∃ i, i < k ∧ s.testBit i = true ∧ (f i).testBit t = true
  | 0 => by simp [imgN]
  | k + 1 => by
    have ih := @imgN_bit f s t k
    cases h : s.testBit k
    · rw [imgN_no h, ih]
      exact ⟨fun ⟨i, a, b⟩ => ⟨i, by omega, b⟩, fun ⟨i, a, b, c⟩ => ⟨i, by
        by_cases e : i = k
        · subst e; rw [h] at b; cases b
        · omega, b, c⟩⟩
    · rw [imgN_yes h, Nat.testBit_or, Bool.or_eq_true, ih]
      constructor
      · rintro (⟨i, a, b⟩ | hk)
        · exact ⟨i, by omega, b⟩
        · exact ⟨k, by omega, h, hk⟩
      · rintro ⟨i, a, b, c⟩
        by_cases e : i = k
        · subst e; exact .inr c
        · exact .inl ⟨i, by omega, b, c⟩
theorem imgN_congr {f g : Nat → Nat} {s : Nat} : ∀ {k : Nat}, (∀ i, i < k → f i = g i) → imgN f s k = imgN g s k
  | 0, _ => rfl
  | k + 1, h => by
    unfold imgN
    rw [imgN_congr (k := k) (fun i hi => h i (by omega)), h k (by omega)]

/-- the rows of a product, a union, an intersection, the identity -/
def compF (n : Nat) (f g : Nat → Nat) (i : Nat) : Nat := imgN g (f i) n
def unionF (f g : Nat → Nat) (i : Nat) : Nat := f i ||| g i
def meetF (f g : Nat → Nat) (i : Nat) : Nat := f i &&& g i
def idF (i : Nat) : Nat := 2 ^ i
/-- both are relations of as many points -/
def pairB (n : Nat) (f : Nat → Nat) (m : Nat) (g : Nat → Nat) : Bool := valB n f && valB m g && decide (n = m)
theorem pairB_iff {n m : Nat} {f g : Nat → Nat} : pairB n f m g = true ↔ valB n f = true ∧ valB m g = true ∧ n = m := by
  simp [pairB, and_assoc]

/-! ### rows of 64-bit numbers given by a function -/
def rowU (n : Nat) (f : Nat → Nat) : List Value := (List.range n).map fun t => Value.int .u64 (f t : Int)
theorem rowU_length (n : Nat) (f : Nat → Nat) : (rowU n f).length = n := by simp [rowU]
theorem rowU_get {n : Nat} {f : Nat → Nat} {j : Nat} (h : j < n) : (rowU n f)[j]? = some (Value.int .u64 (f j : Int)) := by simp [rowU, h]
theorem rowU_congr {n : Nat} {f g : Nat → Nat} (h : ∀ t, t < n → f t = g t) : rowU n f = rowU n g := by
  apply List.ext_getElem?
  intro j
  by_cases hj : j < n
  · rw [rowU_get hj, rowU_get hj, h j hj]
  · rw [List.getElem?_eq_none (by rw [rowU_length]; omega), List.getElem?_eq_none (by rw [rowU_length]; omega)]
theorem rowU_set {n : Nat} {f : Nat → Nat} {j : Nat} {x : Nat} : (rowU n f).set j (.int .u64 (x : Int)) = rowU n fun t => if t = j then x else f t := by
  apply List.ext_getElem?
  intro k
  rw [List.getElem?_set]
  by_cases hk : k < n
  · rw [rowU_get hk, rowU_get hk]
    by_cases e : j = k
    · subst e; simp [rowU_length, hk]
    · rw [if_neg e, if_neg (Ne.symm e)]
  · rw [List.getElem?_eq_none (by rw [rowU_length]; omega), List.getElem?_eq_none (by rw [rowU_length]; omega), rowU_length]
    simp
    omega
theorem rowU_made (n : Nat) : (madeCells #[Value.int .u64 0] n).toList = rowU n fun _ => 0 := by
  rw [toList_madeCells_one]
  apply List.ext_getElem?
  intro k
  by_cases hk : k < n
  · rw [rowU_get hk]; simp [hk]
  · rw [List.getElem?_eq_none (by simp; omega), List.getElem?_eq_none (by rw [rowU_length]; omega)]

/-- a row of 64-bit numbers of the call's own -/
def ownsU (w : World) (base g n : Nat) (e : TypeId) (f : Nat → Nat) : Prop := w.ownsRow base e 1 (.slice (some ⟨g, 0, none⟩) n n) n (rowU n f)
theorem ownsU_cell {w : World} {base g n : Nat} {e : TypeId} {f : Nat → Nat} (h : ownsU w base g n e f) {j : Nat} (hj : j < n) : w.cell? ⟨g, j, none⟩ = some (.int .u64 (f j : Int)) := by
  have := World.ownsRow.cellAt h j (by omega)
  rw [this, rowU_get hj]
theorem ownsU_free {w : World} {base g n : Nat} {e : TypeId} {f : Nat → Nat} (h : ownsU w base g n e f) (j : Nat) : w.frozen? ⟨g, j, none⟩ = false := World.ownsRow.frozenAt h j
theorem ownsU_congr {w : World} {base g n : Nat} {e : TypeId} {f f' : Nat → Nat} (h : ownsU w base g n e f) (hf : ∀ t, t < n → f t = f' t) : ownsU w base g n e f' := by
  unfold ownsU at h ⊢
  rwa [← rowU_congr hf]
theorem ownsU_drewN {w : World} {base g n q : Nat} {e : TypeId} {f : Nat → Nat} (h : ownsU w base g n e f) : ownsU (w.drewN q) base g n e f := h
theorem ownsU_drew {w : World} {base g n : Nat} {e : TypeId} {f : Nat → Nat} (h : ownsU w base g n e f) : ownsU w.drew base g n e f := h
theorem ownsU_set {w : World} {base g n : Nat} {e : TypeId} {f : Nat → Nat} (h : ownsU w base g n e f) (j x : Nat) : ownsU (w.setCell ⟨g, j, none⟩ (.int .u64 (x : Int))) base g n e (fun t => if t = j then x else f t) := by
  have := (World.ownsRow.stored h j (.int .u64 (x : Int))).1
  unfold ownsU
  rwa [rowU_set] at this
theorem below_drewN {B : Nat} {a w : World} (h : Below B a w) (n : Nat) : Below B a (w.drewN n) := ⟨h.os, h.tape, h.output, h.size, h.block⟩

theorem cell_lt {w : World} {b o : Nat} {s : Option Nat} {v : Value} (h : w.cell? ⟨b, o, none⟩ = some v) : b < w.heap.size := by
  apply Nat.lt_of_not_le
  intro hle
  have : w.heap[b]? = none := by simp [hle]
  simp [World.cell?, this] at h

/-- at a there are n 64-bit numbers f 0, f 1, .. -/
def Row (w : World) (a : Option Addr) (n : Nat) (f : Nat → Nat) : Prop :=
  n = 0 ∨ ∃ b off, a = some ⟨b, off, none⟩ ∧ b < w.heap.size ∧ ∀ i, i < n → w.cell? ⟨b, off + i, none⟩ = some (.int .u64 (f i : Int)) ∧ f i < 18446744073709551616
theorem Row.keep {w w' : World} {a : Option Addr} {n : Nat} {f : Nat → Nat} (h : Row w a n f) (hb : Below w.heap.size w w') : Row w' a n f := by
  rcases h with h | ⟨b, off, rfl, hl, hc⟩
  · exact .inl h
  · exact .inr ⟨b, off, rfl, Nat.lt_of_lt_of_le hl hb.size, fun i hi => ⟨by rw [hb.cell (p := ⟨b, off + i, none⟩) hl]; exact (hc i hi).1, (hc i hi).2⟩⟩
theorem Row.congr {w : World} {a : Option Addr} {n : Nat} {f g : Nat → Nat} (h : Row w a n f) (hf : ∀ i, i < n → f i = g i) : Row w a n g := by
  rcases h with h | ⟨b, off, rfl, hl, hc⟩
  · exact .inl h
  · exact .inr ⟨b, off, rfl, hl, fun i hi => by rw [← hf i hi]; exact hc i hi⟩
theorem Row.bound {w : World} {a : Option Addr} {n : Nat} {f : Nat → Nat} (h : Row w a n f) : ∀ i, i < n → f i < 18446744073709551616 := by
  rcases h with h | ⟨b, off, rfl, hl, hc⟩
  · intro i hi; omega
  · exact fun i hi => (hc i hi).2
theorem Row.owned {w : World} {base g n : Nat} {e : TypeId} {f : Nat → Nat} (h : ownsU w base g n e f) (hf : ∀ i, i < n → f i < 18446744073709551616) : Row w (some ⟨g, 0, none⟩) n f := by
  by_cases h0 : n = 0
  · exact .inl h0
  · refine .inr ⟨g, 0, rfl, cell_lt (s := none) (ownsU_cell h (show 0 < n by omega)), fun i hi => ⟨?_, hf i hi⟩⟩
    rw [Nat.zero_add]
    exact ownsU_cell h hi

/-- the call returns a slice that reads as the n numbers f, and leaves what was there -/
def Gives (w : World) (n : Nat) (f : Nat → Nat) (e : Ending) (w' : World) : Prop :=
  ∃ (r : Option Addr) (c : Nat), e = .returned (.slice r n c) ∧ Row w' r n f ∧ Below w.heap.size w w'
theorem Gives.congr {w w' : World} {n : Nat} {f g : Nat → Nat} {e : Ending} (h : Gives w n f e w') (hf : ∀ i, i < n → f i = g i) : Gives w n g e w' := by
  obtain ⟨r, c, he, hr, hb⟩ := h
  exact ⟨r, c, he, hr.congr hf, hb⟩
theorem Gives.nil {w : World} {f : Nat → Nat} : Gives w 0 f (.returned (.slice none 0 0)) w := ⟨none, 0, rfl, .inl rfl, Below.refl _ _⟩

theorem u_or {x y : Nat} (hx : x < 18446744073709551616) (hy : y < 18446744073709551616) : bits .or .u64 (x : Int) (y : Int) = ((x ||| y : Nat) : Int) := u64_or_nat x y hx hy
theorem u_and {x y : Nat} (hx : x < 18446744073709551616) (hy : y < 18446744073709551616) : bits .and .u64 (x : Int) (y : Int) = ((x &&& y : Nat) : Int) := u64_and_nat x y hx hy
theorem ret_u {k : IntKind} {a b : Int} (h : a = b) : Ending.returned (.int k a) = .returned (.int k b) := by rw [h]
theorem ret_b {a b : Bool} (h : a = b) : Ending.returned (.bool a) = .returned (.bool b) := by rw [h]
end Go.Proofs.Ytdoifdpmgmlpdaa.rel
