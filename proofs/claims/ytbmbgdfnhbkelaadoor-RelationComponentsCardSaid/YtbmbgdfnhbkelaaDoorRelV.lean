/- Contracts: nextPoint, Topological. -/
import Derived.Test.YtbmbgdfnhbkelaaDoorRelO
import Derived.Test.YtbmbgdfnhbkelaaDoorRelP
namespace Go.Proofs.YtbmbgdfnhbkelaaDoor
open Go Go.RowKit
set_option linter.unusedVariables false

/-- x without y's bits -/
def andN (x y : Nat) : Nat := x &&& (18446744073709551615 - y)
theorem andN_u {x y : Nat} (hx : x < 18446744073709551616) : andN x y < 18446744073709551616 := and_u hx
theorem andN_bit {x y t : Nat} (hx : x < 18446744073709551616) (hy : y < 18446744073709551616) : (andN x y).testBit t = true ↔ x.testBit t = true ∧ y.testBit t = false := by
  unfold andN
  rw [Nat.testBit_and, Bool.and_eq_true]
  by_cases ht : t < 64
  · have h : (18446744073709551615 - y) = 2 ^ 64 - (y + 1) := by omega
    rw [h, Nat.testBit_two_pow_sub_succ hy]
    simp [ht]
  · have h1 : x.testBit t = false := Nat.testBit_lt_two_pow (Nat.lt_of_lt_of_le hx (by rw [show (18446744073709551616 : Nat) = 2 ^ 64 from rfl]; exact Nat.pow_le_pow_right (by decide) (by omega)))
    rw [h1]; simp
theorem u_andN {x y : Nat} (hx : x < 18446744073709551616) (hy : y < 18446744073709551616) : bits .andNot .u64 (x : Int) (y : Int) = ((andN x y : Nat) : Int) := u64_andNot_nat x y hx hy

/-- point i may be placed next -/
def freeB (b : Nat → Nat) (p i : Nat) : Bool := !p.testBit i && decide (andN (andN (b i) p) (2 ^ i) = 0)
/-- the least of the first n points that may be placed next -/
def nextO (b : Nat → Nat) (p n : Nat) : Option Nat := (List.range n).find? (freeB b p)
def optZ : Option Nat → Int
  | some i => (i : Int)
  | none => -1
theorem next_none {b : Nat → Nat} {p n : Nat} (h : ∀ t, t < n → freeB b p t = false) : nextO b p n = none := by
  unfold nextO
  rw [List.find?_eq_none]
  intro x hx
  rw [h x (List.mem_range.1 hx)]; decide
theorem find_range {q : Nat → Bool} {i : Nat} (h : ∀ t, t < i → q t = false) (hi : q i = true) : ∀ n, i < n → (List.range n).find? q = some i
  | 0, h0 => by omega
  | n + 1, hn => by
    rw [List.range_succ, List.find?_append]
    by_cases e : i = n
    · subst e
      have : (List.range i).find? q = none := by
        rw [List.find?_eq_none]; intro x hx; rw [h x (List.mem_range.1 hx)]; decide
      rw [this]; simp [hi]
    · rw [find_range h hi n (by omega)]; rfl
theorem next_some {b : Nat → Nat} {p n i : Nat} (hn : i < n) (h : ∀ t, t < i → freeB b p t = false) (hi : freeB b p i = true) : nextO b p n = some i := find_range h hi n hn
theorem next_lt {b : Nat → Nat} {p n i : Nat} (h : nextO b p n = some i) : i < n := List.mem_range.1 (List.mem_of_find?_eq_some h)

set_option maxHeartbeats 1000000 in
/-- relation.nextPoint -/
theorem nextPoint_any (a : Option Addr) (n c : Nat) (b : Nat → Nat) (p : Nat) (w : World) (hr : Row w a n b) (hn : n ≤ 64) (hp : p < 18446744073709551616) :
    Calls Tryd.prog 28 #[.slice a n c, .int .u64 p] w fun e w' => e = .returned (.int .i64 (optZ (nextO b p n))) ∧ Below w.heap.size w w' := by
  have HR := Lib.hid hr
  clear hr
  go_enter Tryd.func28, Tryd.ntmps28
  go_wp2_with fail
  go_loopw [9] (fun vi wr => ∃ j : Nat, j ≤ n ∧ vi = .int .i64 j ∧ (∀ t : Nat, t < j → freeB b p t = false) ∧ Below w.heap.size w wr) (fun vi _ => n - (intOf vi).toNat)
  case atStart => exact ⟨0, Nat.zero_le _, rfl, fun t ht => by omega, Below.refl _ _⟩
  case round =>
    obtain ⟨j, hj, rfl, hall, hb⟩ := hrel
    have HA := Lib.hid hall
    have HB := Lib.hid hb
    clear hall hb
    by_cases hlt : j < n
    · rcases HR.out.keep HB.out with h0 | ⟨bb, off, rfl, hbz, hc⟩
      · omega
      have hcj := (hc j hlt).1
      have hbu := (hc j hlt).2
      clear hc
      obtain ⟨q, hq⟩ : ∃ q, q = 2 ^ j := ⟨_, rfl⟩
      have hqu : q < 18446744073709551616 := by rw [hq]; exact pow_lt64 (by omega)
      have hw := shl_u (j := j) (by omega)
      rw [← hq] at hw
      obtain ⟨y, hy⟩ : ∃ y, y = andN (b j) p := ⟨_, rfl⟩
      have hyu : y < 18446744073709551616 := by rw [hy]; exact andN_u hbu
      have h1 : bits .andNot .u64 (b j : Int) (p : Int) = (y : Int) := by rw [hy]; exact u_andN hbu hp
      obtain ⟨z, hz⟩ : ∃ z, z = andN y q := ⟨_, rfl⟩
      have h2 : bits .andNot .u64 (y : Int) (q : Int) = (z : Int) := by rw [hz]; exact u_andN hyu hqu
      have HF := Lib.hid (show freeB b p j = (!p.testBit j && decide (z = 0)) by rw [hz, hy, hq]; rfl)
      clear hz hy hq hyu hqu
      have hj0 : (0 : Int) ≤ (j : Int) := by omega
      have hjn : (j : Int) < (n : Int) := by omega
      cases ht : p.testBit j
      · have HT := Lib.hid ht
        by_cases z0 : z = 0
        · have HX := Lib.hid (show nextO b p n = some j from next_some hlt HA.out (by rw [HF.out, ht, z0]; rfl))
          have hz0 : ((z : Int) == 0) = true := by rw [z0]; rfl
          clear ht z0
          go_wp2_with fail
          go_quiet (fail)
          go_wp2_with fail
          refine (has_any p j _ hp (by omega)).mono ?_
          rintro e w' ⟨rfl, rfl⟩
          rw [HT.out]
          go_wp2_with fail
          go_ret
          exact ⟨by rw [HX.out]; rfl, below_drewN HB.out _⟩
        · have HX := Lib.hid (show freeB b p j = false by rw [HF.out, ht]; simp [z0])
          have hz0 : ((z : Int) == 0) = false := by rw [beq_eq_false_iff_ne]; omega
          clear ht z0
          go_wp2_with fail
          go_quiet (fail)
          go_wp2_with fail
          refine (has_any p j _ hp (by omega)).mono ?_
          rintro e w' ⟨rfl, rfl⟩
          rw [HT.out]
          go_wp2_with fail
          exact ⟨⟨j + 1, by omega, by go_num, fun t ht => by
            by_cases et : t = j
            · subst et; exact HX.out
            · exact HA.out t (by omega), below_drewN HB.out _⟩, by simp [intOf]; omega⟩
      · have HT := Lib.hid ht
        have HX := Lib.hid (show freeB b p j = false by rw [HF.out, ht]; rfl)
        clear ht
        go_wp2_with fail
        go_quiet (fail)
        go_wp2_with fail
        refine (has_any p j _ hp (by omega)).mono ?_
        rintro e w' ⟨rfl, rfl⟩
        rw [HT.out]
        go_wp2_with fail
        exact ⟨⟨j + 1, by omega, by go_num, fun t ht => by
            by_cases et : t = j
            · subst et; exact HX.out
            · exact HA.out t (by omega), below_drewN HB.out _⟩, by simp [intOf]; omega⟩
    · obtain rfl : n = j := by omega
      have HX := Lib.hid (next_none HA.out)
      go_wp2_with fail
      go_ret
      exact ⟨by rw [HX.out]; rfl, HB.out⟩

/-- the list after k points, and the set of its points -/
def topN (b : Nat → Nat) (n : Nat) : Nat → Option (List Nat × Nat)
  | 0 => some ([], 0)
  | k + 1 => match topN b n k with
    | none => none
    | some (l, p) => match nextO b p n with
      | none => none
      | some i => some (l ++ [i], p ||| 2 ^ i)
theorem topN_u {b : Nat → Nat} {n : Nat} (hn : n ≤ 64) : ∀ {k : Nat} {l : List Nat} {p : Nat}, topN b n k = some (l, p) → p < 18446744073709551616 ∧ l.length = k
  | 0, l, p, h => by simp only [topN, Option.some.injEq, Prod.mk.injEq] at h; obtain ⟨rfl, rfl⟩ := h; exact ⟨by decide, rfl⟩
  | k + 1, l, p, h => by
    simp only [topN] at h
    cases h1 : topN b n k with
    | none => rw [h1] at h; cases h
    | some q =>
      obtain ⟨l1, p1⟩ := q
      obtain ⟨i1, i2⟩ := topN_u hn h1
      rw [h1] at h
      simp only at h
      cases h2 : nextO b p1 n with
      | none => rw [h2] at h; cases h
      | some i =>
        rw [h2] at h
        simp only [Option.some.injEq, Prod.mk.injEq] at h
        obtain ⟨rfl, rfl⟩ := h
        have := next_lt h2
        exact ⟨or_u i1 (pow_lt64 (by omega)), by simp [i2]⟩
theorem topN_step {b : Nat → Nat} {n k : Nat} {l : List Nat} {p i : Nat} (h : topN b n k = some (l, p)) (h2 : nextO b p n = some i) : topN b n (k + 1) = some (l ++ [i], p ||| 2 ^ i) := by
  simp only [topN, h, h2]
theorem topN_stop {b : Nat → Nat} {n k : Nat} {l : List Nat} {p : Nat} (h : topN b n k = some (l, p)) (h2 : nextO b p n = none) : ∀ m, k < m → topN b n m = none
  | 0, hm => by omega
  | m + 1, hm => by
    by_cases e : k = m
    · subst e; simp only [topN, h, h2]
    · simp only [topN, topN_stop h h2 m (by omega)]
/-- the end's list, and whether there is one -/
def topL (b : Nat → Nat) (n : Nat) : List Nat := match topN b n n with | none => [] | some (l, _) => l
def topB (b : Nat → Nat) (n : Nat) : Bool := (topN b n n).isSome
theorem topL_len {b : Nat → Nat} {n : Nat} (hn : n ≤ 64) : (topL b n).length ≤ 64 := by
  unfold topL
  cases h : topN b n n with
  | none => simp
  | some q => obtain ⟨l, p⟩ := q; have := (topN_u hn h).2; simp only; omega

/-- the call returns a list of numbers and a bool -/
def GivesLB (w : World) (l : List Nat) (ok : Bool) (e : Ending) (w' : World) : Prop :=
  ∃ (r : Option Addr) (c : Nat), e = .returned (.tuple #[.slice r l.length c, .bool ok]) ∧ RowL w' r l ∧ Below w.heap.size w w'
end Go.Proofs.YtbmbgdfnhbkelaaDoor
