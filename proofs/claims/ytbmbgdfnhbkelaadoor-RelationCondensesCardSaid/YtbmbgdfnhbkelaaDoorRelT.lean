/- Contract: Transpose. -/
import Derived.Test.YtbmbgdfnhbkelaaDoorRelB
import Derived.Test.YtbmbgdfnhbkelaaDoorRelI
import Derived.RegionTactic
namespace Go.Proofs.YtbmbgdfnhbkelaaDoor
open Go Go.RowKit
set_option linter.unusedVariables false

/-- the points among the first k that f relates to t -/
def trN (f : Nat → Nat) (t : Nat) : Nat → Nat
  | 0 => 0
  | k + 1 => trN f t k ||| (f k / 2 ^ t % 2) * 2 ^ k
/-- the converse's rows -/
def transF (n : Nat) (f : Nat → Nat) (t : Nat) : Nat := trN f t n
theorem bit_mul {x t k : Nat} : (x / 2 ^ t % 2) * 2 ^ k = if x.testBit t then 2 ^ k else 0 := by
  rw [Nat.testBit_eq_decide_div_mod_eq]
  rcases Nat.mod_two_eq_zero_or_one (x / 2 ^ t) with h | h <;> simp [h]
theorem trN_bit {f : Nat → Nat} {t i : Nat} : ∀ {k : Nat}, (trN f t k).testBit i = true ↔ i < k ∧ (f i).testBit t = true
  | 0 => by simp [trN]
  | k + 1 => by
    rw [trN, Nat.testBit_or, Bool.or_eq_true, trN_bit (k := k), bit_mul]
    by_cases e : i = k
    · subst e
      cases h : (f i).testBit t <;> simp [Nat.testBit_two_pow_self]
    · have : (if (f k).testBit t = true then 2 ^ k else 0).testBit i = false := by
        split
        · rw [Nat.testBit_two_pow]; simp; omega
        · simp
      rw [this]
      simp
      omega
theorem trN_lt {f : Nat → Nat} {t k : Nat} : trN f t k < 2 ^ k := by
  apply Nat.lt_pow_two_of_testBit
  intro i hi
  rw [← Bool.not_eq_true, trN_bit]
  omega
theorem trN_u {f : Nat → Nat} {t k : Nat} (h : k ≤ 64) : trN f t k < 18446744073709551616 := Nat.lt_of_lt_of_le trN_lt (pow_le64 h)

/-- the rows while row i is at work: its first j columns are done -/
def trS (f : Nat → Nat) (i j t : Nat) : Nat := if t < j then trN f t (i + 1) else trN f t i
theorem trS_zero (f : Nat → Nat) (i t : Nat) : trS f i 0 t = trN f t i := by simp [trS]
theorem trS_at (f : Nat → Nat) (i j : Nat) : trS f i j j = trN f j i := by simp [trS]
theorem ownsU_trS {w : World} {base g n : Nat} {e : TypeId} {f : Nat → Nat} {i j x : Nat} (h : ownsU w base g n e (trS f i j)) (hx : x = trN f j (i + 1)) : ownsU (w.setCell ⟨g, j, none⟩ (.int .u64 (x : Int))) base g n e (trS f i (j + 1)) := by
  refine ownsU_congr (ownsU_set h j x) fun t ht => ?_
  unfold trS
  by_cases et : t = j
  · subst et; rw [if_pos rfl, if_pos (by omega), hx]
  · rw [if_neg et]
    by_cases h2 : t < j
    · rw [if_pos h2, if_pos (by omega)]
    · rw [if_neg h2, if_neg (by omega)]
theorem bit_shl {x t k : Nat} (hk : k < 64) : IntKind.u64.wrap (((x / 2 ^ t % 2 : Nat) : Int) * 2 ^ k) = ((x / 2 ^ t % 2 * 2 ^ k : Nat) : Int) := by
  have h := pow_lt64 hk
  have e : (((x / 2 ^ t % 2 : Nat) : Int) * 2 ^ k) = ((x / 2 ^ t % 2 * 2 ^ k : Nat) : Int) := by rw [Int.natCast_mul, Int.natCast_pow]; rfl
  rw [e]
  have h2 : x / 2 ^ t % 2 * 2 ^ k < 18446744073709551616 := by rw [bit_mul]; split <;> omega
  generalize x / 2 ^ t % 2 * 2 ^ k = y at *
  simp [IntKind.wrap, IntKind.bits, IntKind.signed]
  omega

set_option maxHeartbeats 1000000 in
theorem trans_ok (a : Option Addr) (n c : Nat) (f : Nat → Nat) (w : World) (hr : Row w a n f) (hp : valB n f = true) :
    Calls Tryd.prog 17 #[.slice a n c] w (Gives w n (transF n f)) := by
  have hn := (valB_iff.1 hp).1
  have H1 := Lib.hid hr
  have HP := Lib.hid hp
  clear hr hp
  obtain ⟨i0, hi, hz0, hz1, hz2⟩ := info_parts infoU
  go_enter Tryd.func17, Tryd.ntmps17
  go_wp2_with fail
  refine (valid_any _ _ _ _ _ H1.out).mono ?_
  rintro e w' ⟨rfl, rfl⟩
  rw [HP.out]
  go_wp2_with (refine wpList_make_full _ rfl _ _ 22 rfl w.heap.size 37 i0 (.int .u64 0) 1 Tryd.underlying22 hi hz0 hz1 .i64 .i64 _ _ n rfl rfl (by simp) (by simp) ?c1 ?c2 ?c3 ?_)
  case c1 => rw [hz2]; omega
  case c2 => unfold maxLen; omega
  case c3 => exact Nat.le_refl _
  intro w1 hown0 hg1
  have hown : ownsU w1 w.heap.size w.heap.size n 37 (fun t => trN f t 0) := by
    refine ownsU_congr (f := fun _ => 0) ?_ fun t _ => rfl
    unfold ownsU
    rw [← rowU_made]
    simpa using hown0
  have hb : Below w.heap.size w w1 := (Below.refl _ w).grown hg1 (Nat.le_refl _) (by intro k hk; cases hk)
  clear hown0 hg1
  have HO := Lib.hid hown
  have HB := Lib.hid hb
  clear hown hb
  go_wp2_with fail
  go_loopw [15] (fun vi wr => ∃ i : Nat, i ≤ n ∧ vi = .int .i64 i ∧ ownsU wr w.heap.size w.heap.size n 37 (fun t => trN f t i) ∧ Below w.heap.size w wr) (fun vi _ => n - (intOf vi).toNat)
  case atStart => exact ⟨0, Nat.zero_le _, rfl, HO.out, HB.out⟩
  case round =>
    obtain ⟨i, hi1, rfl, ho, hb⟩ := hrel
    have HO2 := Lib.hid ho
    have HB2 := Lib.hid hb
    clear ho hb
    by_cases hlt : i < n
    · go_wp2_with fail
      obtain ⟨wo, rfl⟩ : ∃ wo : World, wo = wr := ⟨_, rfl⟩
      go_loopw [19] (fun vj wr => ∃ j : Nat, j ≤ n ∧ vj = .int .i64 j ∧ ownsU wr w.heap.size w.heap.size n 37 (trS f i j) ∧ Below w.heap.size w wr) (fun vj _ => n - (intOf vj).toNat)
      case atStart => exact ⟨0, Nat.zero_le _, rfl, ownsU_congr HO2.out (fun t _ => (trS_zero f i t).symm), HB2.out⟩
      case round =>
        obtain ⟨j, hj, rfl, ho, hb⟩ := hrel
        by_cases hltj : j < n
        · have hcj := ownsU_cell ho hltj
          have hfj := ownsU_free ho j
          rw [trS_at] at hcj
          have HO3 := Lib.hid ho
          have HB3 := Lib.hid hb
          clear ho hb
          rcases H1.out.keep HB3.out with h0 | ⟨b, off, rfl, hbz, hc⟩
          · omega
          have hcf := (hc i hlt).1
          have hs1 := shr_bit (j := j) (hc i hlt).2
          obtain ⟨y, hy⟩ : ∃ y, y = f i / 2 ^ j % 2 := ⟨_, rfl⟩
          have hs2 := bit_shl (x := f i) (t := j) (k := i) (by omega)
          rw [← hy] at hs1 hs2
          obtain ⟨z, hz⟩ : ∃ z, z = y * 2 ^ i := ⟨_, rfl⟩
          rw [← hz] at hs2
          obtain ⟨x, hx⟩ : ∃ x, x = trN f j i ||| z := ⟨_, rfl⟩
          have hzu : z < 18446744073709551616 := by
            rw [hz, hy, bit_mul]
            have := pow_lt64 (show i < 64 by omega)
            split <;> omega
          have hS : bits .or .u64 (trN f j i : Int) (z : Int) = (x : Int) := by rw [hx]; exact u_or (trN_u (by omega)) hzu
          have HX := Lib.hid (show x = trN f j (i + 1) by rw [hx, hz, hy]; rfl)
          clear hc hx hz hy hzu
          have hj0 : (0 : Int) ≤ (j : Int) := by omega
          have hjn : (j : Int) < (n : Int) := by omega
          have hi0 : (0 : Int) ≤ (i : Int) := by omega
          have hin : (i : Int) < (n : Int) := by omega
          go_wp2_with fail
          go_region
          all_goals
            go_wp2_with fail
            exact ⟨⟨j + 1, by omega, by go_num, ownsU_trS (ownsU_drew HO3.out) HX.out, HB3.out.drew.setCell (Nat.le_refl _) _⟩, by simp [intOf]; omega⟩
        · obtain rfl : n = j := by omega
          have HO3 := Lib.hid (ownsU_congr ho (f' := fun t => trN f t (i + 1)) (fun t ht => by unfold trS; rw [if_pos ht]))
          have HB3 := Lib.hid hb
          clear ho hb
          go_wp2_with fail
          exact ⟨⟨i + 1, by omega, by go_num, HO3.out, HB3.out⟩, by simp [intOf]; omega⟩
    · obtain rfl : n = i := by omega
      go_wp2_with fail
      go_ret
      exact ⟨_, _, rfl, Row.owned HO2.out (fun t ht => trN_u hn), HB2.out⟩

set_option maxHeartbeats 400000 in
theorem trans_no (a : Option Addr) (n c : Nat) (f : Nat → Nat) (w : World) (hr : Row w a n f) (hp : valB n f = false) (q : Nat → Nat) :
    Calls Tryd.prog 17 #[.slice a n c] w (Gives w 0 q) := by
  have H1 := Lib.hid hr
  have HP := Lib.hid hp
  clear hr hp
  go_enter Tryd.func17, Tryd.ntmps17
  go_wp2_with fail
  refine (valid_any _ _ _ _ _ H1.out).mono ?_
  rintro e w' ⟨rfl, rfl⟩
  rw [HP.out]
  go_wp2_with fail
  go_ret
  exact Gives.nil
end Go.Proofs.YtbmbgdfnhbkelaaDoor
