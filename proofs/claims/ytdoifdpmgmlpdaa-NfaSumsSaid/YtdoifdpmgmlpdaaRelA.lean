/- Contracts: has, Has, Bit. -/
import Derived.Test.YtdoifdpmgmlpdaaChecked
import Derived.Test.YtdoifdpmgmlpdaaRelM
import Derived.WalkSpells
import Derived.WalkLawsBesides
namespace Go.Proofs.Ytdoifdpmgmlpdaa.rel
open Go Go.RowKit
set_option maxRecDepth 100000

theorem shr_bit {x j : Nat} (hx : x < 18446744073709551616) : bits .and .u64 ((x : Int) / 2 ^ j) 1 = ((x / 2 ^ j % 2 : Nat) : Int) := by
  have h := u64_and_nat (x / 2 ^ j) 1 (Nat.lt_of_le_of_lt (Nat.div_le_self _ _) hx) (by decide)
  rw [nat_mask1] at h
  rw [← h]
  congr 1
theorem bit_eq {x j : Nat} (hx : x < 18446744073709551616) : (bits .and .u64 ((x : Int) / 2 ^ j) 1 == 1) = x.testBit j := by
  rw [shr_bit hx, Nat.testBit_eq_decide_div_mod_eq, Bool.eq_iff_iff, beq_iff_eq, decide_eq_true_iff]
  omega
theorem shl_u {j : Nat} (hj : j < 64) : IntKind.u64.wrap ((2 : Int) ^ j) = ((2 ^ j : Nat) : Int) := by
  have h := pow_lt64 hj
  have e : ((2 : Int) ^ j) = ((2 ^ j : Nat) : Int) := by simp
  rw [e]
  generalize 2 ^ j = x at *
  simp [IntKind.wrap, IntKind.bits, IntKind.signed]
  omega
set_option maxHeartbeats 400000 in
theorem has_any (x j : Nat) (w : World) (hx : x < 18446744073709551616) (hj : j ≤ 64) :
    Calls Try.prog 60 #[.int .u64 x, .int .i64 j] w fun e w' => e = .returned (.bool (x.testBit j)) ∧ w = w' := by
  have HB := Lib.hid (bit_eq (j := j) hx)
  clear hx
  go_enter Try.func60, Try.ntmps60
  go_wp2
  go_ret
  exact ⟨ret_b HB.out, rfl⟩
set_option maxHeartbeats 400000 in
theorem rhas_any (x j : Nat) (w : World) (hx : x < 18446744073709551616) (hj : j ≤ 64) :
    Calls Try.prog 37 #[.int .u64 x, .int .i64 j] w fun e w' => e = .returned (.bool (x.testBit j)) ∧ w = w' := by
  have HB := Lib.hid (bit_eq (j := j) hx)
  clear hx
  go_enter Try.func37, Try.ntmps37
  go_wp2
  go_ret
  exact ⟨ret_b HB.out, rfl⟩
set_option maxHeartbeats 400000 in
theorem rbit_any (j : Nat) (w : World) (hj : j < 64) :
    Calls Try.prog 38 #[.int .i64 j] w fun e w' => e = .returned (.int .u64 ((2 ^ j : Nat) : Int)) ∧ w = w' := by
  go_enter Try.func38, Try.ntmps38
  go_wp2
  go_ret
  exact ⟨ret_u (shl_u hj), rfl⟩
end Go.Proofs.Ytdoifdpmgmlpdaa.rel
