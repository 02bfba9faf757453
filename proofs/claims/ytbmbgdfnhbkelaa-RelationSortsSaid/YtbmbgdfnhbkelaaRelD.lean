/- Contracts: image, Image, the reference's Image, Same. -/
import Derived.Test.YtbmbgdfnhbkelaaRelB
namespace Go.Proofs.Ytbmbgdfnhbkelaa
open Go Go.RowKit
set_option linter.unusedVariables false

set_option maxHeartbeats 400000 in
/-- relation.image -/
theorem imageC_any (a : Option Addr) (n c : Nat) (f : Nat → Nat) (s : Nat) (w : World) (hr : Row w a n f) (hn : n ≤ 64) (hs : s < 18446744073709551616) :
    Calls Try.prog 37 #[.slice a n c, .int .u64 s] w fun e w' => e = .returned (.int .u64 (imgN f s n : Int)) ∧ w = w' := by
  have HR := Lib.hid hr
  clear hr
  go_enter Try.func37, Try.ntmps37
  go_wp2
  go_loop [5, 9] (fun u i => ∃ j : Nat, j ≤ n ∧ i = .int .i64 j ∧ u = .int .u64 (imgN f s j : Int)) (fun _ i => n - (intOf i).toNat)
  case atStart => exact ⟨0, Nat.zero_le _, rfl, rfl⟩
  case round =>
    obtain ⟨j, hj, rfl, rfl⟩ := hrel
    by_cases hlt : j < n
    · rcases HR.out with h0 | ⟨b, off, rfl, hbz, hc⟩
      · omega
      · have HS := Lib.hid (show bits .or .u64 (imgN f s j : Int) (f j : Int) = ((imgN f s j ||| f j : Nat) : Int) from u_or (imgN_u (Nat.le_of_lt hlt) fun i hi => (hc i hi).2) (hc j hlt).2)
        have hcj := (hc j hlt).1
        clear hc
        cases hb : s.testBit j
        · have HN := Lib.hid (imgN_no (f := f) hb)
          have HB := Lib.hid hb
          clear hb
          go_wp2_with fail
          refine (has_any s j _ hs (by omega)).mono ?_
          rintro e w' ⟨rfl, rfl⟩
          rw [HB.out]
          go_wp2_with fail
          go_round
          case rel => exact ⟨j + 1, by omega, by go_num, by rw [HN.out]⟩
          case measure => simp [intOf]; omega
        · have HN := Lib.hid (imgN_yes (f := f) hb)
          have HB := Lib.hid hb
          clear hb
          go_wp2_with fail
          refine (has_any s j _ hs (by omega)).mono ?_
          rintro e w' ⟨rfl, rfl⟩
          rw [HB.out]
          go_wp2_with fail
          go_round
          case rel => exact ⟨j + 1, by omega, by go_num, by rw [HN.out, HS.out]⟩
          case measure => simp [intOf]; omega
    · obtain rfl : n = j := by omega
      go_wp2
      go_ret
      exact ⟨rfl, rfl⟩

set_option maxHeartbeats 400000 in
/-- relation.Image -/
theorem image_any (a : Option Addr) (n c : Nat) (f : Nat → Nat) (s : Nat) (w : World) (hr : Row w a n f) (hs : s < 18446744073709551616) :
    Calls Try.prog 31 #[.slice a n c, .int .u64 s] w fun e w' => e = .returned (.int .u64 ((if valB n f then imgN f s n else 0 : Nat) : Int)) ∧ w = w' := by
  have HR := Lib.hid hr
  clear hr
  cases hv : valB n f
  · have HV := Lib.hid hv
    clear hv
    go_enter Try.func31, Try.ntmps31
    go_wp2_with fail
    refine (valid_any _ _ _ _ _ HR.out).mono ?_
    rintro e w' ⟨rfl, rfl⟩
    rw [HV.out]
    go_wp2_with fail
    go_ret
    exact ⟨rfl, rfl⟩
  · have hn := (valB_iff.1 hv).1
    have HV := Lib.hid hv
    clear hv
    go_enter Try.func31, Try.ntmps31
    go_wp2_with fail
    refine (valid_any _ _ _ _ _ HR.out).mono ?_
    rintro e w' ⟨rfl, rfl⟩
    rw [HV.out]
    go_wp2_with fail
    refine (imageC_any _ _ _ _ _ _ HR.out hn hs).mono ?_
    rintro e w' ⟨rfl, rfl⟩
    go_wp2_with fail
    go_ret
    exact ⟨rfl, rfl⟩

set_option maxHeartbeats 400000 in
/-- the reference's Image -/
theorem rimage_any (a : Option Addr) (n c : Nat) (f : Nat → Nat) (s : Nat) (w : World) (hr : Row w a n f) (hn : n ≤ 64) (hs : s < 18446744073709551616) :
    Calls Try.prog 32 #[.slice a n c, .int .u64 s] w fun e w' => e = .returned (.int .u64 (imgN f s n : Int)) ∧ w = w' := by
  have HR := Lib.hid hr
  clear hr
  go_enter Try.func32, Try.ntmps32
  go_wp2
  go_loop [5, 9] (fun u i => ∃ j : Nat, j ≤ n ∧ i = .int .i64 j ∧ u = .int .u64 (imgN f s j : Int)) (fun _ i => n - (intOf i).toNat)
  case atStart => exact ⟨0, Nat.zero_le _, rfl, rfl⟩
  case round =>
    obtain ⟨j, hj, rfl, rfl⟩ := hrel
    by_cases hlt : j < n
    · rcases HR.out with h0 | ⟨b, off, rfl, hbz, hc⟩
      · omega
      · have HS := Lib.hid (show bits .or .u64 (imgN f s j : Int) (f j : Int) = ((imgN f s j ||| f j : Nat) : Int) from u_or (imgN_u (Nat.le_of_lt hlt) fun i hi => (hc i hi).2) (hc j hlt).2)
        have hcj := (hc j hlt).1
        clear hc
        cases hb : s.testBit j
        · have HN := Lib.hid (imgN_no (f := f) hb)
          have HB := Lib.hid hb
          clear hb
          go_wp2_with fail
          refine (rhas_any s j _ hs (by omega)).mono ?_
          rintro e w' ⟨rfl, rfl⟩
          rw [HB.out]
          go_wp2_with fail
          go_round
          case rel => exact ⟨j + 1, by omega, by go_num, by rw [HN.out]⟩
          case measure => simp [intOf]; omega
        · have HN := Lib.hid (imgN_yes (f := f) hb)
          have HB := Lib.hid hb
          clear hb
          go_wp2_with fail
          refine (rhas_any s j _ hs (by omega)).mono ?_
          rintro e w' ⟨rfl, rfl⟩
          rw [HB.out]
          go_wp2_with fail
          go_round
          case rel => exact ⟨j + 1, by omega, by go_num, by rw [HN.out, HS.out]⟩
          case measure => simp [intOf]; omega
    · obtain rfl : n = j := by omega
      go_wp2
      go_ret
      exact ⟨rfl, rfl⟩

end Go.Proofs.Ytbmbgdfnhbkelaa
