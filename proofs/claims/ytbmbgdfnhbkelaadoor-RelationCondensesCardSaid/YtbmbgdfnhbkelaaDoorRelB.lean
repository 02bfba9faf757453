/- Contracts: Valid, the reference's Valid, validPair, pair. -/
import Derived.Test.YtbmbgdfnhbkelaaDoorRelA
namespace Go.Proofs.YtbmbgdfnhbkelaaDoor
open Go Go.RowKit

set_option maxHeartbeats 400000 in
theorem valid_ok (a : Option Addr) (n c : Nat) (f : Nat → Nat) (w : World) (hr : Row w a n f) (hn : n ≤ 64) :
    Calls Tryd.prog 14 #[.slice a n c] w fun e w' => e = .returned (.bool (valB n f)) ∧ w = w' := by
  have HR := Lib.hid hr
  clear hr
  go_enter Tryd.func14, Tryd.ntmps14
  go_wp2
  go_loop [4, 11] (fun u i => ∃ j : Nat, j ≤ n ∧ i = .int .i64 j ∧ u = .int .u64 (orN f j : Int)) (fun _ i => n - (intOf i).toNat)
  case atStart => exact ⟨0, Nat.zero_le _, rfl, rfl⟩
  case round =>
    obtain ⟨j, hj, rfl, rfl⟩ := hrel
    by_cases hlt : j < n
    · rcases HR.out with h0 | ⟨b, off, rfl, hbz, hc⟩
      · omega
      · have HS := Lib.hid (show bits .or .u64 (orN f j : Int) (f j : Int) = ((orN f (j + 1) : Nat) : Int) from u_or (orN_u (Nat.le_of_lt hlt) fun i hi => (hc i hi).2) (hc j hlt).2)
        have hcj := (hc j hlt).1
        clear hc
        go_wp2
        go_round
        case rel => exact ⟨j + 1, by omega, by go_num, by rw [HS.out]⟩
        case measure => simp [intOf]; omega
    · obtain rfl : n = j := by omega
      have HE := Lib.hid (show ((orN f n : Int) / 2 ^ n == 0) = valB n f by
        have e : ((orN f n : Int) / 2 ^ n) = ((orN f n / 2 ^ n : Nat) : Int) := by simp
        rw [e, Bool.eq_iff_iff, beq_iff_eq, valB_iff, ← orN_lt, ← div_zero_iff]
        omega)
      go_wp2
      go_ret
      exact ⟨ret_b HE.out, rfl⟩

set_option maxHeartbeats 400000 in
/-- relation.Valid -/
theorem valid_any (a : Option Addr) (n c : Nat) (f : Nat → Nat) (w : World) (hr : Row w a n f) :
    Calls Tryd.prog 14 #[.slice a n c] w fun e w' => e = .returned (.bool (valB n f)) ∧ w = w' := by
  by_cases hn : n ≤ 64
  · exact valid_ok a n c f w hr hn
  · have hn' : 64 < n := by omega
    have HV := Lib.hid (valB_long (f := f) hn')
    clear hr hn
    go_enter Tryd.func14, Tryd.ntmps14
    go_wp2
    go_ret
    exact ⟨by rw [HV.out]; rfl, rfl⟩

set_option maxHeartbeats 400000 in
theorem rvalid_lt (a : Option Addr) (n c : Nat) (f : Nat → Nat) (w : World) (hr : Row w a n f) (hn : n < 64) :
    Calls Tryd.prog 8 #[.slice a n c] w fun e w' => e = .returned (.bool (valB n f)) ∧ w = w' := by
  have HR := Lib.hid hr
  clear hr
  go_enter Tryd.func8, Tryd.ntmps8
  go_wp2
  go_loop [10] (fun i => ∃ j : Nat, j ≤ n ∧ i = .int .i64 j ∧ ∀ t, t < j → f t < 2 ^ n) (fun i => n - (intOf i).toNat)
  case atStart => exact ⟨0, Nat.zero_le _, rfl, fun t ht => by omega⟩
  case round =>
    obtain ⟨j, hj, rfl, hall⟩ := hrel
    have HA := Lib.hid hall
    clear hall
    by_cases hlt : j < n
    · rcases HR.out with h0 | ⟨b, off, rfl, hbz, hc⟩
      · omega
      · have hcj := (hc j hlt).1
        clear hc
        have e : ((f j : Int) / 2 ^ n) = ((f j / 2 ^ n : Nat) : Int) := by simp
        by_cases hf : f j < 2 ^ n
        · have h1 : ((f j : Int) / 2 ^ n != 0) = false := by
            rw [e, div_zero_iff.2 hf]; rfl
          have HF := Lib.hid hf
          clear hf e
          go_wp2
          go_round
          case rel => exact ⟨j + 1, by omega, by go_num, fun t ht => by
            by_cases et : t = j
            · subst et; exact HF.out
            · exact HA.out t (by omega)⟩
          case measure => simp [intOf]; omega
        · have h1 : ((f j : Int) / 2 ^ n != 0) = true := by
            have : f j / 2 ^ n ≠ 0 := fun h => hf (div_zero_iff.1 h)
            rw [e, bne_iff_ne]; omega
          have HV := Lib.hid (valB_not hlt hf)
          clear hf e
          go_wp2
          go_ret
          exact ⟨by rw [HV.out]; rfl, rfl⟩
    · obtain rfl : n = j := by omega
      have HV := Lib.hid (valB_all (Nat.le_of_lt hn) HA.out)
      go_wp2
      go_ret
      exact ⟨by rw [HV.out]; rfl, rfl⟩

set_option maxHeartbeats 400000 in
theorem rvalid_64 (a : Option Addr) (c : Nat) (f : Nat → Nat) (w : World) (hr : Row w a 64 f) :
    Calls Tryd.prog 8 #[.slice a 64 c] w fun e w' => e = .returned (.bool (valB 64 f)) ∧ w = w' := by
  have HR := Lib.hid hr
  have HV := Lib.hid (valB_all (n := 64) (f := f) (Nat.le_refl _) (fun j hj => hr.bound j hj))
  clear hr
  go_enter Tryd.func8, Tryd.ntmps8
  go_wp2
  go_loop [10] (fun i => ∃ j : Nat, j ≤ 64 ∧ i = .int .i64 j) (fun i => 64 - (intOf i).toNat)
  case atStart => exact ⟨0, Nat.zero_le _, rfl⟩
  case round =>
    obtain ⟨j, hj, rfl⟩ := hrel
    by_cases hlt : j < 64
    · rcases HR.out with h0 | ⟨b, off, rfl, hbz, hc⟩
      · omega
      · have hcj := (hc j hlt).1
        clear hc
        go_wp2
        go_round
        case rel => exact ⟨j + 1, by omega, by go_num⟩
        case measure => simp [intOf]; omega
    · obtain rfl : j = 64 := by omega
      go_wp2
      go_ret
      exact ⟨by rw [HV.out]; rfl, rfl⟩

set_option maxHeartbeats 400000 in
/-- the reference's Valid -/
theorem rvalid_any (a : Option Addr) (n c : Nat) (f : Nat → Nat) (w : World) (hr : Row w a n f) :
    Calls Tryd.prog 8 #[.slice a n c] w fun e w' => e = .returned (.bool (valB n f)) ∧ w = w' := by
  by_cases hn : n < 64
  · exact rvalid_lt a n c f w hr hn
  by_cases he : n = 64
  · subst he; exact rvalid_64 a c f w hr
  · have hn' : 64 < n := by omega
    have HV := Lib.hid (valB_long (f := f) hn')
    clear hr hn he
    go_enter Tryd.func8, Tryd.ntmps8
    go_wp2
    go_ret
    exact ⟨by rw [HV.out]; rfl, rfl⟩

end Go.Proofs.YtbmbgdfnhbkelaaDoor
