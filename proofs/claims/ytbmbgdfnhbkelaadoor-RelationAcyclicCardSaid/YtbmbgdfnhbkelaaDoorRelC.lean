/- Contracts: validPair, pair, image, Image, the reference's Image, Same. -/
import Derived.Test.YtbmbgdfnhbkelaaDoorRelB
namespace Go.Proofs.YtbmbgdfnhbkelaaDoor
open Go Go.RowKit
set_option linter.unusedVariables false

set_option maxHeartbeats 400000 in
/-- relation.validPair -/
theorem validPair_any (a : Option Addr) (n c : Nat) (f : Nat → Nat) (a' : Option Addr) (m c' : Nat) (g : Nat → Nat) (w : World) (hr : Row w a n f) (hs : Row w a' m g) :
    Calls Tryd.prog 27 #[.slice a n c, .slice a' m c'] w fun e w' => e = .returned (.bool (pairB n f m g)) ∧ w = w' := by
  have H1 := Lib.hid hr
  have H2 := Lib.hid hs
  clear hr hs
  by_cases hnm : n = m
  · subst hnm
    cases hv : valB n f
    · have HV := Lib.hid hv
      have HP := Lib.hid (show pairB n f n g = false by simp [pairB, hv])
      clear hv
      go_enter Tryd.func27, Tryd.ntmps27
      go_wp2_with (go_at_call 14; refine (valid_any _ _ _ _ _ H1.out).mono ?_; rintro e w' ⟨rfl, rfl⟩; rw [HV.out])
      go_ret
      exact ⟨by rw [HP.out]; rfl, rfl⟩
    · have HV := Lib.hid hv
      have HP := Lib.hid (show pairB n f n g = valB n g by simp [pairB, hv])
      clear hv
      go_enter Tryd.func27, Tryd.ntmps27
      go_wp2_with fail
      refine (valid_any _ _ _ _ _ H1.out).mono ?_
      rintro e w' ⟨rfl, rfl⟩
      rw [HV.out]
      go_wp2_with fail
      refine (valid_any _ _ _ _ _ H2.out).mono ?_
      rintro e w' ⟨rfl, rfl⟩
      go_wp2_with fail
      go_ret
      exact ⟨by rw [HP.out]; rfl, rfl⟩
  · have HP := Lib.hid (show pairB n f m g = false by simp [pairB, hnm])
    have h1 : ((n : Int) == (m : Int)) = false := by rw [beq_eq_false_iff_ne]; omega
    clear hnm
    go_enter Tryd.func27, Tryd.ntmps27
    go_wp2_with fail
    go_ret
    exact ⟨by rw [HP.out]; rfl, rfl⟩

end Go.Proofs.YtbmbgdfnhbkelaaDoor
