/- Walk: RelationImages. -/
import Derived.Test.YtbmbgdfnhbkelaaRelW
import Derived.Test.YtbmbgdfnhbkelaaRelO
namespace Go.Proofs.Ytbmbgdfnhbkelaa
open Go Go.RowKit
set_option linter.unusedVariables false

set_option maxRecDepth 100000 in
set_option maxHeartbeats 2000000 in
theorem cRelationImages_yes (a : Option Addr) (n c : Nat) (f : Nat → Nat) (s : Nat) (w : World) (ha : Row w a n f) (hs : s < 18446744073709551616) (hv : valB n f = true) :
    Calls Try.prog 10 #[.slice a n c, .int .u64 s] w (Yes w) := by
  have HA := Lib.hid ha
  have HV := Lib.hid hv
  have hml := mem_len s 64
  have HD := Lib.hid (eqB_self (mem s 64))
  have hn := (valB_iff.1 hv).1
  obtain ⟨p, hp⟩ : ∃ p, p = imgN f s n := ⟨_, rfl⟩
  have HP := Lib.hid hp
  clear hp
  clear ha hv
  have HB := Lib.hid (Below.refl w.heap.size w)
  go_enter Try.func10, Try.ntmps10
  go_wp2_with fail
  refine (members_any s _ hs).mono ?_
  rintro e w1 ⟨r1, c1, rfl, hR, hB⟩
  have HA := Lib.hid (HA.out.keep hB)
  have HB := Lib.hid (HB.out.trans (hB.mono HB.out.size))
  have HM := Lib.hid hR
  clear hR hB
  go_wp2_with fail
  refine (rmembers_any s _ hs).mono ?_
  rintro e w2 ⟨r2, c2, rfl, hR, hB⟩
  have HA := Lib.hid (HA.out.keep hB)
  have HM := Lib.hid (HM.out.keep hB)
  have HB := Lib.hid (HB.out.trans (hB.mono HB.out.size))
  have HQ := Lib.hid hR
  clear hR hB
  go_wp2_with fail
  refine (sameI_any _ _ _ _ _ _ _ HM.out HQ.out (by unfold maxLen; omega)).mono ?_
  rintro e w3 ⟨rfl, hB⟩
  rw [HD.out]
  have HA := Lib.hid (HA.out.keep hB)
  have HM := Lib.hid (HM.out.keep hB)
  have HQ := Lib.hid (HQ.out.keep hB)
  have HB := Lib.hid (HB.out.trans (hB.mono HB.out.size))
  clear hB
  go_wp2_with fail
  refine (image_any _ _ _ _ s _ HA.out hs).mono ?_
  rintro e w' ⟨rfl, rfl⟩
  rw [if_pos HV.out, ← HP.out]
  go_wp2_with fail
  refine (rvalid_any _ _ _ _ _ HA.out).mono ?_
  rintro e w' ⟨rfl, rfl⟩
  rw [HV.out]
  go_wp2_with fail
  refine (rimage_any _ _ _ _ s _ HA.out hn hs).mono ?_
  rintro e w' ⟨rfl, rfl⟩
  rw [← HP.out]
  go_wp2_with fail
  refine (awake_any _).mono ?_
  rintro e w4 ⟨rfl, hB⟩
  have HA := Lib.hid (HA.out.keep hB)
  have HM := Lib.hid (HM.out.keep hB)
  have HQ := Lib.hid (HQ.out.keep hB)
  have HB := Lib.hid (HB.out.trans (hB.mono HB.out.size))
  clear hB
  go_wp2_with fail
  go_ret
  exact ⟨rfl, HB.out⟩

set_option maxRecDepth 100000 in
set_option maxHeartbeats 2000000 in
theorem cRelationImages_no (a : Option Addr) (n c : Nat) (f : Nat → Nat) (s : Nat) (w : World) (ha : Row w a n f) (hs : s < 18446744073709551616) (hv : valB n f = false) :
    Calls Try.prog 10 #[.slice a n c, .int .u64 s] w (Yes w) := by
  have HA := Lib.hid ha
  have HV := Lib.hid hv
  have hml := mem_len s 64
  have HD := Lib.hid (eqB_self (mem s 64))
  clear ha hv
  have HB := Lib.hid (Below.refl w.heap.size w)
  go_enter Try.func10, Try.ntmps10
  go_wp2_with fail
  refine (members_any s _ hs).mono ?_
  rintro e w1 ⟨r1, c1, rfl, hR, hB⟩
  have HA := Lib.hid (HA.out.keep hB)
  have HB := Lib.hid (HB.out.trans (hB.mono HB.out.size))
  have HM := Lib.hid hR
  clear hR hB
  go_wp2_with fail
  refine (rmembers_any s _ hs).mono ?_
  rintro e w2 ⟨r2, c2, rfl, hR, hB⟩
  have HA := Lib.hid (HA.out.keep hB)
  have HM := Lib.hid (HM.out.keep hB)
  have HB := Lib.hid (HB.out.trans (hB.mono HB.out.size))
  have HQ := Lib.hid hR
  clear hR hB
  go_wp2_with fail
  refine (sameI_any _ _ _ _ _ _ _ HM.out HQ.out (by unfold maxLen; omega)).mono ?_
  rintro e w3 ⟨rfl, hB⟩
  rw [HD.out]
  have HA := Lib.hid (HA.out.keep hB)
  have HM := Lib.hid (HM.out.keep hB)
  have HQ := Lib.hid (HQ.out.keep hB)
  have HB := Lib.hid (HB.out.trans (hB.mono HB.out.size))
  clear hB
  go_wp2_with fail
  refine (image_any _ _ _ _ s _ HA.out hs).mono ?_
  rintro e w' ⟨rfl, rfl⟩
  rw [if_neg (by rw [HV.out]; decide)]
  go_wp2_with fail
  refine (rvalid_any _ _ _ _ _ HA.out).mono ?_
  rintro e w' ⟨rfl, rfl⟩
  rw [HV.out]
  go_wp2_with fail
  refine (awake_any _).mono ?_
  rintro e w4 ⟨rfl, hB⟩
  have HA := Lib.hid (HA.out.keep hB)
  have HM := Lib.hid (HM.out.keep hB)
  have HQ := Lib.hid (HQ.out.keep hB)
  have HB := Lib.hid (HB.out.trans (hB.mono HB.out.size))
  clear hB
  go_wp2_with fail
  go_ret
  exact ⟨rfl, HB.out⟩

theorem wRelationImages {w : World} (a : Option Addr) (len cap : Nat) (z : List Int) (hz : IntRow .u64 w a len cap z) (x : Int) (hx : (Lit.int .u64 x).wf = true) :
    Calls Try.prog 10 #[.slice a len cap, .int .u64 x] w (Yes w) := by
  obtain ⟨f, ha, _⟩ := row_in hz
  have h1 := bounds_u64 hx
  obtain ⟨x', rfl⟩ := Int.eq_ofNat_of_zero_le h1.1
  cases hv : valB len f
  · exact cRelationImages_no a len cap f x' w ha (by omega) hv
  · exact cRelationImages_yes a len cap f x' w ha (by omega) hv
end Go.Proofs.Ytbmbgdfnhbkelaa
