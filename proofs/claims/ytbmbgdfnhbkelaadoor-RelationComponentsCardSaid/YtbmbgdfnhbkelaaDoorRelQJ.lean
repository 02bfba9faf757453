/- Walk: RelationComponents. -/
import Derived.Test.YtbmbgdfnhbkelaaDoorRelW
import Derived.Test.YtbmbgdfnhbkelaaDoorRelCQ
import Derived.Test.YtbmbgdfnhbkelaaDoorRelCN
import Derived.Test.YtbmbgdfnhbkelaaDoorRelVT
namespace Go.Proofs.YtbmbgdfnhbkelaaDoor
open Go Go.RowKit
set_option linter.unusedVariables false

set_option maxRecDepth 100000 in
set_option maxHeartbeats 4000000 in
theorem cRelationComponents_no (a : Option Addr) (n c : Nat) (f : Nat → Nat) (w : World) (ha : Row w a n f) (hT : Tab w) (hv : valB n f = false) :
    Calls Tryd.prog 3 #[.slice a n c] w (Yes w) := by
  have HA := Lib.hid ha
  have HT := Lib.hid hT
  have HV := Lib.hid hv
  clear hv
  clear ha hT
  have HB := Lib.hid (Below.refl w.heap.size w)
  go_enter Tryd.func3, Tryd.ntmps3
  go_wp2_with fail
  refine (components_no _ _ _ _ _ HA.out HV.out).mono ?_
  rintro e w1 ⟨r1, c1, rfl, hR, hB⟩
  have HA := Lib.hid (HA.out.keep hB)
  have HT := Lib.hid (HT.out.keep hB)
  have HB := Lib.hid (HB.out.trans (hB.mono HB.out.size))
  have HL := Lib.hid hR
  clear hR hB
  go_wp2_with fail
  refine (order_no _ _ _ _ _ HA.out HV.out (fun _ => 0)).mono ?_
  rintro e w2 ⟨r2, c2, rfl, hR, hB⟩
  have HA := Lib.hid (HA.out.keep hB)
  have HT := Lib.hid (HT.out.keep hB)
  have HL := Lib.hid (HL.out.keep hB)
  have HB := Lib.hid (HB.out.trans (hB.mono HB.out.size))
  have HO := Lib.hid hR
  clear hR hB
  go_wp2_with fail
  refine (rvalid_any _ _ _ _ _ HA.out).mono ?_
  rintro e w' ⟨rfl, rfl⟩
  rw [HV.out]
  go_wp2_with fail
  refine (awake_any _).mono ?_
  rintro e w3 ⟨rfl, hB⟩
  have HA := Lib.hid (HA.out.keep hB)
  have HT := Lib.hid (HT.out.keep hB)
  have HL := Lib.hid (HL.out.keep hB)
  have HO := Lib.hid (HO.out.keep hB)
  have HB := Lib.hid (HB.out.trans (hB.mono HB.out.size))
  clear hB
  go_wp2_with fail
  go_ret
  exact ⟨rfl, HB.out⟩

set_option maxRecDepth 100000 in
set_option maxHeartbeats 4000000 in
theorem cRelationComponents_yes (a : Option Addr) (n c : Nat) (f : Nat → Nat) (w : World) (ha : Row w a n f) (hT : Tab w) (hv : valB n f = true) (hnil : a = none → n = 0 ∧ c = 0) :
    Calls Tryd.prog 3 #[.slice a n c] w (Yes w) := by
  have HA := Lib.hid ha
  have HT := Lib.hid hT
  have HV := Lib.hid hv
  have HN := Lib.hid hnil
  have hn := (valB_iff.1 hv).1
  have hK := cnt64 (clF_pre hv)
  have hl := numL_len n (clF n f)
  have E1 := Lib.hid (eqB_self (numL n (clF n f)))
  have S1 := Lib.hid (show sameB (cntN n (clF n f) n) (ordF n (clF n f)) (cntN n (clF n f) n) (ordF n (clF n f)) = true from sameB_true fun _ _ => rfl)
  have HLL := Lib.hid (show (numL n (clF n f)).length ≤ maxLen by unfold maxLen; omega)
  clear hv hnil hl
  clear ha hT
  have HB := Lib.hid (Below.refl w.heap.size w)
  go_enter Tryd.func3, Tryd.ntmps3
  go_wp2_with fail
  refine (components_ok _ _ _ _ _ HA.out HV.out HT.out).mono ?_
  rintro e w1 ⟨r1, c1, rfl, hR, hB⟩
  have HA := Lib.hid (HA.out.keep hB)
  have HT := Lib.hid (HT.out.keep hB)
  have HB := Lib.hid (HB.out.trans (hB.mono HB.out.size))
  have HL := Lib.hid hR
  clear hR hB
  go_wp2_with fail
  refine (order_ok _ _ _ _ _ HA.out HV.out HT.out).mono ?_
  rintro e w2 ⟨r2, c2, rfl, hR, hB⟩
  have HA := Lib.hid (HA.out.keep hB)
  have HT := Lib.hid (HT.out.keep hB)
  have HL := Lib.hid (HL.out.keep hB)
  have HB := Lib.hid (HB.out.trans (hB.mono HB.out.size))
  have HO := Lib.hid hR
  clear hR hB
  go_wp2_with fail
  refine (rvalid_any _ _ _ _ _ HA.out).mono ?_
  rintro e w' ⟨rfl, rfl⟩
  rw [HV.out]
  go_wp2_with fail
  refine (rcomponents_ok _ _ _ _ _ HA.out HV.out HN.out).mono ?_
  rintro e w3 ⟨r3, c3, rfl, hR, hB⟩
  have HA := Lib.hid (HA.out.keep hB)
  have HT := Lib.hid (HT.out.keep hB)
  have HL := Lib.hid (HL.out.keep hB)
  have HO := Lib.hid (HO.out.keep hB)
  have HB := Lib.hid (HB.out.trans (hB.mono HB.out.size))
  have HM := Lib.hid hR
  clear hR hB
  go_wp2_with fail
  refine (sameI_any _ _ _ _ _ _ _ HL.out HM.out HLL.out).mono ?_
  rintro e w4 ⟨rfl, hB⟩
  rw [E1.out]
  have HA := Lib.hid (HA.out.keep hB)
  have HT := Lib.hid (HT.out.keep hB)
  have HL := Lib.hid (HL.out.keep hB)
  have HO := Lib.hid (HO.out.keep hB)
  have HM := Lib.hid (HM.out.keep hB)
  have HB := Lib.hid (HB.out.trans (hB.mono HB.out.size))
  clear hB
  go_wp2_with fail
  refine (rorder_ok _ _ _ _ _ HA.out HV.out HN.out).mono ?_
  rintro e w5 ⟨r5, c5, rfl, hR, hB⟩
  have HA := Lib.hid (HA.out.keep hB)
  have HT := Lib.hid (HT.out.keep hB)
  have HL := Lib.hid (HL.out.keep hB)
  have HO := Lib.hid (HO.out.keep hB)
  have HM := Lib.hid (HM.out.keep hB)
  have HB := Lib.hid (HB.out.trans (hB.mono HB.out.size))
  have HQ := Lib.hid hR
  clear hR hB
  go_wp2_with fail
  refine (same_any _ _ _ _ _ _ _ _ _ HO.out HQ.out (by unfold maxLen; omega)).mono ?_
  rintro e w6 ⟨rfl, hB⟩
  rw [S1.out]
  have HA := Lib.hid (HA.out.keep hB)
  have HT := Lib.hid (HT.out.keep hB)
  have HL := Lib.hid (HL.out.keep hB)
  have HO := Lib.hid (HO.out.keep hB)
  have HM := Lib.hid (HM.out.keep hB)
  have HQ := Lib.hid (HQ.out.keep hB)
  have HB := Lib.hid (HB.out.trans (hB.mono HB.out.size))
  clear hB
  go_wp2_with fail
  refine (awake_any _).mono ?_
  rintro e w7 ⟨rfl, hB⟩
  have HA := Lib.hid (HA.out.keep hB)
  have HT := Lib.hid (HT.out.keep hB)
  have HL := Lib.hid (HL.out.keep hB)
  have HO := Lib.hid (HO.out.keep hB)
  have HM := Lib.hid (HM.out.keep hB)
  have HQ := Lib.hid (HQ.out.keep hB)
  have HB := Lib.hid (HB.out.trans (hB.mono HB.out.size))
  clear hB
  go_wp2_with fail
  go_ret
  exact ⟨rfl, HB.out⟩

theorem wRelationComponents {w : World} (a : Option Addr) (len cap : Nat) (z : List Int) (hz : IntRow .u64 w a len cap z) (hT : Tab w) :
    Calls Tryd.prog 3 #[.slice a len cap] w (Yes w) := by
  obtain ⟨f, ha, hnil⟩ := row_in hz
  cases hv : valB len f
  · exact cRelationComponents_no a len cap f w ha hT hv
  · exact cRelationComponents_yes a len cap f w ha hT hv hnil
end Go.Proofs.YtbmbgdfnhbkelaaDoor
