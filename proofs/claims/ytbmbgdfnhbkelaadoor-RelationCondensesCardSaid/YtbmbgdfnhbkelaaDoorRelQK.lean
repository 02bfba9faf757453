/- Walk: RelationCondenses. -/
import Derived.Test.YtbmbgdfnhbkelaaDoorRelW
import Derived.Test.YtbmbgdfnhbkelaaDoorRelCQ
import Derived.Test.YtbmbgdfnhbkelaaDoorRelCN
import Derived.Test.YtbmbgdfnhbkelaaDoorRelVT
namespace Go.Proofs.YtbmbgdfnhbkelaaDoor
open Go Go.RowKit
set_option linter.unusedVariables false

set_option maxRecDepth 100000 in
set_option maxHeartbeats 4000000 in
theorem cRelationCondenses_no (a : Option Addr) (n c : Nat) (f : Nat → Nat) (w : World) (ha : Row w a n f) (hT : Tab w) (hv : valB n f = false) :
    Calls Tryd.prog 4 #[.slice a n c] w (Yes w) := by
  have HA := Lib.hid ha
  have HT := Lib.hid hT
  have HV := Lib.hid hv
  clear hv
  clear ha hT
  have HB := Lib.hid (Below.refl w.heap.size w)
  go_enter Tryd.func4, Tryd.ntmps4
  go_wp2_with fail
  refine (rvalid_any _ _ _ _ _ HA.out).mono ?_
  rintro e w' ⟨rfl, rfl⟩
  rw [HV.out]
  go_wp2_with fail
  refine (awake_any _).mono ?_
  rintro e w1 ⟨rfl, hB⟩
  have HA := Lib.hid (HA.out.keep hB)
  have HT := Lib.hid (HT.out.keep hB)
  have HB := Lib.hid (HB.out.trans (hB.mono HB.out.size))
  clear hB
  go_wp2_with fail
  go_ret
  exact ⟨rfl, HB.out⟩

set_option maxRecDepth 100000 in
set_option maxHeartbeats 4000000 in
theorem cRelationCondenses_yes (a : Option Addr) (n c : Nat) (f : Nat → Nat) (w : World) (ha : Row w a n f) (hT : Tab w) (hv : valB n f = true) (hnil : a = none → n = 0 ∧ c = 0) :
    Calls Tryd.prog 4 #[.slice a n c] w (Yes w) := by
  have HA := Lib.hid ha
  have HT := Lib.hid hT
  have HV := Lib.hid hv
  have hn := (valB_iff.1 hv).1
  have P := clF_pre hv
  have hvt : valB n (transF n f) = true := transF_val hn
  obtain ⟨K, hKe⟩ : ∃ K, K = cntN n (clF n f) n := ⟨_, rfl⟩
  obtain ⟨o, ho⟩ : ∃ o, o = ordF n (clF n f) := ⟨_, rfl⟩
  obtain ⟨o', ho'⟩ : ∃ o', o' = ordF n (clF n (transF n f)) := ⟨_, rfl⟩
  obtain ⟨l, hle⟩ : ∃ l, l = numL n (clF n f) := ⟨_, rfl⟩
  have hK : K ≤ 64 := by rw [hKe]; exact cnt64 P
  have HVT := Lib.hid (show valB n (transF n f) = true from hvt)
  have VO := Lib.hid (show valB K o = true from by rw [hKe, ho]; exact ord_val P)
  have HPM := Lib.hid (show pairB K o K (transF K o) = true from pairB_iff.2 ⟨by rw [hKe, ho]; exact ord_val P, transF_val hK, rfl⟩)
  have S1 := Lib.hid (show sameB K (clF K o) K o = true from sameB_true fun i hi => by subst hKe ho; exact ord_closed P hi)
  have S2 := Lib.hid (show sameB K (meetF o (transF K o)) K idF = true from sameB_true fun i hi => by subst hKe ho; exact ord_anti P hi)
  have S3 := Lib.hid (show sameB K o' K (transF K o) = true from sameB_true fun i hi => by subst hKe ho ho'; exact ord_conv hv)
  have E1 := Lib.hid (eqB_self l)
  have hlen : l.length = n := by rw [hle]; exact numL_len _ _
  have HLL := Lib.hid (show l.length ≤ maxLen by unfold maxLen; omega)
  have hq : ((l.length : Int) == (n : Int)) = true := by rw [hlen]; simp
  have CO := Lib.hid (fun W (h1 : Row W a n f) (h2 : Tab W) => show Calls Tryd.prog 7 #[.slice a n c] W (Gives W K o) from by rw [hKe, ho]; exact order_ok a n c f W h1 hv h2)
  have CP := Lib.hid (fun W (h1 : Row W a n f) (h2 : Tab W) => show Calls Tryd.prog 6 #[.slice a n c] W (GivesL W l) from by rw [hle]; exact components_ok a n c f W h1 hv h2)
  have CPT := Lib.hid (fun W x cx (h1 : Row W x n (transF n f)) (h2 : Tab W) => show Calls Tryd.prog 6 #[.slice x n cx] W (GivesL W l) from by rw [hle, ← numL_trans hv]; exact components_ok x n cx _ W h1 hvt h2)
  have COT := Lib.hid (fun W x cx (h1 : Row W x n (transF n f)) (h2 : Tab W) => show Calls Tryd.prog 7 #[.slice x n cx] W (Gives W K o') from by rw [hKe, ho', ← cnt_trans hv (Nat.le_refl n)]; exact order_ok x n cx _ W h1 hvt h2)
  clear hv hnil hlen P hvt hKe ho ho' hle
  clear ha hT
  have HB := Lib.hid (Below.refl w.heap.size w)
  go_enter Tryd.func4, Tryd.ntmps4
  go_wp2_with fail
  refine (rvalid_any _ _ _ _ _ HA.out).mono ?_
  rintro e w' ⟨rfl, rfl⟩
  rw [HV.out]
  go_wp2_with fail
  refine (CO.out _ HA.out HT.out).mono ?_
  rintro e w1 ⟨r1, c1, rfl, hR, hB⟩
  have HA := Lib.hid (HA.out.keep hB)
  have HT := Lib.hid (HT.out.keep hB)
  have HB := Lib.hid (HB.out.trans (hB.mono HB.out.size))
  have HO := Lib.hid hR
  clear hR hB
  go_wp2_with fail
  refine (valid_any _ _ _ _ _ HO.out).mono ?_
  rintro e w' ⟨rfl, rfl⟩
  rw [VO.out]
  go_wp2_with fail
  refine (closure_ok _ _ _ _ _ HO.out VO.out).mono ?_
  rintro e w2 ⟨r2, c2, rfl, hR, hB⟩
  have HA := Lib.hid (HA.out.keep hB)
  have HT := Lib.hid (HT.out.keep hB)
  have HO := Lib.hid (HO.out.keep hB)
  have HB := Lib.hid (HB.out.trans (hB.mono HB.out.size))
  have HC := Lib.hid hR
  clear hR hB
  go_wp2_with fail
  refine (same_any _ _ _ _ _ _ _ _ _ HC.out HO.out (by unfold maxLen; omega)).mono ?_
  rintro e w3 ⟨rfl, hB⟩
  rw [S1.out]
  have HA := Lib.hid (HA.out.keep hB)
  have HT := Lib.hid (HT.out.keep hB)
  have HO := Lib.hid (HO.out.keep hB)
  have HC := Lib.hid (HC.out.keep hB)
  have HB := Lib.hid (HB.out.trans (hB.mono HB.out.size))
  clear hB
  go_wp2_with fail
  refine (trans_ok _ _ _ _ _ HO.out VO.out).mono ?_
  rintro e w4 ⟨r4, c4, rfl, hR, hB⟩
  have HA := Lib.hid (HA.out.keep hB)
  have HT := Lib.hid (HT.out.keep hB)
  have HO := Lib.hid (HO.out.keep hB)
  have HC := Lib.hid (HC.out.keep hB)
  have HB := Lib.hid (HB.out.trans (hB.mono HB.out.size))
  have HX := Lib.hid hR
  clear hR hB
  go_wp2_with fail
  refine (meet_ok _ _ _ _ _ _ _ _ HO.out HX.out HPM.out).mono ?_
  rintro e w5 ⟨r5, c5, rfl, hR, hB⟩
  have HA := Lib.hid (HA.out.keep hB)
  have HT := Lib.hid (HT.out.keep hB)
  have HO := Lib.hid (HO.out.keep hB)
  have HC := Lib.hid (HC.out.keep hB)
  have HX := Lib.hid (HX.out.keep hB)
  have HB := Lib.hid (HB.out.trans (hB.mono HB.out.size))
  have HY := Lib.hid hR
  clear hR hB
  go_wp2_with fail
  refine (ident_ok K _ hK).mono ?_
  rintro e w6 ⟨r6, c6, rfl, hR, hB⟩
  have HA := Lib.hid (HA.out.keep hB)
  have HT := Lib.hid (HT.out.keep hB)
  have HO := Lib.hid (HO.out.keep hB)
  have HC := Lib.hid (HC.out.keep hB)
  have HX := Lib.hid (HX.out.keep hB)
  have HY := Lib.hid (HY.out.keep hB)
  have HB := Lib.hid (HB.out.trans (hB.mono HB.out.size))
  have HZ := Lib.hid hR
  clear hR hB
  go_wp2_with fail
  refine (same_any _ _ _ _ _ _ _ _ _ HY.out HZ.out (by unfold maxLen; omega)).mono ?_
  rintro e w7 ⟨rfl, hB⟩
  rw [S2.out]
  have HA := Lib.hid (HA.out.keep hB)
  have HT := Lib.hid (HT.out.keep hB)
  have HO := Lib.hid (HO.out.keep hB)
  have HC := Lib.hid (HC.out.keep hB)
  have HX := Lib.hid (HX.out.keep hB)
  have HY := Lib.hid (HY.out.keep hB)
  have HZ := Lib.hid (HZ.out.keep hB)
  have HB := Lib.hid (HB.out.trans (hB.mono HB.out.size))
  clear hB
  go_wp2_with fail
  refine (CP.out _ HA.out HT.out).mono ?_
  rintro e w8 ⟨r8, c8, rfl, hR, hB⟩
  have HA := Lib.hid (HA.out.keep hB)
  have HT := Lib.hid (HT.out.keep hB)
  have HO := Lib.hid (HO.out.keep hB)
  have HC := Lib.hid (HC.out.keep hB)
  have HX := Lib.hid (HX.out.keep hB)
  have HY := Lib.hid (HY.out.keep hB)
  have HZ := Lib.hid (HZ.out.keep hB)
  have HB := Lib.hid (HB.out.trans (hB.mono HB.out.size))
  have HP := Lib.hid hR
  clear hR hB
  go_wp2_with fail
  refine (trans_ok _ _ _ _ _ HA.out HV.out).mono ?_
  rintro e w9 ⟨r9, c9, rfl, hR, hB⟩
  have HA := Lib.hid (HA.out.keep hB)
  have HT := Lib.hid (HT.out.keep hB)
  have HO := Lib.hid (HO.out.keep hB)
  have HC := Lib.hid (HC.out.keep hB)
  have HX := Lib.hid (HX.out.keep hB)
  have HY := Lib.hid (HY.out.keep hB)
  have HZ := Lib.hid (HZ.out.keep hB)
  have HP := Lib.hid (HP.out.keep hB)
  have HB := Lib.hid (HB.out.trans (hB.mono HB.out.size))
  have HTA := Lib.hid hR
  clear hR hB
  go_wp2_with fail
  refine (CPT.out _ _ _ HTA.out HT.out).mono ?_
  rintro e w10 ⟨r10, c10, rfl, hR, hB⟩
  have HA := Lib.hid (HA.out.keep hB)
  have HT := Lib.hid (HT.out.keep hB)
  have HO := Lib.hid (HO.out.keep hB)
  have HC := Lib.hid (HC.out.keep hB)
  have HX := Lib.hid (HX.out.keep hB)
  have HY := Lib.hid (HY.out.keep hB)
  have HZ := Lib.hid (HZ.out.keep hB)
  have HP := Lib.hid (HP.out.keep hB)
  have HTA := Lib.hid (HTA.out.keep hB)
  have HB := Lib.hid (HB.out.trans (hB.mono HB.out.size))
  have HQ := Lib.hid hR
  clear hR hB
  go_wp2_with fail
  refine (sameI_any _ _ _ _ _ _ _ HP.out HQ.out HLL.out).mono ?_
  rintro e w11 ⟨rfl, hB⟩
  rw [E1.out]
  have HA := Lib.hid (HA.out.keep hB)
  have HT := Lib.hid (HT.out.keep hB)
  have HO := Lib.hid (HO.out.keep hB)
  have HC := Lib.hid (HC.out.keep hB)
  have HX := Lib.hid (HX.out.keep hB)
  have HY := Lib.hid (HY.out.keep hB)
  have HZ := Lib.hid (HZ.out.keep hB)
  have HP := Lib.hid (HP.out.keep hB)
  have HTA := Lib.hid (HTA.out.keep hB)
  have HQ := Lib.hid (HQ.out.keep hB)
  have HB := Lib.hid (HB.out.trans (hB.mono HB.out.size))
  clear hB
  go_wp2_with fail
  refine (trans_ok _ _ _ _ _ HA.out HV.out).mono ?_
  rintro e w12 ⟨r12, c12, rfl, hR, hB⟩
  have HA := Lib.hid (HA.out.keep hB)
  have HT := Lib.hid (HT.out.keep hB)
  have HO := Lib.hid (HO.out.keep hB)
  have HC := Lib.hid (HC.out.keep hB)
  have HX := Lib.hid (HX.out.keep hB)
  have HY := Lib.hid (HY.out.keep hB)
  have HZ := Lib.hid (HZ.out.keep hB)
  have HP := Lib.hid (HP.out.keep hB)
  have HTA := Lib.hid (HTA.out.keep hB)
  have HQ := Lib.hid (HQ.out.keep hB)
  have HB := Lib.hid (HB.out.trans (hB.mono HB.out.size))
  have HTB := Lib.hid hR
  clear hR hB
  go_wp2_with fail
  refine (COT.out _ _ _ HTB.out HT.out).mono ?_
  rintro e w13 ⟨r13, c13, rfl, hR, hB⟩
  have HA := Lib.hid (HA.out.keep hB)
  have HT := Lib.hid (HT.out.keep hB)
  have HO := Lib.hid (HO.out.keep hB)
  have HC := Lib.hid (HC.out.keep hB)
  have HX := Lib.hid (HX.out.keep hB)
  have HY := Lib.hid (HY.out.keep hB)
  have HZ := Lib.hid (HZ.out.keep hB)
  have HP := Lib.hid (HP.out.keep hB)
  have HTA := Lib.hid (HTA.out.keep hB)
  have HQ := Lib.hid (HQ.out.keep hB)
  have HTB := Lib.hid (HTB.out.keep hB)
  have HB := Lib.hid (HB.out.trans (hB.mono HB.out.size))
  have HOT := Lib.hid hR
  clear hR hB
  go_wp2_with fail
  refine (trans_ok _ _ _ _ _ HO.out VO.out).mono ?_
  rintro e w14 ⟨r14, c14, rfl, hR, hB⟩
  have HA := Lib.hid (HA.out.keep hB)
  have HT := Lib.hid (HT.out.keep hB)
  have HO := Lib.hid (HO.out.keep hB)
  have HC := Lib.hid (HC.out.keep hB)
  have HX := Lib.hid (HX.out.keep hB)
  have HY := Lib.hid (HY.out.keep hB)
  have HZ := Lib.hid (HZ.out.keep hB)
  have HP := Lib.hid (HP.out.keep hB)
  have HTA := Lib.hid (HTA.out.keep hB)
  have HQ := Lib.hid (HQ.out.keep hB)
  have HTB := Lib.hid (HTB.out.keep hB)
  have HOT := Lib.hid (HOT.out.keep hB)
  have HB := Lib.hid (HB.out.trans (hB.mono HB.out.size))
  have HTO := Lib.hid hR
  clear hR hB
  go_wp2_with fail
  refine (same_any _ _ _ _ _ _ _ _ _ HOT.out HTO.out (by unfold maxLen; omega)).mono ?_
  rintro e w15 ⟨rfl, hB⟩
  rw [S3.out]
  have HA := Lib.hid (HA.out.keep hB)
  have HT := Lib.hid (HT.out.keep hB)
  have HO := Lib.hid (HO.out.keep hB)
  have HC := Lib.hid (HC.out.keep hB)
  have HX := Lib.hid (HX.out.keep hB)
  have HY := Lib.hid (HY.out.keep hB)
  have HZ := Lib.hid (HZ.out.keep hB)
  have HP := Lib.hid (HP.out.keep hB)
  have HTA := Lib.hid (HTA.out.keep hB)
  have HQ := Lib.hid (HQ.out.keep hB)
  have HTB := Lib.hid (HTB.out.keep hB)
  have HOT := Lib.hid (HOT.out.keep hB)
  have HTO := Lib.hid (HTO.out.keep hB)
  have HB := Lib.hid (HB.out.trans (hB.mono HB.out.size))
  clear hB
  go_wp2_with fail
  refine (awake_any _).mono ?_
  rintro e w16 ⟨rfl, hB⟩
  have HA := Lib.hid (HA.out.keep hB)
  have HT := Lib.hid (HT.out.keep hB)
  have HO := Lib.hid (HO.out.keep hB)
  have HC := Lib.hid (HC.out.keep hB)
  have HX := Lib.hid (HX.out.keep hB)
  have HY := Lib.hid (HY.out.keep hB)
  have HZ := Lib.hid (HZ.out.keep hB)
  have HP := Lib.hid (HP.out.keep hB)
  have HTA := Lib.hid (HTA.out.keep hB)
  have HQ := Lib.hid (HQ.out.keep hB)
  have HTB := Lib.hid (HTB.out.keep hB)
  have HOT := Lib.hid (HOT.out.keep hB)
  have HTO := Lib.hid (HTO.out.keep hB)
  have HB := Lib.hid (HB.out.trans (hB.mono HB.out.size))
  clear hB
  go_wp2_with fail
  go_ret
  exact ⟨rfl, HB.out⟩

theorem wRelationCondenses {w : World} (a : Option Addr) (len cap : Nat) (z : List Int) (hz : IntRow .u64 w a len cap z) (hT : Tab w) :
    Calls Tryd.prog 4 #[.slice a len cap] w (Yes w) := by
  obtain ⟨f, ha, hnil⟩ := row_in hz
  cases hv : valB len f
  · exact cRelationCondenses_no a len cap f w ha hT hv
  · exact cRelationCondenses_yes a len cap f w ha hT hv hnil
end Go.Proofs.YtbmbgdfnhbkelaaDoor
