/- Walk: RelationAcyclic. -/
import Derived.Test.YtbmbgdfnhbkelaaDoorRelW
import Derived.Test.YtbmbgdfnhbkelaaDoorRelCQ
import Derived.Test.YtbmbgdfnhbkelaaDoorRelCN
import Derived.Test.YtbmbgdfnhbkelaaDoorRelVT
namespace Go.Proofs.YtbmbgdfnhbkelaaDoor
open Go Go.RowKit
set_option linter.unusedVariables false

theorem topoE (a : Option Addr) (n c : Nat) (f : Nat → Nat) (w : World) (hr : Row w a n f) (hv : valB n f = true) (l : List Nat) (ok : Bool) (h1 : topL (transF n f) n = l) (h2 : topB (transF n f) n = ok) :
    Calls Tryd.prog 19 #[.slice a n c] w (GivesLB w l ok) := by
  subst h1 h2; exact topo_ok a n c f w hr hv

set_option maxRecDepth 100000 in
set_option maxHeartbeats 4000000 in
theorem cRelationAcyclic_no (a : Option Addr) (n c : Nat) (f : Nat → Nat) (w : World) (ha : Row w a n f) (hT : Tab w) (hv : valB n f = false) :
    Calls Tryd.prog 5 #[.slice a n c] w (Yes w) := by
  have HA := Lib.hid ha
  have HT := Lib.hid hT
  have HV := Lib.hid hv
  clear hv
  clear ha hT
  have HB := Lib.hid (Below.refl w.heap.size w)
  go_enter Tryd.func5, Tryd.ntmps5
  go_wp2_with fail
  refine (rvalid_any _ _ _ _ _ HA.out).mono ?_
  rintro e w' ⟨rfl, rfl⟩
  rw [HV.out]
  go_wp2_with fail
  refine (awake_any _).mono ?_
  rintro e w1 ⟨rfl, hB⟩
  have HA := Lib.hid (HA.out.keep hB)
  have HT := Lib.hid (HT.out.keep hB)
  have HB := Lib.hid (HB.out.trans (hB.mono HB.out.size))
  clear hB
  go_wp2_with fail
  go_ret
  exact ⟨rfl, HB.out⟩

set_option maxRecDepth 100000 in
set_option maxHeartbeats 4000000 in
theorem cRelationAcyclic_yes (a : Option Addr) (n c : Nat) (f : Nat → Nat) (w : World) (ha : Row w a n f) (hT : Tab w) (hv : valB n f = true) (hnil : a = none → n = 0 ∧ c = 0) :
    Calls Tryd.prog 5 #[.slice a n c] w (Yes w) := by
  have HA := Lib.hid ha
  have HT := Lib.hid hT
  have HV := Lib.hid hv
  have hti := top_iff hv
  obtain ⟨K, hKe⟩ : ∃ K, K = cntN n (clF n f) n := ⟨_, rfl⟩
  obtain ⟨o, ho⟩ : ∃ o, o = ordF n (clF n f) := ⟨_, rfl⟩
  obtain ⟨l, hl⟩ : ∃ l, l = topL (transF n f) n := ⟨_, rfl⟩
  have H1 := Lib.hid hl.symm
  have CO := Lib.hid (fun W (h1 : Row W a n f) (h2 : Tab W) => show Calls Tryd.prog 7 #[.slice a n c] W (Gives W K o) from by rw [hKe, ho]; exact order_ok a n c f W h1 hv h2)
  rw [← hKe] at hti
  clear hv hnil hKe ho hl
  clear ha hT
  cases hb : topB (transF n f) n
  · have hk : ((K : Int) == (n : Int)) = false := by
      rw [beq_eq_false_iff_ne]; intro h; rw [hti.2 (by omega)] at hb; cases hb
    have H2 := Lib.hid hb
    clear hti hb
    have HB := Lib.hid (Below.refl w.heap.size w)
    go_enter Tryd.func5, Tryd.ntmps5
    go_wp2_with fail
    refine (rvalid_any _ _ _ _ _ HA.out).mono ?_
    rintro e w' ⟨rfl, rfl⟩
    rw [HV.out]
    go_wp2_with fail
    refine (topoE _ _ _ _ _ HA.out HV.out l _ H1.out H2.out).mono ?_
    rintro e w1 ⟨r1, c1, rfl, hR, hB⟩
    have HA := Lib.hid (HA.out.keep hB)
    have HT := Lib.hid (HT.out.keep hB)
    have HB := Lib.hid (HB.out.trans (hB.mono HB.out.size))
    have HL := Lib.hid hR
    clear hR hB
    go_wp2_with fail
    refine (CO.out _ HA.out HT.out).mono ?_
    rintro e w2 ⟨r2, c2, rfl, hR, hB⟩
    have HA := Lib.hid (HA.out.keep hB)
    have HT := Lib.hid (HT.out.keep hB)
    have HL := Lib.hid (HL.out.keep hB)
    have HB := Lib.hid (HB.out.trans (hB.mono HB.out.size))
    have HO := Lib.hid hR
    clear hR hB
    go_wp2_with fail
    refine (awake_any _).mono ?_
    rintro e w3 ⟨rfl, hB⟩
    have HA := Lib.hid (HA.out.keep hB)
    have HT := Lib.hid (HT.out.keep hB)
    have HL := Lib.hid (HL.out.keep hB)
    have HO := Lib.hid (HO.out.keep hB)
    have HB := Lib.hid (HB.out.trans (hB.mono HB.out.size))
    clear hB
    go_wp2_with fail
    go_ret
    exact ⟨rfl, HB.out⟩
  · have hk : ((K : Int) == (n : Int)) = true := by
      rw [beq_iff_eq]; have := hti.1 hb; omega
    have H2 := Lib.hid hb
    clear hti hb
    have HB := Lib.hid (Below.refl w.heap.size w)
    go_enter Tryd.func5, Tryd.ntmps5
    go_wp2_with fail
    refine (rvalid_any _ _ _ _ _ HA.out).mono ?_
    rintro e w' ⟨rfl, rfl⟩
    rw [HV.out]
    go_wp2_with fail
    refine (topoE _ _ _ _ _ HA.out HV.out l _ H1.out H2.out).mono ?_
    rintro e w1 ⟨r1, c1, rfl, hR, hB⟩
    have HA := Lib.hid (HA.out.keep hB)
    have HT := Lib.hid (HT.out.keep hB)
    have HB := Lib.hid (HB.out.trans (hB.mono HB.out.size))
    have HL := Lib.hid hR
    clear hR hB
    go_wp2_with fail
    refine (CO.out _ HA.out HT.out).mono ?_
    rintro e w2 ⟨r2, c2, rfl, hR, hB⟩
    have HA := Lib.hid (HA.out.keep hB)
    have HT := Lib.hid (HT.out.keep hB)
    have HL := Lib.hid (HL.out.keep hB)
    have HB := Lib.hid (HB.out.trans (hB.mono HB.out.size))
    have HO := Lib.hid hR
    clear hR hB
    go_wp2_with fail
    refine (awake_any _).mono ?_
    rintro e w3 ⟨rfl, hB⟩
    have HA := Lib.hid (HA.out.keep hB)
    have HT := Lib.hid (HT.out.keep hB)
    have HL := Lib.hid (HL.out.keep hB)
    have HO := Lib.hid (HO.out.keep hB)
    have HB := Lib.hid (HB.out.trans (hB.mono HB.out.size))
    clear hB
    go_wp2_with fail
    go_ret
    exact ⟨rfl, HB.out⟩

theorem wRelationAcyclic {w : World} (a : Option Addr) (len cap : Nat) (z : List Int) (hz : IntRow .u64 w a len cap z) (hT : Tab w) :
    Calls Tryd.prog 5 #[.slice a len cap] w (Yes w) := by
  obtain ⟨f, ha, hnil⟩ := row_in hz
  cases hv : valB len f
  · exact cRelationAcyclic_no a len cap f w ha hT hv
  · exact cRelationAcyclic_yes a len cap f w ha hT hv hnil
end Go.Proofs.YtbmbgdfnhbkelaaDoor
