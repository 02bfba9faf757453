/- Walk: RelationSorts. -/
import Derived.Test.YtbmbgdfnhbkelaaRelW
import Derived.Test.YtbmbgdfnhbkelaaRelVT
import Derived.Test.YtbmbgdfnhbkelaaRelVR
namespace Go.Proofs.Ytbmbgdfnhbkelaa
open Go Go.RowKit
set_option linter.unusedVariables false

theorem topoE (a : Option Addr) (n c : Nat) (f : Nat → Nat) (w : World) (hr : Row w a n f) (hv : valB n f = true) (l : List Nat) (ok : Bool) (h1 : topL (transF n f) n = l) (h2 : topB (transF n f) n = ok) :
    Calls Try.prog 33 #[.slice a n c] w (GivesLB w l ok) := by
  subst h1 h2; exact topo_ok a n c f w hr hv
theorem rtopoE (a : Option Addr) (n c : Nat) (f : Nat → Nat) (w : World) (hr : Row w a n f) (hn : n ≤ 64) (l : List Nat) (ok : Bool) (h1 : topL (transF n f) n = l) (h2 : topB (transF n f) n = ok) :
    Calls Try.prog 34 #[.slice a n c] w (GivesLB w l ok) := by
  subst h1 h2; exact rtopo_ok a n c f w hr hn

set_option maxRecDepth 100000 in
set_option maxHeartbeats 2000000 in
theorem cRelationSorts_yes (a : Option Addr) (n c : Nat) (f : Nat → Nat) (w : World) (ha : Row w a n f) (hv : valB n f = true) (l : List Nat) (ok : Bool) (h1 : topL (transF n f) n = l) (h2 : topB (transF n f) n = ok) (h3 : l.length ≤ 64) :
    Calls Try.prog 12 #[.slice a n c] w (Yes w) := by
  have HA := Lib.hid ha
  have HV := Lib.hid hv
  have H1 := Lib.hid h1
  have H2 := Lib.hid h2
  have hn := (valB_iff.1 hv).1
  have HD := Lib.hid (eqB_self l)
  clear ha hv h1 h2
  cases ok
  all_goals
    have HB := Lib.hid (Below.refl w.heap.size w)
    go_enter Try.func12, Try.ntmps12
    go_wp2_with fail
    refine (topoE _ _ _ _ _ HA.out HV.out l _ H1.out H2.out).mono ?_
    rintro e w1 ⟨r1, c1, rfl, hR, hB⟩
    have HA := Lib.hid (HA.out.keep hB)
    have HB := Lib.hid (HB.out.trans (hB.mono HB.out.size))
    have HL := Lib.hid hR
    clear hR hB
    go_wp2_with fail
    refine (rvalid_any _ _ _ _ _ HA.out).mono ?_
    rintro e w' ⟨rfl, rfl⟩
    rw [HV.out]
    go_wp2_with fail
    refine (rtopoE _ _ _ _ _ HA.out hn l _ H1.out H2.out).mono ?_
    rintro e w2 ⟨r2, c2, rfl, hR, hB⟩
    have HA := Lib.hid (HA.out.keep hB)
    have HL := Lib.hid (HL.out.keep hB)
    have HB := Lib.hid (HB.out.trans (hB.mono HB.out.size))
    have HM := Lib.hid hR
    clear hR hB
    go_wp2_with fail
    refine (sameI_any _ _ _ _ _ _ _ HL.out HM.out (by unfold maxLen; omega)).mono ?_
    rintro e w3 ⟨rfl, hB⟩
    rw [HD.out]
    have HA := Lib.hid (HA.out.keep hB)
    have HL := Lib.hid (HL.out.keep hB)
    have HM := Lib.hid (HM.out.keep hB)
    have HB := Lib.hid (HB.out.trans (hB.mono HB.out.size))
    clear hB
    go_wp2_with fail
    refine (awake_any _).mono ?_
    rintro e w4 ⟨rfl, hB⟩
    have HA := Lib.hid (HA.out.keep hB)
    have HL := Lib.hid (HL.out.keep hB)
    have HM := Lib.hid (HM.out.keep hB)
    have HB := Lib.hid (HB.out.trans (hB.mono HB.out.size))
    clear hB
    go_wp2_with fail
    go_ret
    exact ⟨rfl, HB.out⟩

set_option maxRecDepth 100000 in
set_option maxHeartbeats 2000000 in
theorem cRelationSorts_no (a : Option Addr) (n c : Nat) (f : Nat → Nat) (w : World) (ha : Row w a n f) (hv : valB n f = false) :
    Calls Try.prog 12 #[.slice a n c] w (Yes w) := by
  have HA := Lib.hid ha
  have HV := Lib.hid hv
  clear ha hv
  have HB := Lib.hid (Below.refl w.heap.size w)
  go_enter Try.func12, Try.ntmps12
  go_wp2_with fail
  refine (topo_no _ _ _ _ _ HA.out HV.out).mono ?_
  rintro e w1 ⟨r1, c1, rfl, hR, hB⟩
  have HA := Lib.hid (HA.out.keep hB)
  have HB := Lib.hid (HB.out.trans (hB.mono HB.out.size))
  have HL := Lib.hid hR
  clear hR hB
  go_wp2_with fail
  refine (rvalid_any _ _ _ _ _ HA.out).mono ?_
  rintro e w' ⟨rfl, rfl⟩
  rw [HV.out]
  go_wp2_with fail
  refine (awake_any _).mono ?_
  rintro e w2 ⟨rfl, hB⟩
  have HA := Lib.hid (HA.out.keep hB)
  have HL := Lib.hid (HL.out.keep hB)
  have HB := Lib.hid (HB.out.trans (hB.mono HB.out.size))
  clear hB
  go_wp2_with fail
  go_ret
  exact ⟨rfl, HB.out⟩

theorem wRelationSorts {w : World} (a : Option Addr) (len cap : Nat) (z : List Int) (hz : IntRow .u64 w a len cap z) :
    Calls Try.prog 12 #[.slice a len cap] w (Yes w) := by
  obtain ⟨f, ha, _⟩ := row_in hz
  cases hv : valB len f
  · exact cRelationSorts_no a len cap f w ha hv
  · exact cRelationSorts_yes a len cap f w ha hv _ _ rfl rfl (topL_len (valB_iff.1 hv).1)
end Go.Proofs.Ytbmbgdfnhbkelaa
