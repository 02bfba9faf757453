/- Walks: RelationComposes, RelationCloses. -/
import Derived.Test.YtbmbgdfnhbkelaaRelW
import Derived.Test.YtbmbgdfnhbkelaaRelP
namespace Go.Proofs.Ytbmbgdfnhbkelaa
open Go Go.RowKit
set_option linter.unusedVariables false

set_option maxRecDepth 100000 in
set_option maxHeartbeats 4000000 in
theorem cRelationComposes_yes (n : Nat) (a : Option Addr) (ca : Nat) (fa : Nat → Nat) (b : Option Addr) (cb : Nat) (fb : Nat → Nat) (w : World) (ha : Row w a n fa) (hb : Row w b n fb) (hp : pairB n fa n fb = true) :
    Calls Try.prog 4 #[.slice a n ca, .slice b n cb] w (Yes w) := by
  have HA := Lib.hid ha
  have HR := Lib.hid hb
  clear ha hb
  have HP := Lib.hid hp
  have hn := (valB_iff.1 (pairB_iff.1 hp).1).1
  have HS := Lib.hid (show sameB n (compF n fa fb) n (compF n fa fb) = true from sameB_true fun _ _ => rfl)
  clear hp
  have HB := Lib.hid (Below.refl w.heap.size w)
  go_enter Try.func4, Try.ntmps4
  go_wp2_with fail
  refine (compose_ok _ _ _ _ _ _ _ _ HA.out HR.out HP.out).mono ?_
  rintro e w1 ⟨r1, c1, rfl, hR, hB⟩
  have HA := Lib.hid (HA.out.keep hB)
  have HR := Lib.hid (HR.out.keep hB)
  have HB := Lib.hid (HB.out.trans (hB.mono HB.out.size))
  have HC := Lib.hid hR
  clear hR hB
  go_wp2_with fail
  refine (pair_any _ _ _ _ _ _ _ _ _ HA.out HR.out).mono ?_
  rintro e w' ⟨rfl, rfl⟩
  rw [HP.out]
  go_wp2_with fail
  refine (rcompose_ok _ _ _ _ _ _ _ _ HA.out HR.out HP.out).mono ?_
  rintro e w2 ⟨r2, c2, rfl, hR, hB⟩
  have HA := Lib.hid (HA.out.keep hB)
  have HR := Lib.hid (HR.out.keep hB)
  have HC := Lib.hid (HC.out.keep hB)
  have HB := Lib.hid (HB.out.trans (hB.mono HB.out.size))
  have HD := Lib.hid hR
  clear hR hB
  go_wp2_with fail
  refine (same_any _ _ _ _ _ _ _ _ _ HC.out HD.out (by unfold maxLen; omega)).mono ?_
  rintro e w3 ⟨rfl, hB⟩
  rw [HS.out]
  have HA := Lib.hid (HA.out.keep hB)
  have HR := Lib.hid (HR.out.keep hB)
  have HC := Lib.hid (HC.out.keep hB)
  have HD := Lib.hid (HD.out.keep hB)
  have HB := Lib.hid (HB.out.trans (hB.mono HB.out.size))
  clear hB
  go_wp2_with fail
  refine (awake_any _).mono ?_
  rintro e w4 ⟨rfl, hB⟩
  have HA := Lib.hid (HA.out.keep hB)
  have HR := Lib.hid (HR.out.keep hB)
  have HC := Lib.hid (HC.out.keep hB)
  have HD := Lib.hid (HD.out.keep hB)
  have HB := Lib.hid (HB.out.trans (hB.mono HB.out.size))
  clear hB
  go_wp2_with fail
  go_ret
  exact ⟨rfl, HB.out⟩

set_option maxRecDepth 100000 in
set_option maxHeartbeats 2000000 in
theorem cRelationComposes_no (a : Option Addr) (na ca : Nat) (fa : Nat → Nat) (b : Option Addr) (nb cb : Nat) (fb : Nat → Nat) (w : World) (ha : Row w a na fa) (hb : Row w b nb fb) (hp : pairB na fa nb fb = false) :
    Calls Try.prog 4 #[.slice a na ca, .slice b nb cb] w (Yes w) := by
  have HA := Lib.hid ha
  have HR := Lib.hid hb
  clear ha hb
  have HP := Lib.hid hp
  clear hp
  have HB := Lib.hid (Below.refl w.heap.size w)
  go_enter Try.func4, Try.ntmps4
  go_wp2_with fail
  refine (compose_no _ _ _ _ _ _ _ _ _ HA.out HR.out HP.out (fun _ => 0)).mono ?_
  rintro e w1 ⟨r1, c1, rfl, hR, hB⟩
  have HA := Lib.hid (HA.out.keep hB)
  have HR := Lib.hid (HR.out.keep hB)
  have HB := Lib.hid (HB.out.trans (hB.mono HB.out.size))
  have HC := Lib.hid hR
  clear hR hB
  go_wp2_with fail
  refine (pair_any _ _ _ _ _ _ _ _ _ HA.out HR.out).mono ?_
  rintro e w' ⟨rfl, rfl⟩
  rw [HP.out]
  go_wp2_with fail
  refine (awake_any _).mono ?_
  rintro e w2 ⟨rfl, hB⟩
  have HA := Lib.hid (HA.out.keep hB)
  have HR := Lib.hid (HR.out.keep hB)
  have HC := Lib.hid (HC.out.keep hB)
  have HB := Lib.hid (HB.out.trans (hB.mono HB.out.size))
  clear hB
  go_wp2_with fail
  go_ret
  exact ⟨rfl, HB.out⟩

theorem wRelationComposes {w : World} (a : Option Addr) (len cap : Nat) (z : List Int) (hz : IntRow .u64 w a len cap z) (b : Option Addr) (len2 cap2 : Nat) (z2 : List Int) (hz2 : IntRow .u64 w b len2 cap2 z2) :
    Calls Try.prog 4 #[.slice a len cap, .slice b len2 cap2] w (Yes w) := by
  obtain ⟨f, ha, _⟩ := row_in hz
  obtain ⟨g, hb, _⟩ := row_in hz2
  cases hp : pairB len f len2 g
  · exact cRelationComposes_no a len cap f b len2 cap2 g w ha hb hp
  · obtain rfl := (pairB_iff.1 hp).2.2
    exact cRelationComposes_yes len a cap f b cap2 g w ha hb hp

set_option maxRecDepth 100000 in
set_option maxHeartbeats 2000000 in
theorem cRelationCloses_yes (a : Option Addr) (n c : Nat) (f : Nat → Nat) (w : World) (ha : Row w a n f) (hnil : a = none → n = 0 ∧ c = 0) (hv : valB n f = true) :
    Calls Try.prog 8 #[.slice a n c] w (Yes w) := by
  have HA := Lib.hid ha
  have HV := Lib.hid hv
  have HN := Lib.hid hnil
  have hn := (valB_iff.1 hv).1
  have HS := Lib.hid (show sameB n (clF n f) n (clF n f) = true from sameB_true fun _ _ => rfl)
  clear ha hv hnil
  have HB := Lib.hid (Below.refl w.heap.size w)
  go_enter Try.func8, Try.ntmps8
  go_wp2_with fail
  refine (closure_ok _ _ _ _ _ HA.out HV.out).mono ?_
  rintro e w1 ⟨r1, c1, rfl, hR, hB⟩
  have HA := Lib.hid (HA.out.keep hB)
  have HB := Lib.hid (HB.out.trans (hB.mono HB.out.size))
  have HC := Lib.hid hR
  clear hR hB
  go_wp2_with fail
  refine (rvalid_any _ _ _ _ _ HA.out).mono ?_
  rintro e w' ⟨rfl, rfl⟩
  rw [HV.out]
  go_wp2_with fail
  refine (rclosure_ok _ _ _ _ _ HA.out hn HN.out).mono ?_
  rintro e w2 ⟨r2, c2, rfl, hR, hB⟩
  have HA := Lib.hid (HA.out.keep hB)
  have HC := Lib.hid (HC.out.keep hB)
  have HB := Lib.hid (HB.out.trans (hB.mono HB.out.size))
  have HD := Lib.hid hR
  clear hR hB
  go_wp2_with fail
  refine (same_any _ _ _ _ _ _ _ _ _ HC.out HD.out (by unfold maxLen; omega)).mono ?_
  rintro e w3 ⟨rfl, hB⟩
  rw [HS.out]
  have HA := Lib.hid (HA.out.keep hB)
  have HC := Lib.hid (HC.out.keep hB)
  have HD := Lib.hid (HD.out.keep hB)
  have HB := Lib.hid (HB.out.trans (hB.mono HB.out.size))
  clear hB
  go_wp2_with fail
  refine (awake_any _).mono ?_
  rintro e w4 ⟨rfl, hB⟩
  have HA := Lib.hid (HA.out.keep hB)
  have HC := Lib.hid (HC.out.keep hB)
  have HD := Lib.hid (HD.out.keep hB)
  have HB := Lib.hid (HB.out.trans (hB.mono HB.out.size))
  clear hB
  go_wp2_with fail
  go_ret
  exact ⟨rfl, HB.out⟩

set_option maxRecDepth 100000 in
set_option maxHeartbeats 2000000 in
theorem cRelationCloses_no (a : Option Addr) (n c : Nat) (f : Nat → Nat) (w : World) (ha : Row w a n f) (hv : valB n f = false) :
    Calls Try.prog 8 #[.slice a n c] w (Yes w) := by
  have HA := Lib.hid ha
  have HV := Lib.hid hv
  clear ha hv
  have HB := Lib.hid (Below.refl w.heap.size w)
  go_enter Try.func8, Try.ntmps8
  go_wp2_with fail
  refine (closure_no _ _ _ _ _ HA.out HV.out (fun _ => 0)).mono ?_
  rintro e w1 ⟨r1, c1, rfl, hR, hB⟩
  have HA := Lib.hid (HA.out.keep hB)
  have HB := Lib.hid (HB.out.trans (hB.mono HB.out.size))
  have HC := Lib.hid hR
  clear hR hB
  go_wp2_with fail
  refine (rvalid_any _ _ _ _ _ HA.out).mono ?_
  rintro e w' ⟨rfl, rfl⟩
  rw [HV.out]
  go_wp2_with fail
  refine (awake_any _).mono ?_
  rintro e w2 ⟨rfl, hB⟩
  have HA := Lib.hid (HA.out.keep hB)
  have HC := Lib.hid (HC.out.keep hB)
  have HB := Lib.hid (HB.out.trans (hB.mono HB.out.size))
  clear hB
  go_wp2_with fail
  go_ret
  exact ⟨rfl, HB.out⟩

theorem wRelationCloses {w : World} (a : Option Addr) (len cap : Nat) (z : List Int) (hz : IntRow .u64 w a len cap z) :
    Calls Try.prog 8 #[.slice a len cap] w (Yes w) := by
  obtain ⟨f, ha, hnil⟩ := row_in hz
  cases hv : valB len f
  · exact cRelationCloses_no a len cap f w ha hv
  · exact cRelationCloses_yes a len cap f w ha hnil hv
end Go.Proofs.Ytbmbgdfnhbkelaa
