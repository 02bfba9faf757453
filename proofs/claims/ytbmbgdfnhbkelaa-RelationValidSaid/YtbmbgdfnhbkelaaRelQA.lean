/- Walk: RelationValid. -/
import Derived.Test.YtbmbgdfnhbkelaaRelW
import Derived.Test.YtbmbgdfnhbkelaaRelP
namespace Go.Proofs.Ytbmbgdfnhbkelaa
open Go Go.RowKit
set_option linter.unusedVariables false
set_option maxRecDepth 100000 in
set_option maxHeartbeats 2000000 in
theorem cRelationValid_bad (a : Option Addr) (na ca : Nat) (fa : Nat → Nat) (i : Int) (w : World) (ha : Row w a na fa) (hi : i < 0 ∨ 64 < i) :
    Calls Try.prog 3 #[.slice a na ca, .int .i64 i] w (Yes w) := by
  have HA := Lib.hid ha
  have HI := Lib.hid hi
  clear ha
  cases hv : valB na fa
  all_goals
    have HV := Lib.hid hv
    clear hv
    by_cases h0 : i < 0
    · clear hi
      have HB := Lib.hid (Below.refl w.heap.size w)
      go_enter Try.func3, Try.ntmps3
      go_wp2_with fail
      refine (ident_bad i _ HI.out (fun _ => 0)).mono ?_
      rintro e w1 ⟨r1, c1, rfl, hR, hB⟩
      have HA := Lib.hid (HA.out.keep hB)
      have HB := Lib.hid (HB.out.trans (hB.mono HB.out.size))
      have HI := Lib.hid hR
      clear hR hB
      go_wp2_with fail
      refine (valid_any _ _ _ _ _ HA.out).mono ?_
      rintro e w' ⟨rfl, rfl⟩
      rw [HV.out]
      go_wp2_with fail
      refine (rvalid_any _ _ _ _ _ HA.out).mono ?_
      rintro e w' ⟨rfl, rfl⟩
      rw [HV.out]
      go_wp2_with fail
      refine (awake_any _).mono ?_
      rintro e w2 ⟨rfl, hB⟩
      have HA := Lib.hid (HA.out.keep hB)
      have HI := Lib.hid (HI.out.keep hB)
      have HB := Lib.hid (HB.out.trans (hB.mono HB.out.size))
      clear hB
      go_wp2_with fail
      go_ret
      exact ⟨rfl, HB.out⟩
    · have h1 : 64 < i := by omega
      clear hi
      have HB := Lib.hid (Below.refl w.heap.size w)
      go_enter Try.func3, Try.ntmps3
      go_wp2_with fail
      refine (ident_bad i _ HI.out (fun _ => 0)).mono ?_
      rintro e w1 ⟨r1, c1, rfl, hR, hB⟩
      have HA := Lib.hid (HA.out.keep hB)
      have HB := Lib.hid (HB.out.trans (hB.mono HB.out.size))
      have HI := Lib.hid hR
      clear hR hB
      go_wp2_with fail
      refine (valid_any _ _ _ _ _ HA.out).mono ?_
      rintro e w' ⟨rfl, rfl⟩
      rw [HV.out]
      go_wp2_with fail
      refine (rvalid_any _ _ _ _ _ HA.out).mono ?_
      rintro e w' ⟨rfl, rfl⟩
      rw [HV.out]
      go_wp2_with fail
      refine (awake_any _).mono ?_
      rintro e w2 ⟨rfl, hB⟩
      have HA := Lib.hid (HA.out.keep hB)
      have HI := Lib.hid (HI.out.keep hB)
      have HB := Lib.hid (HB.out.trans (hB.mono HB.out.size))
      clear hB
      go_wp2_with fail
      go_ret
      exact ⟨rfl, HB.out⟩

set_option maxRecDepth 100000 in
set_option maxHeartbeats 2000000 in
theorem cRelationValid_ok (a : Option Addr) (na ca : Nat) (fa : Nat → Nat) (i : Nat) (w : World) (ha : Row w a na fa) (hi : i ≤ 64) :
    Calls Try.prog 3 #[.slice a na ca, .int .i64 i] w (Yes w) := by
  have HA := Lib.hid ha
  have HS := Lib.hid (show sameB i idF i idF = true from sameB_true fun _ _ => rfl)
  have HVI := Lib.hid (idF_val hi)
  clear ha
  cases hv : valB na fa
  all_goals
    have HV := Lib.hid hv
    clear hv
    have HB := Lib.hid (Below.refl w.heap.size w)
    go_enter Try.func3, Try.ntmps3
    go_wp2_with fail
    refine (ident_ok i _ hi).mono ?_
    rintro e w1 ⟨r1, c1, rfl, hR, hB⟩
    have HA := Lib.hid (HA.out.keep hB)
    have HB := Lib.hid (HB.out.trans (hB.mono HB.out.size))
    have HI := Lib.hid hR
    clear hR hB
    go_wp2_with fail
    refine (valid_any _ _ _ _ _ HA.out).mono ?_
    rintro e w' ⟨rfl, rfl⟩
    rw [HV.out]
    go_wp2_with fail
    refine (rvalid_any _ _ _ _ _ HA.out).mono ?_
    rintro e w' ⟨rfl, rfl⟩
    rw [HV.out]
    go_wp2_with fail
    refine (rident_ok i _ hi).mono ?_
    rintro e w2 ⟨r2, c2, rfl, hR, hB⟩
    have HA := Lib.hid (HA.out.keep hB)
    have HI := Lib.hid (HI.out.keep hB)
    have HB := Lib.hid (HB.out.trans (hB.mono HB.out.size))
    have HJ := Lib.hid hR
    clear hR hB
    go_wp2_with fail
    refine (same_any _ _ _ _ _ _ _ _ _ HI.out HJ.out (by unfold maxLen; omega)).mono ?_
    rintro e w3 ⟨rfl, hB⟩
    rw [HS.out]
    have HA := Lib.hid (HA.out.keep hB)
    have HI := Lib.hid (HI.out.keep hB)
    have HJ := Lib.hid (HJ.out.keep hB)
    have HB := Lib.hid (HB.out.trans (hB.mono HB.out.size))
    clear hB
    go_wp2_with fail
    refine (valid_any _ _ _ _ _ HI.out).mono ?_
    rintro e w' ⟨rfl, rfl⟩
    rw [HVI.out]
    go_wp2_with fail
    refine (awake_any _).mono ?_
    rintro e w4 ⟨rfl, hB⟩
    have HA := Lib.hid (HA.out.keep hB)
    have HI := Lib.hid (HI.out.keep hB)
    have HJ := Lib.hid (HJ.out.keep hB)
    have HB := Lib.hid (HB.out.trans (hB.mono HB.out.size))
    clear hB
    go_wp2_with fail
    go_ret
    exact ⟨rfl, HB.out⟩

theorem wRelationValid {w : World} (a : Option Addr) (len cap : Nat) (z : List Int) (hz : IntRow .u64 w a len cap z) (i : Int) (_ : (Lit.int .i64 i).wf = true) :
    Calls Try.prog 3 #[.slice a len cap, .int .i64 i] w (Yes w) := by
  obtain ⟨f, ha, _⟩ := row_in hz
  by_cases hi : i < 0 ∨ 64 < i
  · exact cRelationValid_bad a len cap f i w ha hi
  · obtain ⟨n, rfl⟩ := Int.eq_ofNat_of_zero_le (show 0 ≤ i by omega)
    exact cRelationValid_ok a len cap f n w ha (by omega)
end Go.Proofs.Ytbmbgdfnhbkelaa
