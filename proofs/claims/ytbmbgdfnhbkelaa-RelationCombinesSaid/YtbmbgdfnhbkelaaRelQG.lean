/- Walk: RelationCombines. -/
import Derived.Test.YtbmbgdfnhbkelaaRelW
import Derived.Test.YtbmbgdfnhbkelaaRelP
namespace Go.Proofs.Ytbmbgdfnhbkelaa
open Go Go.RowKit
set_option linter.unusedVariables false

set_option maxRecDepth 100000 in
set_option maxHeartbeats 2000000 in
theorem cRelationCombines_bad (a : Option Addr) (na ca : Nat) (fa : Nat → Nat) (b : Option Addr) (nb cb : Nat) (fb : Nat → Nat) (w : World) (ha : Row w a na fa) (hb : Row w b nb fb) (hv : valB na fa = false) :
    Calls Try.prog 6 #[.slice a na ca, .slice b nb cb] w (Yes w) := by
  have HA := Lib.hid ha
  have HR := Lib.hid hb
  clear ha hb
  have HV := Lib.hid hv
  have HP := Lib.hid (show pairB na fa nb fb = false by simp [pairB, hv])
  clear hv
  have HB := Lib.hid (Below.refl w.heap.size w)
  go_enter Try.func6, Try.ntmps6
  go_wp2_with fail
  refine (union_no _ _ _ _ _ _ _ _ _ HA.out HR.out HP.out (fun _ => 0)).mono ?_
  rintro e w1 ⟨r1, c1, rfl, hR, hB⟩
  have HA := Lib.hid (HA.out.keep hB)
  have HR := Lib.hid (HR.out.keep hB)
  have HB := Lib.hid (HB.out.trans (hB.mono HB.out.size))
  have HU := Lib.hid hR
  clear hR hB
  go_wp2_with fail
  refine (meet_no _ _ _ _ _ _ _ _ _ HA.out HR.out HP.out (fun _ => 0)).mono ?_
  rintro e w2 ⟨r2, c2, rfl, hR, hB⟩
  have HA := Lib.hid (HA.out.keep hB)
  have HR := Lib.hid (HR.out.keep hB)
  have HU := Lib.hid (HU.out.keep hB)
  have HB := Lib.hid (HB.out.trans (hB.mono HB.out.size))
  have HM := Lib.hid hR
  clear hR hB
  go_wp2_with fail
  refine (trans_no _ _ _ _ _ HA.out HV.out (fun _ => 0)).mono ?_
  rintro e w3 ⟨r3, c3, rfl, hR, hB⟩
  have HA := Lib.hid (HA.out.keep hB)
  have HR := Lib.hid (HR.out.keep hB)
  have HU := Lib.hid (HU.out.keep hB)
  have HM := Lib.hid (HM.out.keep hB)
  have HB := Lib.hid (HB.out.trans (hB.mono HB.out.size))
  have HT := Lib.hid hR
  clear hR hB
  go_wp2_with fail
  refine (rvalid_any _ _ _ _ _ HA.out).mono ?_
  rintro e w' ⟨rfl, rfl⟩
  rw [HV.out]
  go_wp2_with fail
  refine (awake_any _).mono ?_
  rintro e w4 ⟨rfl, hB⟩
  have HA := Lib.hid (HA.out.keep hB)
  have HR := Lib.hid (HR.out.keep hB)
  have HU := Lib.hid (HU.out.keep hB)
  have HM := Lib.hid (HM.out.keep hB)
  have HT := Lib.hid (HT.out.keep hB)
  have HB := Lib.hid (HB.out.trans (hB.mono HB.out.size))
  clear hB
  go_wp2_with fail
  go_ret
  exact ⟨rfl, HB.out⟩

set_option maxRecDepth 100000 in
set_option maxHeartbeats 2000000 in
theorem cRelationCombines_no (a : Option Addr) (na ca : Nat) (fa : Nat → Nat) (b : Option Addr) (nb cb : Nat) (fb : Nat → Nat) (w : World) (ha : Row w a na fa) (hb : Row w b nb fb) (hv : valB na fa = true) (hp : pairB na fa nb fb = false) :
    Calls Try.prog 6 #[.slice a na ca, .slice b nb cb] w (Yes w) := by
  have HA := Lib.hid ha
  have HR := Lib.hid hb
  clear ha hb
  have HV := Lib.hid hv
  have HP := Lib.hid hp
  have hn := (valB_iff.1 hv).1
  have S1 := Lib.hid (show sameB na (transF na fa) na (transF na fa) = true from sameB_true fun _ _ => rfl)
  clear hv hp
  have HB := Lib.hid (Below.refl w.heap.size w)
  go_enter Try.func6, Try.ntmps6
  go_wp2_with fail
  refine (union_no _ _ _ _ _ _ _ _ _ HA.out HR.out HP.out (fun _ => 0)).mono ?_
  rintro e w1 ⟨r1, c1, rfl, hR, hB⟩
  have HA := Lib.hid (HA.out.keep hB)
  have HR := Lib.hid (HR.out.keep hB)
  have HB := Lib.hid (HB.out.trans (hB.mono HB.out.size))
  have HU := Lib.hid hR
  clear hR hB
  go_wp2_with fail
  refine (meet_no _ _ _ _ _ _ _ _ _ HA.out HR.out HP.out (fun _ => 0)).mono ?_
  rintro e w2 ⟨r2, c2, rfl, hR, hB⟩
  have HA := Lib.hid (HA.out.keep hB)
  have HR := Lib.hid (HR.out.keep hB)
  have HU := Lib.hid (HU.out.keep hB)
  have HB := Lib.hid (HB.out.trans (hB.mono HB.out.size))
  have HM := Lib.hid hR
  clear hR hB
  go_wp2_with fail
  refine (trans_ok _ _ _ _ _ HA.out HV.out).mono ?_
  rintro e w3 ⟨r3, c3, rfl, hR, hB⟩
  have HA := Lib.hid (HA.out.keep hB)
  have HR := Lib.hid (HR.out.keep hB)
  have HU := Lib.hid (HU.out.keep hB)
  have HM := Lib.hid (HM.out.keep hB)
  have HB := Lib.hid (HB.out.trans (hB.mono HB.out.size))
  have HT := Lib.hid hR
  clear hR hB
  go_wp2_with fail
  refine (rvalid_any _ _ _ _ _ HA.out).mono ?_
  rintro e w' ⟨rfl, rfl⟩
  rw [HV.out]
  go_wp2_with fail
  refine (rtrans_ok _ _ _ _ _ HA.out hn).mono ?_
  rintro e w4 ⟨r4, c4, rfl, hR, hB⟩
  have HA := Lib.hid (HA.out.keep hB)
  have HR := Lib.hid (HR.out.keep hB)
  have HU := Lib.hid (HU.out.keep hB)
  have HM := Lib.hid (HM.out.keep hB)
  have HT := Lib.hid (HT.out.keep hB)
  have HB := Lib.hid (HB.out.trans (hB.mono HB.out.size))
  have HQ := Lib.hid hR
  clear hR hB
  go_wp2_with fail
  refine (same_any _ _ _ _ _ _ _ _ _ HT.out HQ.out (by unfold maxLen; omega)).mono ?_
  rintro e w5 ⟨rfl, hB⟩
  rw [S1.out]
  have HA := Lib.hid (HA.out.keep hB)
  have HR := Lib.hid (HR.out.keep hB)
  have HU := Lib.hid (HU.out.keep hB)
  have HM := Lib.hid (HM.out.keep hB)
  have HT := Lib.hid (HT.out.keep hB)
  have HQ := Lib.hid (HQ.out.keep hB)
  have HB := Lib.hid (HB.out.trans (hB.mono HB.out.size))
  clear hB
  go_wp2_with fail
  refine (pair_any _ _ _ _ _ _ _ _ _ HA.out HR.out).mono ?_
  rintro e w' ⟨rfl, rfl⟩
  rw [HP.out]
  go_wp2_with fail
  refine (awake_any _).mono ?_
  rintro e w6 ⟨rfl, hB⟩
  have HA := Lib.hid (HA.out.keep hB)
  have HR := Lib.hid (HR.out.keep hB)
  have HU := Lib.hid (HU.out.keep hB)
  have HM := Lib.hid (HM.out.keep hB)
  have HT := Lib.hid (HT.out.keep hB)
  have HQ := Lib.hid (HQ.out.keep hB)
  have HB := Lib.hid (HB.out.trans (hB.mono HB.out.size))
  clear hB
  go_wp2_with fail
  go_ret
  exact ⟨rfl, HB.out⟩

set_option maxRecDepth 100000 in
set_option maxHeartbeats 4000000 in
theorem cRelationCombines_yes (n : Nat) (a : Option Addr) (ca : Nat) (fa : Nat → Nat) (b : Option Addr) (cb : Nat) (fb : Nat → Nat) (w : World) (ha : Row w a n fa) (hb : Row w b n fb) (hp : pairB n fa n fb = true) :
    Calls Try.prog 6 #[.slice a n ca, .slice b n cb] w (Yes w) := by
  have HA := Lib.hid ha
  have HR := Lib.hid hb
  clear ha hb
  have HV := Lib.hid (pairB_iff.1 hp).1
  have HP := Lib.hid hp
  have hn := (valB_iff.1 (pairB_iff.1 hp).1).1
  have S1 := Lib.hid (show sameB n (transF n fa) n (transF n fa) = true from sameB_true fun _ _ => rfl)
  clear hp
  have HB := Lib.hid (Below.refl w.heap.size w)
  go_enter Try.func6, Try.ntmps6
  go_wp2_with fail
  refine (union_ok _ _ _ _ _ _ _ _ HA.out HR.out HP.out).mono ?_
  rintro e w1 ⟨r1, c1, rfl, hR, hB⟩
  have HA := Lib.hid (HA.out.keep hB)
  have HR := Lib.hid (HR.out.keep hB)
  have HB := Lib.hid (HB.out.trans (hB.mono HB.out.size))
  have HU := Lib.hid hR
  clear hR hB
  go_wp2_with fail
  refine (meet_ok _ _ _ _ _ _ _ _ HA.out HR.out HP.out).mono ?_
  rintro e w2 ⟨r2, c2, rfl, hR, hB⟩
  have HA := Lib.hid (HA.out.keep hB)
  have HR := Lib.hid (HR.out.keep hB)
  have HU := Lib.hid (HU.out.keep hB)
  have HB := Lib.hid (HB.out.trans (hB.mono HB.out.size))
  have HM := Lib.hid hR
  clear hR hB
  go_wp2_with fail
  refine (trans_ok _ _ _ _ _ HA.out HV.out).mono ?_
  rintro e w3 ⟨r3, c3, rfl, hR, hB⟩
  have HA := Lib.hid (HA.out.keep hB)
  have HR := Lib.hid (HR.out.keep hB)
  have HU := Lib.hid (HU.out.keep hB)
  have HM := Lib.hid (HM.out.keep hB)
  have HB := Lib.hid (HB.out.trans (hB.mono HB.out.size))
  have HT := Lib.hid hR
  clear hR hB
  go_wp2_with fail
  refine (rvalid_any _ _ _ _ _ HA.out).mono ?_
  rintro e w' ⟨rfl, rfl⟩
  rw [HV.out]
  go_wp2_with fail
  refine (rtrans_ok _ _ _ _ _ HA.out hn).mono ?_
  rintro e w4 ⟨r4, c4, rfl, hR, hB⟩
  have HA := Lib.hid (HA.out.keep hB)
  have HR := Lib.hid (HR.out.keep hB)
  have HU := Lib.hid (HU.out.keep hB)
  have HM := Lib.hid (HM.out.keep hB)
  have HT := Lib.hid (HT.out.keep hB)
  have HB := Lib.hid (HB.out.trans (hB.mono HB.out.size))
  have HQ := Lib.hid hR
  clear hR hB
  go_wp2_with fail
  refine (same_any _ _ _ _ _ _ _ _ _ HT.out HQ.out (by unfold maxLen; omega)).mono ?_
  rintro e w5 ⟨rfl, hB⟩
  rw [S1.out]
  have HA := Lib.hid (HA.out.keep hB)
  have HR := Lib.hid (HR.out.keep hB)
  have HU := Lib.hid (HU.out.keep hB)
  have HM := Lib.hid (HM.out.keep hB)
  have HT := Lib.hid (HT.out.keep hB)
  have HQ := Lib.hid (HQ.out.keep hB)
  have HB := Lib.hid (HB.out.trans (hB.mono HB.out.size))
  clear hB
  go_wp2_with fail
  refine (pair_any _ _ _ _ _ _ _ _ _ HA.out HR.out).mono ?_
  rintro e w' ⟨rfl, rfl⟩
  rw [HP.out]
  go_wp2_with fail
  obtain ⟨W0, hW0⟩ : ∃ W0 : World, W0 = w := ⟨_, rfl⟩
  go_loopw [70] (fun vi wr => ∃ i : Nat, i ≤ n ∧ vi = .int .i64 i ∧ Row wr a n fa ∧ Row wr b n fb ∧ Row wr r1 n (unionF fa fb) ∧ Row wr r2 n (meetF fa fb) ∧ Below w.heap.size w wr) (fun vi _ => n - (intOf vi).toNat)
  case atStart => exact ⟨0, Nat.zero_le _, rfl, HA.out, HR.out, HU.out, HM.out, HB.out⟩
  case round =>
    obtain ⟨i, hi1, rfl, h1, h2, h3, h4, hb⟩ := hrel
    have K1 := Lib.hid h1
    have K2 := Lib.hid h2
    have K3 := Lib.hid h3
    have K4 := Lib.hid h4
    have HBr := Lib.hid hb
    clear h1 h2 h3 h4 hb
    by_cases hlt : i < n
    · rcases K1.out with h0 | ⟨b1, o1, rfl, hz1, q1⟩
      · omega
      rcases K2.out with h0 | ⟨b2, o2, rfl, hz2, q2⟩
      · omega
      rcases K3.out with h0 | ⟨b3, o3, rfl, hz3, q3⟩
      · omega
      rcases K4.out with h0 | ⟨b4, o4, rfl, hz4, q4⟩
      · omega
      have e1 := (q1 i hlt).1
      have e2 := (q2 i hlt).1
      have e3 := (q3 i hlt).1
      have e4 := (q4 i hlt).1
      have t1 : bits .or .u64 (fa i : Int) (fb i : Int) = (unionF fa fb i : Int) := u_or (q1 i hlt).2 (q2 i hlt).2
      have t2 : bits .and .u64 (fa i : Int) (fb i : Int) = (meetF fa fb i : Int) := u_and (q1 i hlt).2 (q2 i hlt).2
      clear q1 q2 q3 q4 hW0
      generalize unionF fa fb i = x at *
      generalize meetF fa fb i = y at *
      have x0 : ((x : Int) != (x : Int)) = false := by simp
      have y0 : ((y : Int) != (y : Int)) = false := by simp
      have hi0 : (0 : Int) ≤ (i : Int) := by omega
      have hin : (i : Int) < (n : Int) := by omega
      go_wp2_with fail
      go_quiet (fail)
      go_wp2_with fail
      have hd := below_drewN (Below.refl wr.heap.size wr)
      exact ⟨⟨i + 1, by omega, by go_num, K1.out.keep (hd _), K2.out.keep (hd _), K3.out.keep (hd _), K4.out.keep (hd _), below_drewN HBr.out _⟩, by simp [intOf]; omega⟩
    · go_wp2_with fail
      refine (awake_any _).mono ?_
      rintro e w9 ⟨rfl, hB⟩
      have HB9 := Lib.hid (HBr.out.trans (hB.mono HBr.out.size))
      clear hB
      go_wp2_with fail
      go_ret
      exact ⟨rfl, HB9.out⟩

theorem wRelationCombines {w : World} (a : Option Addr) (len cap : Nat) (z : List Int) (hz : IntRow .u64 w a len cap z) (b : Option Addr) (len2 cap2 : Nat) (z2 : List Int) (hz2 : IntRow .u64 w b len2 cap2 z2) :
    Calls Try.prog 6 #[.slice a len cap, .slice b len2 cap2] w (Yes w) := by
  obtain ⟨f, ha, _⟩ := row_in hz
  obtain ⟨g, hb, _⟩ := row_in hz2
  cases hv : valB len f
  · exact cRelationCombines_bad a len cap f b len2 cap2 g w ha hb hv
  cases hp : pairB len f len2 g
  · exact cRelationCombines_no a len cap f b len2 cap2 g w ha hb hv hp
  · obtain rfl := (pairB_iff.1 hp).2.2
    exact cRelationCombines_yes len a cap f b cap2 g w ha hb hp
end Go.Proofs.Ytbmbgdfnhbkelaa
