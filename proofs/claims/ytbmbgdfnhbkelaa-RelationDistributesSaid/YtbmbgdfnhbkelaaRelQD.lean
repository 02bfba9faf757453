/- Walk: RelationDistributes. -/
import Derived.Test.YtbmbgdfnhbkelaaRelW
import Derived.Test.YtbmbgdfnhbkelaaRelP
namespace Go.Proofs.Ytbmbgdfnhbkelaa
open Go Go.RowKit
set_option linter.unusedVariables false

set_option maxRecDepth 100000 in
set_option maxHeartbeats 2000000 in
theorem cRelationDistributes_no1 (a : Option Addr) (na ca : Nat) (fa : Nat → Nat) (b : Option Addr) (nb cb : Nat) (fb : Nat → Nat) (d : Option Addr) (nd cd : Nat) (fd : Nat → Nat) (w : World) (ha : Row w a na fa) (hb : Row w b nb fb) (hd : Row w d nd fd) (hp : pairB na fa nb fb = false) :
    Calls Try.prog 7 #[.slice a na ca, .slice b nb cb, .slice d nd cd] w (Yes w) := by
  have HA := Lib.hid ha
  have HR := Lib.hid hb
  have HD := Lib.hid hd
  clear ha hb hd
  have HP := Lib.hid hp
  clear hp
  have HB := Lib.hid (Below.refl w.heap.size w)
  go_enter Try.func7, Try.ntmps7
  go_wp2_with fail
  refine (pair_any _ _ _ _ _ _ _ _ _ HA.out HR.out).mono ?_
  rintro e w' ⟨rfl, rfl⟩
  rw [HP.out]
  go_wp2_with fail
  refine (awake_any _).mono ?_
  rintro e w1 ⟨rfl, hB⟩
  have HA := Lib.hid (HA.out.keep hB)
  have HR := Lib.hid (HR.out.keep hB)
  have HD := Lib.hid (HD.out.keep hB)
  have HB := Lib.hid (HB.out.trans (hB.mono HB.out.size))
  clear hB
  go_wp2_with fail
  go_ret
  exact ⟨rfl, HB.out⟩

set_option maxRecDepth 100000 in
set_option maxHeartbeats 2000000 in
theorem cRelationDistributes_no2 (a : Option Addr) (na ca : Nat) (fa : Nat → Nat) (b : Option Addr) (nb cb : Nat) (fb : Nat → Nat) (d : Option Addr) (nd cd : Nat) (fd : Nat → Nat) (w : World) (ha : Row w a na fa) (hb : Row w b nb fb) (hd : Row w d nd fd) (hp : pairB na fa nb fb = true) (hq : pairB nb fb nd fd = false) :
    Calls Try.prog 7 #[.slice a na ca, .slice b nb cb, .slice d nd cd] w (Yes w) := by
  have HA := Lib.hid ha
  have HR := Lib.hid hb
  have HD := Lib.hid hd
  clear ha hb hd
  have HP := Lib.hid hp
  have HQ := Lib.hid hq
  clear hp hq
  have HB := Lib.hid (Below.refl w.heap.size w)
  go_enter Try.func7, Try.ntmps7
  go_wp2_with fail
  refine (pair_any _ _ _ _ _ _ _ _ _ HA.out HR.out).mono ?_
  rintro e w' ⟨rfl, rfl⟩
  rw [HP.out]
  go_wp2_with fail
  refine (pair_any _ _ _ _ _ _ _ _ _ HR.out HD.out).mono ?_
  rintro e w' ⟨rfl, rfl⟩
  rw [HQ.out]
  go_wp2_with fail
  refine (awake_any _).mono ?_
  rintro e w1 ⟨rfl, hB⟩
  have HA := Lib.hid (HA.out.keep hB)
  have HR := Lib.hid (HR.out.keep hB)
  have HD := Lib.hid (HD.out.keep hB)
  have HB := Lib.hid (HB.out.trans (hB.mono HB.out.size))
  clear hB
  go_wp2_with fail
  go_ret
  exact ⟨rfl, HB.out⟩

set_option maxRecDepth 100000 in
set_option maxHeartbeats 4000000 in
theorem cRelationDistributes_no3 (n : Nat) (a : Option Addr) (ca : Nat) (fa : Nat → Nat) (b : Option Addr) (cb : Nat) (fb : Nat → Nat) (d : Option Addr) (cd : Nat) (fd : Nat → Nat) (w : World) (ha : Row w a n fa) (hb : Row w b n fb) (hd : Row w d n fd) (hp : pairB n fa n fb = true) (hq : pairB n fb n fd = true) (hn : 24 < n) :
    Calls Try.prog 7 #[.slice a n ca, .slice b n cb, .slice d n cd] w (Yes w) := by
  have HA := Lib.hid ha
  have HR := Lib.hid hb
  have HD := Lib.hid hd
  clear ha hb hd
  have HP := Lib.hid hp
  have HQ := Lib.hid hq
  clear hp hq
  have HB := Lib.hid (Below.refl w.heap.size w)
  go_enter Try.func7, Try.ntmps7
  go_wp2_with fail
  refine (pair_any _ _ _ _ _ _ _ _ _ HA.out HR.out).mono ?_
  rintro e w' ⟨rfl, rfl⟩
  rw [HP.out]
  go_wp2_with fail
  refine (pair_any _ _ _ _ _ _ _ _ _ HR.out HD.out).mono ?_
  rintro e w' ⟨rfl, rfl⟩
  rw [HQ.out]
  go_wp2_with fail
  refine (awake_any _).mono ?_
  rintro e w1 ⟨rfl, hB⟩
  have HA := Lib.hid (HA.out.keep hB)
  have HR := Lib.hid (HR.out.keep hB)
  have HD := Lib.hid (HD.out.keep hB)
  have HB := Lib.hid (HB.out.trans (hB.mono HB.out.size))
  clear hB
  go_wp2_with fail
  go_ret
  exact ⟨rfl, HB.out⟩

set_option maxRecDepth 100000 in
set_option maxHeartbeats 4000000 in
theorem cRelationDistributes_yes (n : Nat) (a : Option Addr) (ca : Nat) (fa : Nat → Nat) (b : Option Addr) (cb : Nat) (fb : Nat → Nat) (d : Option Addr) (cd : Nat) (fd : Nat → Nat) (w : World) (ha : Row w a n fa) (hb : Row w b n fb) (hd : Row w d n fd) (hp : pairB n fa n fb = true) (hq : pairB n fb n fd = true) (hn : n ≤ 24) :
    Calls Try.prog 7 #[.slice a n ca, .slice b n cb, .slice d n cd] w (Yes w) := by
  have HA := Lib.hid ha
  have HR := Lib.hid hb
  have HD := Lib.hid hd
  clear ha hb hd
  have va := (pairB_iff.1 hp).1
  have vb := (pairB_iff.1 hp).2.1
  have vd := (pairB_iff.1 hq).2.1
  have hn64 : n ≤ 64 := by omega
  have HP := Lib.hid (show pairB n fa n fb = true from hp)
  have HQ := Lib.hid (show pairB n fb n fd = true from hq)
  have P1 := Lib.hid (show pairB n fa n (unionF fb fd) = true from pairB_mk va (unionF_val vb vd))
  have P2 := Lib.hid (show pairB n fa n fd = true from pairB_mk va vd)
  have P3 := Lib.hid (show pairB n (compF n fa fb) n (compF n fa fd) = true from pairB_mk (compF_val vb) (compF_val vd))
  have V4 := Lib.hid (show valB n (meetF fa fb) = true from meetF_val va)
  have VA := Lib.hid (show valB n fa = true from va)
  have VR := Lib.hid (show valB n fb = true from vb)
  have P6 := Lib.hid (show pairB n (transF n fa) n (transF n fb) = true from pairB_mk (transF_val hn64) (transF_val hn64))
  have S1 := Lib.hid (show sameB n (compF n fa (unionF fb fd)) n (unionF (compF n fa fb) (compF n fa fd)) = true from sameB_true fun i hi => comp_union i)
  have S2 := Lib.hid (show sameB n (transF n (meetF fa fb)) n (meetF (transF n fa) (transF n fb)) = true from sameB_true fun i hi => trans_meet i)
  clear hp hq va vb vd
  have HB := Lib.hid (Below.refl w.heap.size w)
  go_enter Try.func7, Try.ntmps7
  go_wp2_with fail
  refine (pair_any _ _ _ _ _ _ _ _ _ HA.out HR.out).mono ?_
  rintro e w' ⟨rfl, rfl⟩
  rw [HP.out]
  go_wp2_with fail
  refine (pair_any _ _ _ _ _ _ _ _ _ HR.out HD.out).mono ?_
  rintro e w' ⟨rfl, rfl⟩
  rw [HQ.out]
  go_wp2_with fail
  refine (union_ok _ _ _ _ _ _ _ _ HR.out HD.out HQ.out).mono ?_
  rintro e w1 ⟨r1, c1, rfl, hR, hB⟩
  have HA := Lib.hid (HA.out.keep hB)
  have HR := Lib.hid (HR.out.keep hB)
  have HD := Lib.hid (HD.out.keep hB)
  have HB := Lib.hid (HB.out.trans (hB.mono HB.out.size))
  have HX1 := Lib.hid hR
  clear hR hB
  go_wp2_with fail
  refine (compose_ok _ _ _ _ _ _ _ _ HA.out HX1.out P1.out).mono ?_
  rintro e w2 ⟨r2, c2, rfl, hR, hB⟩
  have HA := Lib.hid (HA.out.keep hB)
  have HR := Lib.hid (HR.out.keep hB)
  have HD := Lib.hid (HD.out.keep hB)
  have HX1 := Lib.hid (HX1.out.keep hB)
  have HB := Lib.hid (HB.out.trans (hB.mono HB.out.size))
  have HX := Lib.hid hR
  clear hR hB
  go_wp2_with fail
  refine (compose_ok _ _ _ _ _ _ _ _ HA.out HR.out HP.out).mono ?_
  rintro e w3 ⟨r3, c3, rfl, hR, hB⟩
  have HA := Lib.hid (HA.out.keep hB)
  have HR := Lib.hid (HR.out.keep hB)
  have HD := Lib.hid (HD.out.keep hB)
  have HX1 := Lib.hid (HX1.out.keep hB)
  have HX := Lib.hid (HX.out.keep hB)
  have HB := Lib.hid (HB.out.trans (hB.mono HB.out.size))
  have HY1 := Lib.hid hR
  clear hR hB
  go_wp2_with fail
  refine (compose_ok _ _ _ _ _ _ _ _ HA.out HD.out P2.out).mono ?_
  rintro e w4 ⟨r4, c4, rfl, hR, hB⟩
  have HA := Lib.hid (HA.out.keep hB)
  have HR := Lib.hid (HR.out.keep hB)
  have HD := Lib.hid (HD.out.keep hB)
  have HX1 := Lib.hid (HX1.out.keep hB)
  have HX := Lib.hid (HX.out.keep hB)
  have HY1 := Lib.hid (HY1.out.keep hB)
  have HB := Lib.hid (HB.out.trans (hB.mono HB.out.size))
  have HY2 := Lib.hid hR
  clear hR hB
  go_wp2_with fail
  refine (union_ok _ _ _ _ _ _ _ _ HY1.out HY2.out P3.out).mono ?_
  rintro e w5 ⟨r5, c5, rfl, hR, hB⟩
  have HA := Lib.hid (HA.out.keep hB)
  have HR := Lib.hid (HR.out.keep hB)
  have HD := Lib.hid (HD.out.keep hB)
  have HX1 := Lib.hid (HX1.out.keep hB)
  have HX := Lib.hid (HX.out.keep hB)
  have HY1 := Lib.hid (HY1.out.keep hB)
  have HY2 := Lib.hid (HY2.out.keep hB)
  have HB := Lib.hid (HB.out.trans (hB.mono HB.out.size))
  have HY := Lib.hid hR
  clear hR hB
  go_wp2_with fail
  refine (meet_ok _ _ _ _ _ _ _ _ HA.out HR.out HP.out).mono ?_
  rintro e w6 ⟨r6, c6, rfl, hR, hB⟩
  have HA := Lib.hid (HA.out.keep hB)
  have HR := Lib.hid (HR.out.keep hB)
  have HD := Lib.hid (HD.out.keep hB)
  have HX1 := Lib.hid (HX1.out.keep hB)
  have HX := Lib.hid (HX.out.keep hB)
  have HY1 := Lib.hid (HY1.out.keep hB)
  have HY2 := Lib.hid (HY2.out.keep hB)
  have HY := Lib.hid (HY.out.keep hB)
  have HB := Lib.hid (HB.out.trans (hB.mono HB.out.size))
  have HT1 := Lib.hid hR
  clear hR hB
  go_wp2_with fail
  refine (trans_ok _ _ _ _ _ HT1.out V4.out).mono ?_
  rintro e w7 ⟨r7, c7, rfl, hR, hB⟩
  have HA := Lib.hid (HA.out.keep hB)
  have HR := Lib.hid (HR.out.keep hB)
  have HD := Lib.hid (HD.out.keep hB)
  have HX1 := Lib.hid (HX1.out.keep hB)
  have HX := Lib.hid (HX.out.keep hB)
  have HY1 := Lib.hid (HY1.out.keep hB)
  have HY2 := Lib.hid (HY2.out.keep hB)
  have HY := Lib.hid (HY.out.keep hB)
  have HT1 := Lib.hid (HT1.out.keep hB)
  have HB := Lib.hid (HB.out.trans (hB.mono HB.out.size))
  have HT := Lib.hid hR
  clear hR hB
  go_wp2_with fail
  refine (same_any _ _ _ _ _ _ _ _ _ HX.out HY.out (by unfold maxLen; omega)).mono ?_
  rintro e w8 ⟨rfl, hB⟩
  rw [S1.out]
  have HA := Lib.hid (HA.out.keep hB)
  have HR := Lib.hid (HR.out.keep hB)
  have HD := Lib.hid (HD.out.keep hB)
  have HX1 := Lib.hid (HX1.out.keep hB)
  have HX := Lib.hid (HX.out.keep hB)
  have HY1 := Lib.hid (HY1.out.keep hB)
  have HY2 := Lib.hid (HY2.out.keep hB)
  have HY := Lib.hid (HY.out.keep hB)
  have HT1 := Lib.hid (HT1.out.keep hB)
  have HT := Lib.hid (HT.out.keep hB)
  have HB := Lib.hid (HB.out.trans (hB.mono HB.out.size))
  clear hB
  go_wp2_with fail
  refine (trans_ok _ _ _ _ _ HA.out VA.out).mono ?_
  rintro e w9 ⟨r9, c9, rfl, hR, hB⟩
  have HA := Lib.hid (HA.out.keep hB)
  have HR := Lib.hid (HR.out.keep hB)
  have HD := Lib.hid (HD.out.keep hB)
  have HX1 := Lib.hid (HX1.out.keep hB)
  have HX := Lib.hid (HX.out.keep hB)
  have HY1 := Lib.hid (HY1.out.keep hB)
  have HY2 := Lib.hid (HY2.out.keep hB)
  have HY := Lib.hid (HY.out.keep hB)
  have HT1 := Lib.hid (HT1.out.keep hB)
  have HT := Lib.hid (HT.out.keep hB)
  have HB := Lib.hid (HB.out.trans (hB.mono HB.out.size))
  have HZ1 := Lib.hid hR
  clear hR hB
  go_wp2_with fail
  refine (trans_ok _ _ _ _ _ HR.out VR.out).mono ?_
  rintro e w10 ⟨r10, c10, rfl, hR, hB⟩
  have HA := Lib.hid (HA.out.keep hB)
  have HR := Lib.hid (HR.out.keep hB)
  have HD := Lib.hid (HD.out.keep hB)
  have HX1 := Lib.hid (HX1.out.keep hB)
  have HX := Lib.hid (HX.out.keep hB)
  have HY1 := Lib.hid (HY1.out.keep hB)
  have HY2 := Lib.hid (HY2.out.keep hB)
  have HY := Lib.hid (HY.out.keep hB)
  have HT1 := Lib.hid (HT1.out.keep hB)
  have HT := Lib.hid (HT.out.keep hB)
  have HZ1 := Lib.hid (HZ1.out.keep hB)
  have HB := Lib.hid (HB.out.trans (hB.mono HB.out.size))
  have HZ2 := Lib.hid hR
  clear hR hB
  go_wp2_with fail
  refine (meet_ok _ _ _ _ _ _ _ _ HZ1.out HZ2.out P6.out).mono ?_
  rintro e w11 ⟨r11, c11, rfl, hR, hB⟩
  have HA := Lib.hid (HA.out.keep hB)
  have HR := Lib.hid (HR.out.keep hB)
  have HD := Lib.hid (HD.out.keep hB)
  have HX1 := Lib.hid (HX1.out.keep hB)
  have HX := Lib.hid (HX.out.keep hB)
  have HY1 := Lib.hid (HY1.out.keep hB)
  have HY2 := Lib.hid (HY2.out.keep hB)
  have HY := Lib.hid (HY.out.keep hB)
  have HT1 := Lib.hid (HT1.out.keep hB)
  have HT := Lib.hid (HT.out.keep hB)
  have HZ1 := Lib.hid (HZ1.out.keep hB)
  have HZ2 := Lib.hid (HZ2.out.keep hB)
  have HB := Lib.hid (HB.out.trans (hB.mono HB.out.size))
  have HZ := Lib.hid hR
  clear hR hB
  go_wp2_with fail
  refine (same_any _ _ _ _ _ _ _ _ _ HT.out HZ.out (by unfold maxLen; omega)).mono ?_
  rintro e w12 ⟨rfl, hB⟩
  rw [S2.out]
  have HA := Lib.hid (HA.out.keep hB)
  have HR := Lib.hid (HR.out.keep hB)
  have HD := Lib.hid (HD.out.keep hB)
  have HX1 := Lib.hid (HX1.out.keep hB)
  have HX := Lib.hid (HX.out.keep hB)
  have HY1 := Lib.hid (HY1.out.keep hB)
  have HY2 := Lib.hid (HY2.out.keep hB)
  have HY := Lib.hid (HY.out.keep hB)
  have HT1 := Lib.hid (HT1.out.keep hB)
  have HT := Lib.hid (HT.out.keep hB)
  have HZ1 := Lib.hid (HZ1.out.keep hB)
  have HZ2 := Lib.hid (HZ2.out.keep hB)
  have HZ := Lib.hid (HZ.out.keep hB)
  have HB := Lib.hid (HB.out.trans (hB.mono HB.out.size))
  clear hB
  go_wp2_with fail
  refine (awake_any _).mono ?_
  rintro e w13 ⟨rfl, hB⟩
  have HA := Lib.hid (HA.out.keep hB)
  have HR := Lib.hid (HR.out.keep hB)
  have HD := Lib.hid (HD.out.keep hB)
  have HX1 := Lib.hid (HX1.out.keep hB)
  have HX := Lib.hid (HX.out.keep hB)
  have HY1 := Lib.hid (HY1.out.keep hB)
  have HY2 := Lib.hid (HY2.out.keep hB)
  have HY := Lib.hid (HY.out.keep hB)
  have HT1 := Lib.hid (HT1.out.keep hB)
  have HT := Lib.hid (HT.out.keep hB)
  have HZ1 := Lib.hid (HZ1.out.keep hB)
  have HZ2 := Lib.hid (HZ2.out.keep hB)
  have HZ := Lib.hid (HZ.out.keep hB)
  have HB := Lib.hid (HB.out.trans (hB.mono HB.out.size))
  clear hB
  go_wp2_with fail
  go_ret
  exact ⟨rfl, HB.out⟩

theorem wRelationDistributes {w : World} (a : Option Addr) (len cap : Nat) (z : List Int) (hz : IntRow .u64 w a len cap z) (b : Option Addr) (len2 cap2 : Nat) (z2 : List Int) (hz2 : IntRow .u64 w b len2 cap2 z2) (d : Option Addr) (len3 cap3 : Nat) (z3 : List Int) (hz3 : IntRow .u64 w d len3 cap3 z3) :
    Calls Try.prog 7 #[.slice a len cap, .slice b len2 cap2, .slice d len3 cap3] w (Yes w) := by
  obtain ⟨f, ha, _⟩ := row_in hz
  obtain ⟨g, hb, _⟩ := row_in hz2
  obtain ⟨h, hd, _⟩ := row_in hz3
  cases hp : pairB len f len2 g
  · exact cRelationDistributes_no1 a len cap f b len2 cap2 g d len3 cap3 h w ha hb hd hp
  cases hq : pairB len2 g len3 h
  · exact cRelationDistributes_no2 a len cap f b len2 cap2 g d len3 cap3 h w ha hb hd hp hq
  obtain rfl := (pairB_iff.1 hp).2.2
  obtain rfl := (pairB_iff.1 hq).2.2
  by_cases hn : len ≤ 24
  · exact cRelationDistributes_yes len a cap f b cap2 g d cap3 h w ha hb hd hp hq hn
  · exact cRelationDistributes_no3 len a cap f b cap2 g d cap3 h w ha hb hd hp hq (by omega)
end Go.Proofs.Ytbmbgdfnhbkelaa
