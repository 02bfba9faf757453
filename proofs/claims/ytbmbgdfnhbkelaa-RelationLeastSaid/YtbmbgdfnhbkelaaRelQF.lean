/- Walk: RelationLeast. -/
import Derived.Test.YtbmbgdfnhbkelaaRelW
import Derived.Test.YtbmbgdfnhbkelaaRelR
namespace Go.Proofs.Ytbmbgdfnhbkelaa
open Go Go.RowKit
set_option linter.unusedVariables false

set_option maxRecDepth 100000 in
set_option maxHeartbeats 2000000 in
theorem cRelationLeast_bad (a : Option Addr) (na ca : Nat) (fa : Nat → Nat) (b : Option Addr) (nb cb : Nat) (fb : Nat → Nat) (w : World) (ha : Row w a na fa) (hb : Row w b nb fb) (hv : valB na fa = false) :
    Calls Try.prog 9 #[.slice a na ca, .slice b nb cb] w (Yes w) := by
  have HA := Lib.hid ha
  have HR := Lib.hid hb
  clear ha hb
  have HV := Lib.hid hv
  clear hv
  have HB := Lib.hid (Below.refl w.heap.size w)
  go_enter Try.func9, Try.ntmps9
  go_wp2_with fail
  refine (rvalid_any _ _ _ _ _ HA.out).mono ?_
  rintro e w' ⟨rfl, rfl⟩
  rw [HV.out]
  go_wp2_with fail
  refine (awake_any _).mono ?_
  rintro e w1 ⟨rfl, hB⟩
  have HA := Lib.hid (HA.out.keep hB)
  have HR := Lib.hid (HR.out.keep hB)
  have HB := Lib.hid (HB.out.trans (hB.mono HB.out.size))
  clear hB
  go_wp2_with fail
  go_ret
  exact ⟨rfl, HB.out⟩

set_option maxRecDepth 100000 in
set_option maxHeartbeats 2000000 in
theorem cRelationLeast_long (a : Option Addr) (na ca : Nat) (fa : Nat → Nat) (b : Option Addr) (nb cb : Nat) (fb : Nat → Nat) (w : World) (ha : Row w a na fa) (hb : Row w b nb fb) (hv : valB na fa = true) (hn : 24 < na) :
    Calls Try.prog 9 #[.slice a na ca, .slice b nb cb] w (Yes w) := by
  have HA := Lib.hid ha
  have HR := Lib.hid hb
  clear ha hb
  have HV := Lib.hid hv
  clear hv
  have HB := Lib.hid (Below.refl w.heap.size w)
  go_enter Try.func9, Try.ntmps9
  go_wp2_with fail
  refine (rvalid_any _ _ _ _ _ HA.out).mono ?_
  rintro e w' ⟨rfl, rfl⟩
  rw [HV.out]
  go_wp2_with fail
  refine (awake_any _).mono ?_
  rintro e w1 ⟨rfl, hB⟩
  have HA := Lib.hid (HA.out.keep hB)
  have HR := Lib.hid (HR.out.keep hB)
  have HB := Lib.hid (HB.out.trans (hB.mono HB.out.size))
  clear hB
  go_wp2_with fail
  go_ret
  exact ⟨rfl, HB.out⟩

set_option maxRecDepth 100000 in
set_option maxHeartbeats 4000000 in
theorem cRelationLeast_yes (n : Nat) (a : Option Addr) (ca : Nat) (fa : Nat → Nat) (b : Option Addr) (cb : Nat) (fb : Nat → Nat) (w : World) (ha : Row w a n fa) (hb : Row w b n fb) (hp : pairB n fa n fb = true) (hn : n ≤ 24) :
    Calls Try.prog 9 #[.slice a n ca, .slice b n cb] w (Yes w) := by
  have HA := Lib.hid ha
  have HR := Lib.hid hb
  clear ha hb
  have va := (pairB_iff.1 hp).1
  have vb := (pairB_iff.1 hp).2.1
  have hn64 : n ≤ 64 := by omega
  have hc := clF_val va
  have VA := Lib.hid (show valB n fa = true from va)
  have HP := Lib.hid (show pairB n fa n fb = true from hp)
  have P1 := Lib.hid (show pairB n (clF n fa) n (clF n fa) = true from pairB_mk hc hc)
  have P2 := Lib.hid (show pairB n (clF n fa) n fa = true from pairB_mk hc va)
  have P3 := Lib.hid (show pairB n (clF n fa) n idF = true from pairB_mk hc (idF_val hn64))
  have S1 := Lib.hid (show sameB n (compF n (clF n fa) (clF n fa)) n (clF n fa) = true from sameB_true fun i hi => cl_square hi)
  have S2 := Lib.hid (show sameB n (unionF (clF n fa) fa) n (clF n fa) = true from sameB_true fun i hi => cl_union_self i)
  have S3 := Lib.hid (show sameB n (unionF (clF n fa) idF) n (clF n fa) = true from sameB_true fun i hi => cl_union_id i)
  have V4 := Lib.hid (show valB n (unionF fa fb) = true from unionF_val va vb)
  have P5 := Lib.hid (show pairB n (clF n fa) n (clF n (unionF fa fb)) = true from pairB_mk hc (clF_val (unionF_val va vb)))
  have P6 := Lib.hid (show pairB n (clF n fa) n fb = true from pairB_mk hc vb)
  have V7 := Lib.hid (show valB n (unionF (clF n fa) fb) = true from unionF_val hc vb)
  have S4 := Lib.hid (show sameB n (unionF (clF n fa) (clF n (unionF fa fb))) n (clF n (unionF fa fb)) = true from sameB_true fun i hi => cl_in_union hi)
  have S5 := Lib.hid (show sameB n (clF n (unionF (clF n fa) fb)) n (clF n (unionF fa fb)) = true from sameB_true fun i hi => cl_of_union hi)
  clear hp va vb hc
  have HB := Lib.hid (Below.refl w.heap.size w)
  go_enter Try.func9, Try.ntmps9
  go_wp2_with fail
  refine (rvalid_any _ _ _ _ _ HA.out).mono ?_
  rintro e w' ⟨rfl, rfl⟩
  rw [VA.out]
  go_wp2_with fail
  refine (closure_ok _ _ _ _ _ HA.out VA.out).mono ?_
  rintro e w1 ⟨r1, c1, rfl, hR, hB⟩
  have HA := Lib.hid (HA.out.keep hB)
  have HR := Lib.hid (HR.out.keep hB)
  have HB := Lib.hid (HB.out.trans (hB.mono HB.out.size))
  have HC := Lib.hid hR
  clear hR hB
  go_wp2_with fail
  refine (compose_ok _ _ _ _ _ _ _ _ HC.out HC.out P1.out).mono ?_
  rintro e w2 ⟨r2, c2, rfl, hR, hB⟩
  have HA := Lib.hid (HA.out.keep hB)
  have HR := Lib.hid (HR.out.keep hB)
  have HC := Lib.hid (HC.out.keep hB)
  have HB := Lib.hid (HB.out.trans (hB.mono HB.out.size))
  have HX1 := Lib.hid hR
  clear hR hB
  go_wp2_with fail
  refine (same_any _ _ _ _ _ _ _ _ _ HX1.out HC.out (by unfold maxLen; omega)).mono ?_
  rintro e w3 ⟨rfl, hB⟩
  rw [S1.out]
  have HA := Lib.hid (HA.out.keep hB)
  have HR := Lib.hid (HR.out.keep hB)
  have HC := Lib.hid (HC.out.keep hB)
  have HX1 := Lib.hid (HX1.out.keep hB)
  have HB := Lib.hid (HB.out.trans (hB.mono HB.out.size))
  clear hB
  go_wp2_with fail
  refine (union_ok _ _ _ _ _ _ _ _ HC.out HA.out P2.out).mono ?_
  rintro e w4 ⟨r4, c4, rfl, hR, hB⟩
  have HA := Lib.hid (HA.out.keep hB)
  have HR := Lib.hid (HR.out.keep hB)
  have HC := Lib.hid (HC.out.keep hB)
  have HX1 := Lib.hid (HX1.out.keep hB)
  have HB := Lib.hid (HB.out.trans (hB.mono HB.out.size))
  have HX2 := Lib.hid hR
  clear hR hB
  go_wp2_with fail
  refine (same_any _ _ _ _ _ _ _ _ _ HX2.out HC.out (by unfold maxLen; omega)).mono ?_
  rintro e w5 ⟨rfl, hB⟩
  rw [S2.out]
  have HA := Lib.hid (HA.out.keep hB)
  have HR := Lib.hid (HR.out.keep hB)
  have HC := Lib.hid (HC.out.keep hB)
  have HX1 := Lib.hid (HX1.out.keep hB)
  have HX2 := Lib.hid (HX2.out.keep hB)
  have HB := Lib.hid (HB.out.trans (hB.mono HB.out.size))
  clear hB
  go_wp2_with fail
  refine (ident_ok n _ hn64).mono ?_
  rintro e w6 ⟨r6, c6, rfl, hR, hB⟩
  have HA := Lib.hid (HA.out.keep hB)
  have HR := Lib.hid (HR.out.keep hB)
  have HC := Lib.hid (HC.out.keep hB)
  have HX1 := Lib.hid (HX1.out.keep hB)
  have HX2 := Lib.hid (HX2.out.keep hB)
  have HB := Lib.hid (HB.out.trans (hB.mono HB.out.size))
  have HE := Lib.hid hR
  clear hR hB
  go_wp2_with fail
  refine (union_ok _ _ _ _ _ _ _ _ HC.out HE.out P3.out).mono ?_
  rintro e w7 ⟨r7, c7, rfl, hR, hB⟩
  have HA := Lib.hid (HA.out.keep hB)
  have HR := Lib.hid (HR.out.keep hB)
  have HC := Lib.hid (HC.out.keep hB)
  have HX1 := Lib.hid (HX1.out.keep hB)
  have HX2 := Lib.hid (HX2.out.keep hB)
  have HE := Lib.hid (HE.out.keep hB)
  have HB := Lib.hid (HB.out.trans (hB.mono HB.out.size))
  have HX3 := Lib.hid hR
  clear hR hB
  go_wp2_with fail
  refine (same_any _ _ _ _ _ _ _ _ _ HX3.out HC.out (by unfold maxLen; omega)).mono ?_
  rintro e w8 ⟨rfl, hB⟩
  rw [S3.out]
  have HA := Lib.hid (HA.out.keep hB)
  have HR := Lib.hid (HR.out.keep hB)
  have HC := Lib.hid (HC.out.keep hB)
  have HX1 := Lib.hid (HX1.out.keep hB)
  have HX2 := Lib.hid (HX2.out.keep hB)
  have HE := Lib.hid (HE.out.keep hB)
  have HX3 := Lib.hid (HX3.out.keep hB)
  have HB := Lib.hid (HB.out.trans (hB.mono HB.out.size))
  clear hB
  go_wp2_with fail
  refine (pair_any _ _ _ _ _ _ _ _ _ HA.out HR.out).mono ?_
  rintro e w' ⟨rfl, rfl⟩
  rw [HP.out]
  go_wp2_with fail
  refine (union_ok _ _ _ _ _ _ _ _ HA.out HR.out HP.out).mono ?_
  rintro e w9 ⟨r9, c9, rfl, hR, hB⟩
  have HA := Lib.hid (HA.out.keep hB)
  have HR := Lib.hid (HR.out.keep hB)
  have HC := Lib.hid (HC.out.keep hB)
  have HX1 := Lib.hid (HX1.out.keep hB)
  have HX2 := Lib.hid (HX2.out.keep hB)
  have HE := Lib.hid (HE.out.keep hB)
  have HX3 := Lib.hid (HX3.out.keep hB)
  have HB := Lib.hid (HB.out.trans (hB.mono HB.out.size))
  have HY := Lib.hid hR
  clear hR hB
  go_wp2_with fail
  refine (closure_ok _ _ _ _ _ HY.out V4.out).mono ?_
  rintro e w10 ⟨r10, c10, rfl, hR, hB⟩
  have HA := Lib.hid (HA.out.keep hB)
  have HR := Lib.hid (HR.out.keep hB)
  have HC := Lib.hid (HC.out.keep hB)
  have HX1 := Lib.hid (HX1.out.keep hB)
  have HX2 := Lib.hid (HX2.out.keep hB)
  have HE := Lib.hid (HE.out.keep hB)
  have HX3 := Lib.hid (HX3.out.keep hB)
  have HY := Lib.hid (HY.out.keep hB)
  have HB := Lib.hid (HB.out.trans (hB.mono HB.out.size))
  have HD := Lib.hid hR
  clear hR hB
  go_wp2_with fail
  refine (union_ok _ _ _ _ _ _ _ _ HC.out HD.out P5.out).mono ?_
  rintro e w11 ⟨r11, c11, rfl, hR, hB⟩
  have HA := Lib.hid (HA.out.keep hB)
  have HR := Lib.hid (HR.out.keep hB)
  have HC := Lib.hid (HC.out.keep hB)
  have HX1 := Lib.hid (HX1.out.keep hB)
  have HX2 := Lib.hid (HX2.out.keep hB)
  have HE := Lib.hid (HE.out.keep hB)
  have HX3 := Lib.hid (HX3.out.keep hB)
  have HY := Lib.hid (HY.out.keep hB)
  have HD := Lib.hid (HD.out.keep hB)
  have HB := Lib.hid (HB.out.trans (hB.mono HB.out.size))
  have HZ1 := Lib.hid hR
  clear hR hB
  go_wp2_with fail
  refine (same_any _ _ _ _ _ _ _ _ _ HZ1.out HD.out (by unfold maxLen; omega)).mono ?_
  rintro e w12 ⟨rfl, hB⟩
  rw [S4.out]
  have HA := Lib.hid (HA.out.keep hB)
  have HR := Lib.hid (HR.out.keep hB)
  have HC := Lib.hid (HC.out.keep hB)
  have HX1 := Lib.hid (HX1.out.keep hB)
  have HX2 := Lib.hid (HX2.out.keep hB)
  have HE := Lib.hid (HE.out.keep hB)
  have HX3 := Lib.hid (HX3.out.keep hB)
  have HY := Lib.hid (HY.out.keep hB)
  have HD := Lib.hid (HD.out.keep hB)
  have HZ1 := Lib.hid (HZ1.out.keep hB)
  have HB := Lib.hid (HB.out.trans (hB.mono HB.out.size))
  clear hB
  go_wp2_with fail
  refine (union_ok _ _ _ _ _ _ _ _ HC.out HR.out P6.out).mono ?_
  rintro e w13 ⟨r13, c13, rfl, hR, hB⟩
  have HA := Lib.hid (HA.out.keep hB)
  have HR := Lib.hid (HR.out.keep hB)
  have HC := Lib.hid (HC.out.keep hB)
  have HX1 := Lib.hid (HX1.out.keep hB)
  have HX2 := Lib.hid (HX2.out.keep hB)
  have HE := Lib.hid (HE.out.keep hB)
  have HX3 := Lib.hid (HX3.out.keep hB)
  have HY := Lib.hid (HY.out.keep hB)
  have HD := Lib.hid (HD.out.keep hB)
  have HZ1 := Lib.hid (HZ1.out.keep hB)
  have HB := Lib.hid (HB.out.trans (hB.mono HB.out.size))
  have HZ2 := Lib.hid hR
  clear hR hB
  go_wp2_with fail
  refine (closure_ok _ _ _ _ _ HZ2.out V7.out).mono ?_
  rintro e w14 ⟨r14, c14, rfl, hR, hB⟩
  have HA := Lib.hid (HA.out.keep hB)
  have HR := Lib.hid (HR.out.keep hB)
  have HC := Lib.hid (HC.out.keep hB)
  have HX1 := Lib.hid (HX1.out.keep hB)
  have HX2 := Lib.hid (HX2.out.keep hB)
  have HE := Lib.hid (HE.out.keep hB)
  have HX3 := Lib.hid (HX3.out.keep hB)
  have HY := Lib.hid (HY.out.keep hB)
  have HD := Lib.hid (HD.out.keep hB)
  have HZ1 := Lib.hid (HZ1.out.keep hB)
  have HZ2 := Lib.hid (HZ2.out.keep hB)
  have HB := Lib.hid (HB.out.trans (hB.mono HB.out.size))
  have HZ3 := Lib.hid hR
  clear hR hB
  go_wp2_with fail
  refine (same_any _ _ _ _ _ _ _ _ _ HZ3.out HD.out (by unfold maxLen; omega)).mono ?_
  rintro e w15 ⟨rfl, hB⟩
  rw [S5.out]
  have HA := Lib.hid (HA.out.keep hB)
  have HR := Lib.hid (HR.out.keep hB)
  have HC := Lib.hid (HC.out.keep hB)
  have HX1 := Lib.hid (HX1.out.keep hB)
  have HX2 := Lib.hid (HX2.out.keep hB)
  have HE := Lib.hid (HE.out.keep hB)
  have HX3 := Lib.hid (HX3.out.keep hB)
  have HY := Lib.hid (HY.out.keep hB)
  have HD := Lib.hid (HD.out.keep hB)
  have HZ1 := Lib.hid (HZ1.out.keep hB)
  have HZ2 := Lib.hid (HZ2.out.keep hB)
  have HZ3 := Lib.hid (HZ3.out.keep hB)
  have HB := Lib.hid (HB.out.trans (hB.mono HB.out.size))
  clear hB
  go_wp2_with fail
  refine (awake_any _).mono ?_
  rintro e w16 ⟨rfl, hB⟩
  have HA := Lib.hid (HA.out.keep hB)
  have HR := Lib.hid (HR.out.keep hB)
  have HC := Lib.hid (HC.out.keep hB)
  have HX1 := Lib.hid (HX1.out.keep hB)
  have HX2 := Lib.hid (HX2.out.keep hB)
  have HE := Lib.hid (HE.out.keep hB)
  have HX3 := Lib.hid (HX3.out.keep hB)
  have HY := Lib.hid (HY.out.keep hB)
  have HD := Lib.hid (HD.out.keep hB)
  have HZ1 := Lib.hid (HZ1.out.keep hB)
  have HZ2 := Lib.hid (HZ2.out.keep hB)
  have HZ3 := Lib.hid (HZ3.out.keep hB)
  have HB := Lib.hid (HB.out.trans (hB.mono HB.out.size))
  clear hB
  go_wp2_with fail
  go_ret
  exact ⟨rfl, HB.out⟩

set_option maxRecDepth 100000 in
set_option maxHeartbeats 4000000 in
theorem cRelationLeast_no (n : Nat) (a : Option Addr) (ca : Nat) (fa : Nat → Nat) (b : Option Addr) (nb cb : Nat) (fb : Nat → Nat) (w : World) (ha : Row w a n fa) (hb : Row w b nb fb) (va : valB n fa = true) (hp : pairB n fa nb fb = false) (hn : n ≤ 24) :
    Calls Try.prog 9 #[.slice a n ca, .slice b nb cb] w (Yes w) := by
  have HA := Lib.hid ha
  have HR := Lib.hid hb
  clear ha hb
  have hn64 : n ≤ 64 := by omega
  have hc := clF_val va
  have VA := Lib.hid (show valB n fa = true from va)
  have HP := Lib.hid (show pairB n fa nb fb = false from hp)
  have P1 := Lib.hid (show pairB n (clF n fa) n (clF n fa) = true from pairB_mk hc hc)
  have P2 := Lib.hid (show pairB n (clF n fa) n fa = true from pairB_mk hc va)
  have P3 := Lib.hid (show pairB n (clF n fa) n idF = true from pairB_mk hc (idF_val hn64))
  have S1 := Lib.hid (show sameB n (compF n (clF n fa) (clF n fa)) n (clF n fa) = true from sameB_true fun i hi => cl_square hi)
  have S2 := Lib.hid (show sameB n (unionF (clF n fa) fa) n (clF n fa) = true from sameB_true fun i hi => cl_union_self i)
  have S3 := Lib.hid (show sameB n (unionF (clF n fa) idF) n (clF n fa) = true from sameB_true fun i hi => cl_union_id i)
  clear hp va hc
  have HB := Lib.hid (Below.refl w.heap.size w)
  go_enter Try.func9, Try.ntmps9
  go_wp2_with fail
  refine (rvalid_any _ _ _ _ _ HA.out).mono ?_
  rintro e w' ⟨rfl, rfl⟩
  rw [VA.out]
  go_wp2_with fail
  refine (closure_ok _ _ _ _ _ HA.out VA.out).mono ?_
  rintro e w1 ⟨r1, c1, rfl, hR, hB⟩
  have HA := Lib.hid (HA.out.keep hB)
  have HR := Lib.hid (HR.out.keep hB)
  have HB := Lib.hid (HB.out.trans (hB.mono HB.out.size))
  have HC := Lib.hid hR
  clear hR hB
  go_wp2_with fail
  refine (compose_ok _ _ _ _ _ _ _ _ HC.out HC.out P1.out).mono ?_
  rintro e w2 ⟨r2, c2, rfl, hR, hB⟩
  have HA := Lib.hid (HA.out.keep hB)
  have HR := Lib.hid (HR.out.keep hB)
  have HC := Lib.hid (HC.out.keep hB)
  have HB := Lib.hid (HB.out.trans (hB.mono HB.out.size))
  have HX1 := Lib.hid hR
  clear hR hB
  go_wp2_with fail
  refine (same_any _ _ _ _ _ _ _ _ _ HX1.out HC.out (by unfold maxLen; omega)).mono ?_
  rintro e w3 ⟨rfl, hB⟩
  rw [S1.out]
  have HA := Lib.hid (HA.out.keep hB)
  have HR := Lib.hid (HR.out.keep hB)
  have HC := Lib.hid (HC.out.keep hB)
  have HX1 := Lib.hid (HX1.out.keep hB)
  have HB := Lib.hid (HB.out.trans (hB.mono HB.out.size))
  clear hB
  go_wp2_with fail
  refine (union_ok _ _ _ _ _ _ _ _ HC.out HA.out P2.out).mono ?_
  rintro e w4 ⟨r4, c4, rfl, hR, hB⟩
  have HA := Lib.hid (HA.out.keep hB)
  have HR := Lib.hid (HR.out.keep hB)
  have HC := Lib.hid (HC.out.keep hB)
  have HX1 := Lib.hid (HX1.out.keep hB)
  have HB := Lib.hid (HB.out.trans (hB.mono HB.out.size))
  have HX2 := Lib.hid hR
  clear hR hB
  go_wp2_with fail
  refine (same_any _ _ _ _ _ _ _ _ _ HX2.out HC.out (by unfold maxLen; omega)).mono ?_
  rintro e w5 ⟨rfl, hB⟩
  rw [S2.out]
  have HA := Lib.hid (HA.out.keep hB)
  have HR := Lib.hid (HR.out.keep hB)
  have HC := Lib.hid (HC.out.keep hB)
  have HX1 := Lib.hid (HX1.out.keep hB)
  have HX2 := Lib.hid (HX2.out.keep hB)
  have HB := Lib.hid (HB.out.trans (hB.mono HB.out.size))
  clear hB
  go_wp2_with fail
  refine (ident_ok n _ hn64).mono ?_
  rintro e w6 ⟨r6, c6, rfl, hR, hB⟩
  have HA := Lib.hid (HA.out.keep hB)
  have HR := Lib.hid (HR.out.keep hB)
  have HC := Lib.hid (HC.out.keep hB)
  have HX1 := Lib.hid (HX1.out.keep hB)
  have HX2 := Lib.hid (HX2.out.keep hB)
  have HB := Lib.hid (HB.out.trans (hB.mono HB.out.size))
  have HE := Lib.hid hR
  clear hR hB
  go_wp2_with fail
  refine (union_ok _ _ _ _ _ _ _ _ HC.out HE.out P3.out).mono ?_
  rintro e w7 ⟨r7, c7, rfl, hR, hB⟩
  have HA := Lib.hid (HA.out.keep hB)
  have HR := Lib.hid (HR.out.keep hB)
  have HC := Lib.hid (HC.out.keep hB)
  have HX1 := Lib.hid (HX1.out.keep hB)
  have HX2 := Lib.hid (HX2.out.keep hB)
  have HE := Lib.hid (HE.out.keep hB)
  have HB := Lib.hid (HB.out.trans (hB.mono HB.out.size))
  have HX3 := Lib.hid hR
  clear hR hB
  go_wp2_with fail
  refine (same_any _ _ _ _ _ _ _ _ _ HX3.out HC.out (by unfold maxLen; omega)).mono ?_
  rintro e w8 ⟨rfl, hB⟩
  rw [S3.out]
  have HA := Lib.hid (HA.out.keep hB)
  have HR := Lib.hid (HR.out.keep hB)
  have HC := Lib.hid (HC.out.keep hB)
  have HX1 := Lib.hid (HX1.out.keep hB)
  have HX2 := Lib.hid (HX2.out.keep hB)
  have HE := Lib.hid (HE.out.keep hB)
  have HX3 := Lib.hid (HX3.out.keep hB)
  have HB := Lib.hid (HB.out.trans (hB.mono HB.out.size))
  clear hB
  go_wp2_with fail
  refine (pair_any _ _ _ _ _ _ _ _ _ HA.out HR.out).mono ?_
  rintro e w' ⟨rfl, rfl⟩
  rw [HP.out]
  go_wp2_with fail
  refine (awake_any _).mono ?_
  rintro e w9 ⟨rfl, hB⟩
  have HA := Lib.hid (HA.out.keep hB)
  have HR := Lib.hid (HR.out.keep hB)
  have HC := Lib.hid (HC.out.keep hB)
  have HX1 := Lib.hid (HX1.out.keep hB)
  have HX2 := Lib.hid (HX2.out.keep hB)
  have HE := Lib.hid (HE.out.keep hB)
  have HX3 := Lib.hid (HX3.out.keep hB)
  have HB := Lib.hid (HB.out.trans (hB.mono HB.out.size))
  clear hB
  go_wp2_with fail
  go_ret
  exact ⟨rfl, HB.out⟩

theorem wRelationLeast {w : World} (a : Option Addr) (len cap : Nat) (z : List Int) (hz : IntRow .u64 w a len cap z) (b : Option Addr) (len2 cap2 : Nat) (z2 : List Int) (hz2 : IntRow .u64 w b len2 cap2 z2) :
    Calls Try.prog 9 #[.slice a len cap, .slice b len2 cap2] w (Yes w) := by
  obtain ⟨f, ha, _⟩ := row_in hz
  obtain ⟨g, hb, _⟩ := row_in hz2
  cases hv : valB len f
  · exact cRelationLeast_bad a len cap f b len2 cap2 g w ha hb hv
  by_cases hn : len ≤ 24
  · cases hp : pairB len f len2 g
    · exact cRelationLeast_no len a cap f b len2 cap2 g w ha hb hv hp hn
    · obtain rfl := (pairB_iff.1 hp).2.2
      exact cRelationLeast_yes len a cap f b cap2 g w ha hb hp hn
  · exact cRelationLeast_long a len cap f b len2 cap2 g w ha hb hv (by omega)
end Go.Proofs.Ytbmbgdfnhbkelaa
