/- Walk of the law ExprCompares. -/
import Derived.Test.YtjnnabcpamionaaExprRB
namespace Go.Proofs.Ytjnnabcpamionaa
open Go Go.RowKit Go.Sort
set_option linter.unusedVariables false
set_option maxRecDepth 100000 in
set_option maxHeartbeats 4000000 in
theorem wExprCompares {w : World} (op1 l1 : Int) (ks1 : List T) (a1 : Option Addr) (c1 : Nat) (in1 : InX w op1 l1 ks1 a1) (op2 l2 : Int) (ks2 : List T) (a2 : Option Addr) (c2 : Nat) (in2 : InX w op2 l2 ks2 a2) (op3 l3 : Int) (ks3 : List T) (a3 : Option Addr) (c3 : Nat) (in3 : InX w op3 l3 ks3 a3) :
    Calls Try.prog 7 #[.agg #[.int .i64 op1, .int .i64 l1, .slice a1 ks1.length c1], .agg #[.int .i64 op2, .int .i64 l2, .slice a2 ks2.length c2], .agg #[.int .i64 op3, .int .i64 l3, .slice a3 ks3.length c3]] w fun e w' => e = .returned (.bool true) ∧ Below w.heap.size w w' := by
  have I1 := Lib.hid in1
  have I2 := Lib.hid in2
  have I3 := Lib.hid in3
  have hneg := cmpT_neg (.node op1 l1 ks1) (.node op2 l2 ks2)
  have hself := cmpT_self (.node op1 l1 ks1)
  have htr := cmpT_trans (.node op1 l1 ks1) (.node op2 l2 ks2) (.node op3 l3 ks3)
  have hr12 := cmpT_rng (.node op1 l1 ks1) (.node op2 l2 ks2)
  have D12 := Lib.hid (fun W h h' => compare_any op1 l1 ks1 op2 l2 ks2 a1 a2 c1 c2 W h h')
  have R12 := Lib.hid (fun W h h' => compareR_any op1 l1 ks1 op2 l2 ks2 a1 a2 c1 c2 W h h')
  have D21 := Lib.hid (fun W h h' => compare_any op2 l2 ks2 op1 l1 ks1 a2 a1 c2 c1 W h h')
  have D11 := Lib.hid (fun W h h' => compare_any op1 l1 ks1 op1 l1 ks1 a1 a1 c1 c1 W h h')
  have D23 := Lib.hid (fun W h h' => compare_any op2 l2 ks2 op3 l3 ks3 a2 a3 c2 c3 W h h')
  have D13 := Lib.hid (fun W h h' => compare_any op1 l1 ks1 op3 l3 ks3 a1 a3 c1 c3 W h h')
  rw [hself] at D11
  rw [hneg] at D21
  obtain ⟨x, hx⟩ : ∃ x, x = cmpT (.node op1 l1 ks1) (.node op2 l2 ks2) := ⟨_, rfl⟩
  obtain ⟨y, hy⟩ : ∃ y, y = cmpT (.node op2 l2 ks2) (.node op3 l3 ks3) := ⟨_, rfl⟩
  obtain ⟨z, hz⟩ : ∃ z, z = cmpT (.node op1 l1 ks1) (.node op3 l3 ks3) := ⟨_, rfl⟩
  rw [← hx] at D12 R12 D21 htr hr12
  rw [← hy] at D23 htr
  rw [← hz] at D13 htr
  obtain ⟨n1, hn1⟩ : ∃ n, n = ks1.length := ⟨_, rfl⟩
  obtain ⟨n2, hn2⟩ : ∃ n, n = ks2.length := ⟨_, rfl⟩
  obtain ⟨n3, hn3⟩ : ∃ n, n = ks3.length := ⟨_, rfl⟩
  rw [← hn1] at D12 R12 D21 D11 D13 ⊢
  rw [← hn2] at D12 R12 D21 D23 ⊢
  rw [← hn3] at D23 D13 ⊢
  have HTR := Lib.hid htr
  have hxl := hr12.1
  have hxr := hr12.2
  have hwx : IntKind.i64.wrap (-x) = -x := IntWalk.i64_in _ (by omega)
  have t1 : (x != x) = false := by simp
  have t2 : (-x != -x) = false := by simp
  clear hneg hself htr hx hy hz hn1 hn2 hn3 in1 in2 in3 hr12
  have HB0 := Lib.hid ((((Below.refl w.heap.size w).alloc (Nat.le_refl _) (.cells #[.int .i64 op1, .int .i64 l1, .slice a1 n1 c1] 24)).alloc (by simp) (.cells #[.int .i64 op2, .int .i64 l2, .slice a2 n2 c2] 24)).alloc (by simp <;> omega) (.cells #[.int .i64 op3, .int .i64 l3, .slice a3 n3 c3] 24))
  obtain ⟨W0, hW0⟩ : ∃ W0, W0 = (((w.alloc (.cells #[.int .i64 op1, .int .i64 l1, .slice a1 n1 c1] 24)).alloc (.cells #[.int .i64 op2, .int .i64 l2, .slice a2 n2 c2] 24)).alloc (.cells #[.int .i64 op3, .int .i64 l3, .slice a3 n3 c3] 24)) := ⟨_, rfl⟩
  have X1_0 := Lib.hid (show InX W0 op1 l1 ks1 a1 by rw [hW0]; exact ((I1.out.box _).box _).box _)
  have X2_0 := Lib.hid (show InX W0 op2 l2 ks2 a2 by rw [hW0]; exact ((I2.out.box _).box _).box _)
  have X3_0 := Lib.hid (show InX W0 op3 l3 ks3 a3 by rw [hW0]; exact ((I3.out.box _).box _).box _)
  have B1_0 := Lib.hid (show Box W0 w.heap.size (.int .i64 op1) (.int .i64 l1) (.slice a1 n1 c1) by rw [hW0]; exact ((Box.new w _ _ _).alloc _).alloc _)
  have B2_0 := Lib.hid (show Box W0 (w.heap.size + 1) (.int .i64 op2) (.int .i64 l2) (.slice a2 n2 c2) by rw [hW0]; have h := ((Box.new (w.alloc (.cells #[.int .i64 op1, .int .i64 l1, .slice a1 n1 c1] 24)) (.int .i64 op2) (.int .i64 l2) (.slice a2 n2 c2)).alloc (.cells #[.int .i64 op3, .int .i64 l3, .slice a3 n3 c3] 24)); simpa using h)
  have B3_0 := Lib.hid (show Box W0 (w.heap.size + 1 + 1) (.int .i64 op3) (.int .i64 l3) (.slice a3 n3 c3) by rw [hW0]; have h := Box.new ((w.alloc (.cells #[.int .i64 op1, .int .i64 l1, .slice a1 n1 c1] 24)).alloc (.cells #[.int .i64 op2, .int .i64 l2, .slice a2 n2 c2] 24)) (.int .i64 op3) (.int .i64 l3) (.slice a3 n3 c3); simpa using h)
  have HB_0 := Lib.hid (show Below w.heap.size w W0 by rw [hW0]; exact HB0.out)
  have HW := Lib.hid hW0
  clear hW0 HB0
  by_cases h1 : x ≤ 0
  · have d1 : decide (x ≤ 0) = true := by simp [h1]
    by_cases h2 : y ≤ 0
    · have h3 := HTR.out h1 h2
      have d2 : decide (0 < z) = false := by simp; omega
      have d3 : decide (y ≤ 0) = true := by simp [h2]
      obtain ⟨p00, p01, p02⟩ := B1_0.out
      obtain ⟨q00, q01, q02⟩ := B2_0.out
      obtain ⟨r00, r01, r02⟩ := B3_0.out
      go_enter Try.func7, Try.ntmps7
      go_wp2_with fail
      rw [← HW.out]
      refine (D12.out _ X1_0.out X2_0.out).mono ?_
      rintro e wk1 ⟨rfl, hB⟩
      have HB_1 := Lib.hid (HB_0.out.trans (hB.mono HB_0.out.size))
      have X1_1 := Lib.hid (X1_0.out.keep hB)
      have B1_1 := Lib.hid (B1_0.out.keep hB)
      have X2_1 := Lib.hid (X2_0.out.keep hB)
      have B2_1 := Lib.hid (B2_0.out.keep hB)
      have X3_1 := Lib.hid (X3_0.out.keep hB)
      have B3_1 := Lib.hid (B3_0.out.keep hB)
      obtain ⟨p10, p11, p12⟩ := B1_1.out
      obtain ⟨q10, q11, q12⟩ := B2_1.out
      obtain ⟨r10, r11, r12⟩ := B3_1.out
      clear hB
      go_wp2_with fail
      refine (R12.out _ X1_1.out X2_1.out).mono ?_
      rintro e wk2 ⟨rfl, hB⟩
      have HB_2 := Lib.hid (HB_1.out.trans (hB.mono HB_1.out.size))
      have X1_2 := Lib.hid (X1_1.out.keep hB)
      have B1_2 := Lib.hid (B1_1.out.keep hB)
      have X2_2 := Lib.hid (X2_1.out.keep hB)
      have B2_2 := Lib.hid (B2_1.out.keep hB)
      have X3_2 := Lib.hid (X3_1.out.keep hB)
      have B3_2 := Lib.hid (B3_1.out.keep hB)
      obtain ⟨p20, p21, p22⟩ := B1_2.out
      obtain ⟨q20, q21, q22⟩ := B2_2.out
      obtain ⟨r20, r21, r22⟩ := B3_2.out
      clear hB
      go_wp2_with fail
      refine (D21.out _ X2_2.out X1_2.out).mono ?_
      rintro e wk3 ⟨rfl, hB⟩
      have HB_3 := Lib.hid (HB_2.out.trans (hB.mono HB_2.out.size))
      have X1_3 := Lib.hid (X1_2.out.keep hB)
      have B1_3 := Lib.hid (B1_2.out.keep hB)
      have X2_3 := Lib.hid (X2_2.out.keep hB)
      have B2_3 := Lib.hid (B2_2.out.keep hB)
      have X3_3 := Lib.hid (X3_2.out.keep hB)
      have B3_3 := Lib.hid (B3_2.out.keep hB)
      obtain ⟨p30, p31, p32⟩ := B1_3.out
      obtain ⟨q30, q31, q32⟩ := B2_3.out
      obtain ⟨r30, r31, r32⟩ := B3_3.out
      clear hB
      go_wp2_with fail
      refine (D11.out _ X1_3.out X1_3.out).mono ?_
      rintro e wk4 ⟨rfl, hB⟩
      have HB_4 := Lib.hid (HB_3.out.trans (hB.mono HB_3.out.size))
      have X1_4 := Lib.hid (X1_3.out.keep hB)
      have B1_4 := Lib.hid (B1_3.out.keep hB)
      have X2_4 := Lib.hid (X2_3.out.keep hB)
      have B2_4 := Lib.hid (B2_3.out.keep hB)
      have X3_4 := Lib.hid (X3_3.out.keep hB)
      have B3_4 := Lib.hid (B3_3.out.keep hB)
      obtain ⟨p40, p41, p42⟩ := B1_4.out
      obtain ⟨q40, q41, q42⟩ := B2_4.out
      obtain ⟨r40, r41, r42⟩ := B3_4.out
      clear hB
      go_wp2_with fail
      refine (D23.out _ X2_4.out X3_4.out).mono ?_
      rintro e wk5 ⟨rfl, hB⟩
      have HB_5 := Lib.hid (HB_4.out.trans (hB.mono HB_4.out.size))
      have X1_5 := Lib.hid (X1_4.out.keep hB)
      have B1_5 := Lib.hid (B1_4.out.keep hB)
      have X2_5 := Lib.hid (X2_4.out.keep hB)
      have B2_5 := Lib.hid (B2_4.out.keep hB)
      have X3_5 := Lib.hid (X3_4.out.keep hB)
      have B3_5 := Lib.hid (B3_4.out.keep hB)
      obtain ⟨p50, p51, p52⟩ := B1_5.out
      obtain ⟨q50, q51, q52⟩ := B2_5.out
      obtain ⟨r50, r51, r52⟩ := B3_5.out
      clear hB
      go_wp2_with fail
      refine (D13.out _ X1_5.out X3_5.out).mono ?_
      rintro e wk6 ⟨rfl, hB⟩
      have HB_6 := Lib.hid (HB_5.out.trans (hB.mono HB_5.out.size))
      have X1_6 := Lib.hid (X1_5.out.keep hB)
      have B1_6 := Lib.hid (B1_5.out.keep hB)
      have X2_6 := Lib.hid (X2_5.out.keep hB)
      have B2_6 := Lib.hid (B2_5.out.keep hB)
      have X3_6 := Lib.hid (X3_5.out.keep hB)
      have B3_6 := Lib.hid (B3_5.out.keep hB)
      obtain ⟨p60, p61, p62⟩ := B1_6.out
      obtain ⟨q60, q61, q62⟩ := B2_6.out
      obtain ⟨r60, r61, r62⟩ := B3_6.out
      clear hB
      go_wp2_with fail
      refine (awake_any _).mono ?_
      rintro e wf ⟨rfl, hB⟩
      have HBF := Lib.hid (HB_6.out.trans (hB.mono HB_6.out.size))
      clear hB
      go_wp2_with fail
      go_ret
      exact ⟨rfl, HBF.out⟩
    · have d3 : decide (y ≤ 0) = false := by simp; omega
      obtain ⟨p00, p01, p02⟩ := B1_0.out
      obtain ⟨q00, q01, q02⟩ := B2_0.out
      obtain ⟨r00, r01, r02⟩ := B3_0.out
      go_enter Try.func7, Try.ntmps7
      go_wp2_with fail
      rw [← HW.out]
      refine (D12.out _ X1_0.out X2_0.out).mono ?_
      rintro e wk1 ⟨rfl, hB⟩
      have HB_1 := Lib.hid (HB_0.out.trans (hB.mono HB_0.out.size))
      have X1_1 := Lib.hid (X1_0.out.keep hB)
      have B1_1 := Lib.hid (B1_0.out.keep hB)
      have X2_1 := Lib.hid (X2_0.out.keep hB)
      have B2_1 := Lib.hid (B2_0.out.keep hB)
      have X3_1 := Lib.hid (X3_0.out.keep hB)
      have B3_1 := Lib.hid (B3_0.out.keep hB)
      obtain ⟨p10, p11, p12⟩ := B1_1.out
      obtain ⟨q10, q11, q12⟩ := B2_1.out
      obtain ⟨r10, r11, r12⟩ := B3_1.out
      clear hB
      go_wp2_with fail
      refine (R12.out _ X1_1.out X2_1.out).mono ?_
      rintro e wk2 ⟨rfl, hB⟩
      have HB_2 := Lib.hid (HB_1.out.trans (hB.mono HB_1.out.size))
      have X1_2 := Lib.hid (X1_1.out.keep hB)
      have B1_2 := Lib.hid (B1_1.out.keep hB)
      have X2_2 := Lib.hid (X2_1.out.keep hB)
      have B2_2 := Lib.hid (B2_1.out.keep hB)
      have X3_2 := Lib.hid (X3_1.out.keep hB)
      have B3_2 := Lib.hid (B3_1.out.keep hB)
      obtain ⟨p20, p21, p22⟩ := B1_2.out
      obtain ⟨q20, q21, q22⟩ := B2_2.out
      obtain ⟨r20, r21, r22⟩ := B3_2.out
      clear hB
      go_wp2_with fail
      refine (D21.out _ X2_2.out X1_2.out).mono ?_
      rintro e wk3 ⟨rfl, hB⟩
      have HB_3 := Lib.hid (HB_2.out.trans (hB.mono HB_2.out.size))
      have X1_3 := Lib.hid (X1_2.out.keep hB)
      have B1_3 := Lib.hid (B1_2.out.keep hB)
      have X2_3 := Lib.hid (X2_2.out.keep hB)
      have B2_3 := Lib.hid (B2_2.out.keep hB)
      have X3_3 := Lib.hid (X3_2.out.keep hB)
      have B3_3 := Lib.hid (B3_2.out.keep hB)
      obtain ⟨p30, p31, p32⟩ := B1_3.out
      obtain ⟨q30, q31, q32⟩ := B2_3.out
      obtain ⟨r30, r31, r32⟩ := B3_3.out
      clear hB
      go_wp2_with fail
      refine (D11.out _ X1_3.out X1_3.out).mono ?_
      rintro e wk4 ⟨rfl, hB⟩
      have HB_4 := Lib.hid (HB_3.out.trans (hB.mono HB_3.out.size))
      have X1_4 := Lib.hid (X1_3.out.keep hB)
      have B1_4 := Lib.hid (B1_3.out.keep hB)
      have X2_4 := Lib.hid (X2_3.out.keep hB)
      have B2_4 := Lib.hid (B2_3.out.keep hB)
      have X3_4 := Lib.hid (X3_3.out.keep hB)
      have B3_4 := Lib.hid (B3_3.out.keep hB)
      obtain ⟨p40, p41, p42⟩ := B1_4.out
      obtain ⟨q40, q41, q42⟩ := B2_4.out
      obtain ⟨r40, r41, r42⟩ := B3_4.out
      clear hB
      go_wp2_with fail
      refine (D23.out _ X2_4.out X3_4.out).mono ?_
      rintro e wk5 ⟨rfl, hB⟩
      have HB_5 := Lib.hid (HB_4.out.trans (hB.mono HB_4.out.size))
      have X1_5 := Lib.hid (X1_4.out.keep hB)
      have B1_5 := Lib.hid (B1_4.out.keep hB)
      have X2_5 := Lib.hid (X2_4.out.keep hB)
      have B2_5 := Lib.hid (B2_4.out.keep hB)
      have X3_5 := Lib.hid (X3_4.out.keep hB)
      have B3_5 := Lib.hid (B3_4.out.keep hB)
      obtain ⟨p50, p51, p52⟩ := B1_5.out
      obtain ⟨q50, q51, q52⟩ := B2_5.out
      obtain ⟨r50, r51, r52⟩ := B3_5.out
      clear hB
      go_wp2_with fail
      refine (awake_any _).mono ?_
      rintro e wf ⟨rfl, hB⟩
      have HBF := Lib.hid (HB_5.out.trans (hB.mono HB_5.out.size))
      clear hB
      go_wp2_with fail
      go_ret
      exact ⟨rfl, HBF.out⟩
  · have d1 : decide (x ≤ 0) = false := by simp; omega
    obtain ⟨p00, p01, p02⟩ := B1_0.out
    obtain ⟨q00, q01, q02⟩ := B2_0.out
    obtain ⟨r00, r01, r02⟩ := B3_0.out
    go_enter Try.func7, Try.ntmps7
    go_wp2_with fail
    rw [← HW.out]
    refine (D12.out _ X1_0.out X2_0.out).mono ?_
    rintro e wk1 ⟨rfl, hB⟩
    have HB_1 := Lib.hid (HB_0.out.trans (hB.mono HB_0.out.size))
    have X1_1 := Lib.hid (X1_0.out.keep hB)
    have B1_1 := Lib.hid (B1_0.out.keep hB)
    have X2_1 := Lib.hid (X2_0.out.keep hB)
    have B2_1 := Lib.hid (B2_0.out.keep hB)
    have X3_1 := Lib.hid (X3_0.out.keep hB)
    have B3_1 := Lib.hid (B3_0.out.keep hB)
    obtain ⟨p10, p11, p12⟩ := B1_1.out
    obtain ⟨q10, q11, q12⟩ := B2_1.out
    obtain ⟨r10, r11, r12⟩ := B3_1.out
    clear hB
    go_wp2_with fail
    refine (R12.out _ X1_1.out X2_1.out).mono ?_
    rintro e wk2 ⟨rfl, hB⟩
    have HB_2 := Lib.hid (HB_1.out.trans (hB.mono HB_1.out.size))
    have X1_2 := Lib.hid (X1_1.out.keep hB)
    have B1_2 := Lib.hid (B1_1.out.keep hB)
    have X2_2 := Lib.hid (X2_1.out.keep hB)
    have B2_2 := Lib.hid (B2_1.out.keep hB)
    have X3_2 := Lib.hid (X3_1.out.keep hB)
    have B3_2 := Lib.hid (B3_1.out.keep hB)
    obtain ⟨p20, p21, p22⟩ := B1_2.out
    obtain ⟨q20, q21, q22⟩ := B2_2.out
    obtain ⟨r20, r21, r22⟩ := B3_2.out
    clear hB
    go_wp2_with fail
    refine (D21.out _ X2_2.out X1_2.out).mono ?_
    rintro e wk3 ⟨rfl, hB⟩
    have HB_3 := Lib.hid (HB_2.out.trans (hB.mono HB_2.out.size))
    have X1_3 := Lib.hid (X1_2.out.keep hB)
    have B1_3 := Lib.hid (B1_2.out.keep hB)
    have X2_3 := Lib.hid (X2_2.out.keep hB)
    have B2_3 := Lib.hid (B2_2.out.keep hB)
    have X3_3 := Lib.hid (X3_2.out.keep hB)
    have B3_3 := Lib.hid (B3_2.out.keep hB)
    obtain ⟨p30, p31, p32⟩ := B1_3.out
    obtain ⟨q30, q31, q32⟩ := B2_3.out
    obtain ⟨r30, r31, r32⟩ := B3_3.out
    clear hB
    go_wp2_with fail
    refine (D11.out _ X1_3.out X1_3.out).mono ?_
    rintro e wk4 ⟨rfl, hB⟩
    have HB_4 := Lib.hid (HB_3.out.trans (hB.mono HB_3.out.size))
    have X1_4 := Lib.hid (X1_3.out.keep hB)
    have B1_4 := Lib.hid (B1_3.out.keep hB)
    have X2_4 := Lib.hid (X2_3.out.keep hB)
    have B2_4 := Lib.hid (B2_3.out.keep hB)
    have X3_4 := Lib.hid (X3_3.out.keep hB)
    have B3_4 := Lib.hid (B3_3.out.keep hB)
    obtain ⟨p40, p41, p42⟩ := B1_4.out
    obtain ⟨q40, q41, q42⟩ := B2_4.out
    obtain ⟨r40, r41, r42⟩ := B3_4.out
    clear hB
    go_wp2_with fail
    refine (awake_any _).mono ?_
    rintro e wf ⟨rfl, hB⟩
    have HBF := Lib.hid (HB_4.out.trans (hB.mono HB_4.out.size))
    clear hB
    go_wp2_with fail
    go_ret
    exact ⟨rfl, HBF.out⟩
end Go.Proofs.Ytjnnabcpamionaa
