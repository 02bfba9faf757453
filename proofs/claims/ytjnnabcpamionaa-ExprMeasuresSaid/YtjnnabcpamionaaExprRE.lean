/- Walk of the law ExprMeasures. -/
import Derived.Test.YtjnnabcpamionaaExprV
import Derived.Lib.QuietBelow
import Derived.BigQuiet
namespace Go.Proofs.Ytjnnabcpamionaa
open Go Go.RowKit Go.Sort
set_option linter.unusedVariables false
set_option maxRecDepth 100000 in
set_option maxHeartbeats 4000000 in
theorem wExprMeasures {w : World} (op l : Int) (ks : List T) (a : Option Addr) (c : Nat) (hin : InX w op l ks a) :
    Calls Try.prog 6 #[.agg #[.int .i64 op, .int .i64 l, .slice a ks.length c]] w fun e w' => e = .returned (.bool true) ∧ Below w.heap.size w w' := by
  have HI := Lib.hid hin
  have DV := Lib.hid (fun W (h : InX W op l ks a) => validR_any op l ks a c W h)
  cases hv : valB (.node op l ks)
  · have HV := Lib.hid hv
    have D0 := Lib.hid (fun W (h : InX W op l ks a) => sizeP_no op l ks a c W h hv)
    have D1 := Lib.hid (fun W (h : InX W op l ks a) => depP_no op l ks a c W h hv)
    have D2 := Lib.hid (fun W (h : InX W op l ks a) => shP_no op l ks a c W h hv)
    have D3 := Lib.hid (fun W (h : InX W op l ks a) => freeP_no op l ks a c W h hv)
    have D4 := Lib.hid (fun W (h : InX W op l ks a) => nullP_no op l ks a c W h hv)
    clear hv hin
    obtain ⟨n, hn⟩ : ∃ n, n = ks.length := ⟨_, rfl⟩
    rw [← hn] at DV D0 D1 D2 D3 D4 ⊢
    have HB0 := Lib.hid ((Below.refl w.heap.size w).alloc (Nat.le_refl _) (.cells #[.int .i64 op, .int .i64 l, .slice a n c] 24))
    have HX0 := Lib.hid (HI.out.box (.cells #[.int .i64 op, .int .i64 l, .slice a n c] 24))
    have BX0 := Lib.hid (Box.new w (.int .i64 op) (.int .i64 l) (.slice a n c))
    clear hn
    go_enter Try.func6, Try.ntmps6
    go_wp2_with fail
    refine (DV.out _ HX0.out).mono ?_
    rintro e w1 ⟨rfl, hB⟩
    rw [HV.out]
    have HB1 := Lib.hid (HB0.out.trans (hB.mono (by simp)))
    have HX1 := Lib.hid (HX0.out.keep hB)
    have BX1 := Lib.hid (BX0.out.keep hB)
    obtain ⟨p0, p1, p2⟩ := BX1.out
    clear hB
    go_wp2_with fail
    refine (D0.out _ HX1.out).mono ?_
    rintro e w2 ⟨rfl, hB⟩
    have HB2 := Lib.hid (HB1.out.trans (hB.mono HB1.out.size))
    have HX2 := Lib.hid (HX1.out.keep hB)
    have BX2 := Lib.hid (BX1.out.keep hB)
    clear hB p0 p1 p2
    obtain ⟨p0, p1, p2⟩ := BX2.out
    go_wp2_with fail
    refine (D1.out _ HX2.out).mono ?_
    rintro e w3 ⟨rfl, hB⟩
    have HB3 := Lib.hid (HB2.out.trans (hB.mono HB2.out.size))
    have HX3 := Lib.hid (HX2.out.keep hB)
    have BX3 := Lib.hid (BX2.out.keep hB)
    clear hB p0 p1 p2
    obtain ⟨p0, p1, p2⟩ := BX3.out
    go_wp2_with fail
    refine (D2.out _ HX3.out).mono ?_
    rintro e w4 ⟨rfl, hB⟩
    have HB4 := Lib.hid (HB3.out.trans (hB.mono HB3.out.size))
    have HX4 := Lib.hid (HX3.out.keep hB)
    have BX4 := Lib.hid (BX3.out.keep hB)
    clear hB p0 p1 p2
    obtain ⟨p0, p1, p2⟩ := BX4.out
    go_wp2_with fail
    refine (D3.out _ HX4.out).mono ?_
    rintro e w5 ⟨rfl, hB⟩
    have HB5 := Lib.hid (HB4.out.trans (hB.mono HB4.out.size))
    have HX5 := Lib.hid (HX4.out.keep hB)
    have BX5 := Lib.hid (BX4.out.keep hB)
    clear hB p0 p1 p2
    obtain ⟨p0, p1, p2⟩ := BX5.out
    go_wp2_with fail
    refine (D4.out _ HX5.out).mono ?_
    rintro e w6 ⟨rfl, hB⟩
    have HB6 := Lib.hid (HB5.out.trans (hB.mono HB5.out.size))
    have HX6 := Lib.hid (HX5.out.keep hB)
    have BX6 := Lib.hid (BX5.out.keep hB)
    clear hB p0 p1 p2
    obtain ⟨p0, p1, p2⟩ := BX6.out
    go_wp2_with fail
    refine (awake_any _).mono ?_
    rintro e w7 ⟨rfl, hB⟩
    have HB7 := Lib.hid (HB6.out.trans (hB.mono HB6.out.size))
    clear hB
    go_wp2_with fail
    go_ret
    exact ⟨rfl, HB7.out⟩
  · have HV := Lib.hid hv
    have D0 := Lib.hid (fun W (h : InX W op l ks a) => sizeP_yes op l ks a c W h hv)
    have D1 := Lib.hid (fun W (h : InX W op l ks a) => depP_yes op l ks a c W h hv)
    have D2 := Lib.hid (fun W (h : InX W op l ks a) => shP_yes op l ks a c W h hv)
    have D3 := Lib.hid (fun W (h : InX W op l ks a) => freeP_yes op l ks a c W h hv)
    have D4 := Lib.hid (fun W (h : InX W op l ks a) => nullP_yes op l ks a c W h hv)
    have R0 := Lib.hid (fun W (h : InX W op l ks a) => sizeR_any op l ks a c W h (valB_size hv).1)
    have R1 := Lib.hid (fun W (h : InX W op l ks a) => depthR_any op l ks a c W h (valB_size hv).1)
    have R2 := Lib.hid (fun W (h : InX W op l ks a) => starR_any op l ks a c W h (valB_size hv).1)
    have R3 := Lib.hid (fun W (h : InX W op l ks a) => usesR_any op l ks a c W h)
    have R4 := Lib.hid (fun W (h : InX W op l ks a) => nullR_any op l ks a c W h)
    obtain ⟨v0, hv0⟩ : ∃ v, v = ((sizeT (.node op l ks) : Nat) : Int) := ⟨_, rfl⟩
    rw [← hv0] at D0 R0
    obtain ⟨v1, hv1⟩ : ∃ v, v = ((depthT (.node op l ks) : Nat) : Int) := ⟨_, rfl⟩
    rw [← hv1] at D1 R1
    obtain ⟨v2, hv2⟩ : ∃ v, v = ((shT (.node op l ks) : Nat) : Int) := ⟨_, rfl⟩
    rw [← hv2] at D2 R2
    obtain ⟨v3, hv3⟩ : ∃ v, v = usT (.node op l ks) := ⟨_, rfl⟩
    rw [← hv3] at D3 R3
    obtain ⟨v4, hv4⟩ : ∃ v, v = nuT (.node op l ks) := ⟨_, rfl⟩
    rw [← hv4] at D4 R4
    clear hv hin hv0 hv1 hv2 hv3 hv4
    obtain ⟨n, hn⟩ : ∃ n, n = ks.length := ⟨_, rfl⟩
    rw [← hn] at DV D0 D1 D2 D3 D4 R0 R1 R2 R3 R4 ⊢
    have HB0 := Lib.hid ((Below.refl w.heap.size w).alloc (Nat.le_refl _) (.cells #[.int .i64 op, .int .i64 l, .slice a n c] 24))
    have HX0 := Lib.hid (HI.out.box (.cells #[.int .i64 op, .int .i64 l, .slice a n c] 24))
    have BX0 := Lib.hid (Box.new w (.int .i64 op) (.int .i64 l) (.slice a n c))
    clear hn
    have e3 : (v3 == v3) = true := by simp
    have e4 : (v4 == v4) = true := by simp
    have e5 : ((!v3) == !v3) = true := by simp
    have e0 : (v0 == v0) = true := by simp
    have e1 : (v1 == v1) = true := by simp
    have e2 : (v2 == v2) = true := by simp
    go_enter Try.func6, Try.ntmps6
    go_wp2_with fail
    refine (DV.out _ HX0.out).mono ?_
    rintro e w1 ⟨rfl, hB⟩
    rw [HV.out]
    have HB1 := Lib.hid (HB0.out.trans (hB.mono (by simp)))
    have HX1 := Lib.hid (HX0.out.keep hB)
    have BX1 := Lib.hid (BX0.out.keep hB)
    clear hB
    have b0 := fun d os => cell_regrown BX1.out.1 d os
    have b1 := fun d os => cell_regrown BX1.out.2.1 d os
    have b2 := fun d os => cell_regrown BX1.out.2.2 d os
    obtain ⟨p0, p1, p2⟩ := BX1.out
    have ED0 := Lib.hid (fun d os => D0.out (grow (redrawn w1 d) os) (HX1.out.re d os))
    have ER0 := Lib.hid (fun d os => R0.out (grow (redrawn w1 d) os) (HX1.out.re d os))
    have ED1 := Lib.hid (fun d os => D1.out (grow (redrawn w1 d) os) (HX1.out.re d os))
    have ER1 := Lib.hid (fun d os => R1.out (grow (redrawn w1 d) os) (HX1.out.re d os))
    have ED2 := Lib.hid (fun d os => D2.out (grow (redrawn w1 d) os) (HX1.out.re d os))
    have ER2 := Lib.hid (fun d os => R2.out (grow (redrawn w1 d) os) (HX1.out.re d os))
    have ED3 := Lib.hid (fun d os => D3.out (grow (redrawn w1 d) os) (HX1.out.re d os))
    have ER3 := Lib.hid (fun d os => R3.out (grow (redrawn w1 d) os) (HX1.out.re d os))
    have ED4 := Lib.hid (fun d os => D4.out (grow (redrawn w1 d) os) (HX1.out.re d os))
    have ER4 := Lib.hid (fun d os => R4.out (grow (redrawn w1 d) os) (HX1.out.re d os))
    go_wp2_with fail
    refine wp_region_quiet_below (by kernel_rfl) (by kernel_rfl) ?_
    repeat (go_big_quiet_step (first | (with_reducible exact Calls.regrown_of (ED0.out _ _)) | (with_reducible exact Calls.regrown_of (ER0.out _ _)) | (with_reducible exact Calls.regrown_of (ED1.out _ _)) | (with_reducible exact Calls.regrown_of (ER1.out _ _)) | (with_reducible exact Calls.regrown_of (ED2.out _ _)) | (with_reducible exact Calls.regrown_of (ER2.out _ _)) | (with_reducible exact Calls.regrown_of (ED3.out _ _)) | (with_reducible exact Calls.regrown_of (ER3.out _ _)) | (with_reducible exact Calls.regrown_of (ED4.out _ _)) | (with_reducible exact Calls.regrown_of (ER4.out _ _)) | (with_reducible exact Calls.regrown_of (awake_any _))))
    refine wpQuiet_nil ?_
    intro _ hw'
    obtain ⟨⟨dq, osq⟩, hw''⟩ := hw'
    subst hw''
    have hb := HB1.out.trans ((below_regrown w1 dq osq).mono HB1.out.size)
    go_wp2_with fail
    go_ret
    exact ⟨by simp, hb⟩
end Go.Proofs.Ytjnnabcpamionaa
