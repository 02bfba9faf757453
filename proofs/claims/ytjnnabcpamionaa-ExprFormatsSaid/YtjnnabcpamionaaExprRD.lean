/- Walk of the law ExprFormats. -/
import Derived.Test.YtjnnabcpamionaaExprRB
import Derived.Test.YtjnnabcpamionaaExprG2
namespace Go.Proofs.Ytjnnabcpamionaa
open Go Go.RowKit Go.Sort
set_option linter.unusedVariables false
set_option maxRecDepth 100000 in
set_option maxHeartbeats 2000000 in
theorem wExprFormats {w : World} (op l : Int) (ks : List T) (a : Option Addr) (c : Nat) (hin : InX w op l ks a) :
    Calls Try.prog 4 #[.agg #[.int .i64 op, .int .i64 l, .slice a ks.length c]] w fun e w' => e = .returned (.bool true) ∧ Below w.heap.size w w' := by
  have HI := Lib.hid hin
  have DV := Lib.hid (fun W (h : InX W op l ks a) => validR_any op l ks a c W h)
  have DF := Lib.hid (fun W (h : InX W op l ks a) => format_any op l ks a c W h)
  have DR := Lib.hid (fun (hv : valB (.node op l ks) = true) W (h : InX W op l ks a) => formatR_of op l ks (valB_within hv).2 a c W h (valB_size hv).1)
  obtain ⟨n, hn⟩ : ∃ n, n = ks.length := ⟨_, rfl⟩
  rw [← hn] at DV DF DR ⊢
  have HB0 := Lib.hid ((Below.refl w.heap.size w).alloc (Nat.le_refl _) (.cells #[.int .i64 op, .int .i64 l, .slice a n c] 24))
  have HX0 := Lib.hid (HI.out.box (.cells #[.int .i64 op, .int .i64 l, .slice a n c] 24))
  have BX0 := Lib.hid (Box.new w (.int .i64 op) (.int .i64 l) (.slice a n c))
  clear hn hin
  cases hv : valB (.node op l ks)
  · have HV := Lib.hid hv
    have HT := Lib.hid (textB_no hv)
    clear hv
    go_enter Try.func4, Try.ntmps4
    go_wp2_with fail
    refine (DF.out _ HX0.out).mono ?_
    rintro e w1 ⟨rfl, hB⟩
    rw [HT.out]
    have HB1 := Lib.hid (HB0.out.trans (hB.mono (by simp)))
    have HX1 := Lib.hid (HX0.out.keep hB)
    have BX1 := Lib.hid (BX0.out.keep hB)
    obtain ⟨p0, p1, p2⟩ := BX1.out
    clear hB
    go_wp2_with fail
    refine (DV.out _ HX1.out).mono ?_
    rintro e w2 ⟨rfl, hB⟩
    rw [HV.out]
    have HB2 := Lib.hid (HB1.out.trans (hB.mono HB1.out.size))
    clear hB p0 p1 p2
    go_wp2_with fail
    refine (awake_any _).mono ?_
    rintro e w3 ⟨rfl, hB⟩
    have HB3 := Lib.hid (HB2.out.trans (hB.mono HB2.out.size))
    clear hB
    go_wp2_with fail
    go_ret
    exact ⟨rfl, HB3.out⟩
  · have HV := Lib.hid hv
    have HT := Lib.hid (textB_yes hv)
    have DRR := Lib.hid (DR.out hv)
    obtain ⟨s, hs⟩ : ∃ s, s = strOfNums (fmtT (.node op l ks)) := ⟨_, rfl⟩
    rw [← hs] at HT DRR
    have heq : (s.toList == s.toList) = true := by simp
    clear hv hs
    go_enter Try.func4, Try.ntmps4
    go_wp2_with fail
    refine (DF.out _ HX0.out).mono ?_
    rintro e w1 ⟨rfl, hB⟩
    rw [HT.out]
    have HB1 := Lib.hid (HB0.out.trans (hB.mono (by simp)))
    have HX1 := Lib.hid (HX0.out.keep hB)
    have BX1 := Lib.hid (BX0.out.keep hB)
    obtain ⟨p0, p1, p2⟩ := BX1.out
    clear hB
    go_wp2_with fail
    refine (DV.out _ HX1.out).mono ?_
    rintro e w2 ⟨rfl, hB⟩
    rw [HV.out]
    have HB2 := Lib.hid (HB1.out.trans (hB.mono HB1.out.size))
    have HX2 := Lib.hid (HX1.out.keep hB)
    obtain ⟨q0, q1, q2⟩ := BX1.out.keep hB
    clear hB p0 p1 p2
    go_wp2_with fail
    refine (DRR.out _ HX2.out).mono ?_
    rintro e w3 ⟨rfl, hB⟩
    have HB3 := Lib.hid (HB2.out.trans (hB.mono HB2.out.size))
    clear hB q0 q1 q2
    go_wp2_with fail
    refine (awake_any _).mono ?_
    rintro e w4 ⟨rfl, hB⟩
    have HB4 := Lib.hid (HB3.out.trans (hB.mono HB3.out.size))
    clear hB
    go_wp2_with fail
    go_ret
    exact ⟨rfl, HB4.out⟩
end Go.Proofs.Ytjnnabcpamionaa
