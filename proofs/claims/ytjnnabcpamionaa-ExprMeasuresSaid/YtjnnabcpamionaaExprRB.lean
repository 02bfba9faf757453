/- Walks of the laws: ExprRoundTrips, ExprCompares. -/
import Derived.Test.YtjnnabcpamionaaExprRA
import Derived.Test.YtjnnabcpamionaaExprCB
namespace Go.Proofs.Ytjnnabcpamionaa
open Go Go.RowKit Go.Sort
set_option linter.unusedVariables false
/-- a box -/
def Box (W : World) (b : Nat) (x y z : Value) : Prop := W.cell? ⟨b, 0, none⟩ = some x ∧ W.cell? ⟨b, 1, none⟩ = some y ∧ W.cell? ⟨b, 2, none⟩ = some z
theorem Box.keep {W W' : World} {b : Nat} {x y z : Value} (h : Box W b x y z) (hb : Below W.heap.size W W') : Box W' b x y z := by
  have hl := cell_lt (s := none) h.1
  exact ⟨by rw [hb.cell (p := ⟨b, 0, none⟩) hl]; exact h.1, by rw [hb.cell (p := ⟨b, 1, none⟩) hl]; exact h.2.1, by rw [hb.cell (p := ⟨b, 2, none⟩) hl]; exact h.2.2⟩
theorem Box.new (w : World) (x y z : Value) : Box (w.alloc (.cells #[x, y, z] 24)) w.heap.size x y z := ⟨by simp [go_sem], by simp [go_sem], by simp [go_sem]⟩
theorem Box.alloc {W : World} {b : Nat} {x y z : Value} (h : Box W b x y z) (o : Obj) : Box (W.alloc o) b x y z := h.keep ((Below.refl _ _).alloc (Nat.le_refl _) _)
theorem text_facts {t : T} (h : valB t = true) : (strOfNums (fmtT t)).size ≤ 4096 ∧ bytesI (strOfNums (fmtT t)) = fmtT t ∧ (∀ b, b ∈ bytesI (strOfNums (fmtT t)) → b ≠ 32) := by
  obtain ⟨h1, h2, h3⟩ := valB_size h
  have h4 := fmtT_len t
  have h5 := okB_T t h3
  have h6 := bytes_of_nums h5
  refine ⟨by rw [strOfNums_size]; omega, h6, fun b hb => ?_⟩
  rw [h6] at hb
  have := (h5 b hb).1
  omega
theorem valB_within {t : T} (h : valB t = true) : withinB t = true ∧ wfT 6 t = true := by
  simp only [valB, Bool.and_eq_true] at h; exact h
set_option maxRecDepth 100000 in
set_option maxHeartbeats 2000000 in
theorem wExprRoundTrips {w : World} (op l : Int) (ks : List T) (a : Option Addr) (c : Nat) (hin : InX w op l ks a) :
    Calls Try.prog 5 #[.agg #[.int .i64 op, .int .i64 l, .slice a ks.length c]] w fun e w' => e = .returned (.bool true) ∧ Below w.heap.size w w' := by
  have HI := Lib.hid hin
  have DV := Lib.hid (fun W (h : InX W op l ks a) => validR_any op l ks a c W h)
  have DF := Lib.hid (fun W (h : InX W op l ks a) => format_any op l ks a c W h)
  have DS := Lib.hid (fun W a2 c2 (h : InX W op l ks a2) (h2 : InX W op l ks a) => same_any op l ks op l ks a2 a c2 c W h h2)
  have DP := Lib.hid (fun (h : valB (.node op l ks) = true) W => parse_ok (strOfNums (fmtT (.node op l ks))) 6 op l ks W ⟨by omega, by omega⟩ (text_facts h).1 (valB_within h).2 (valB_within h).1 (text_facts h).2.1 (text_facts h).2.2)
  unfold ParsP at DP
  obtain ⟨n, hn⟩ : ∃ n, n = ks.length := ⟨_, rfl⟩
  rw [← hn] at DV DF DS DP ⊢
  have HB0 := Lib.hid ((Below.refl w.heap.size w).alloc (Nat.le_refl _) (.cells #[.int .i64 op, .int .i64 l, .slice a n c] 24))
  have HX0 := Lib.hid (HI.out.box (.cells #[.int .i64 op, .int .i64 l, .slice a n c] 24))
  have BX0 := Lib.hid (Box.new w (.int .i64 op) (.int .i64 l) (.slice a n c))
  clear hn hin
  cases hv : valB (.node op l ks)
  · have HV := Lib.hid hv
    clear hv
    go_enter Try.func5, Try.ntmps5
    go_wp2_with fail
    refine (DV.out _ HX0.out).mono ?_
    rintro e w1 ⟨rfl, hB⟩
    rw [HV.out]
    have HB1 := Lib.hid (HB0.out.trans (hB.mono (by simp)))
    clear hB
    go_wp2_with fail
    refine (awake_any _).mono ?_
    rintro e w2 ⟨rfl, hB⟩
    have HB2 := Lib.hid (HB1.out.trans (hB.mono HB1.out.size))
    clear hB
    go_wp2_with fail
    go_ret
    exact ⟨rfl, HB2.out⟩
  · have HV := Lib.hid hv
    have DPP := Lib.hid (DP.out hv)
    have HT := Lib.hid (textB_yes hv)
    have hsz := (text_facts hv).1
    have hc0 : (cmpT (.node op l ks) (.node op l ks) == 0) = true := by rw [cmpT_self]; rfl
    have HC := Lib.hid hc0
    obtain ⟨s, hs⟩ : ∃ s, s = strOfNums (fmtT (.node op l ks)) := ⟨_, rfl⟩
    rw [← hs] at DPP HT hsz
    have hg1 : decide ((4096 : Int) < (s.size : Int)) = false := by simp; omega
    have hg2 : decide (4096 < s.size) = false := by simp; omega
    clear hv hs hsz hc0
    go_enter Try.func5, Try.ntmps5
    go_wp2_with fail
    refine (DV.out _ HX0.out).mono ?_
    rintro e w1 ⟨rfl, hB⟩
    rw [HV.out]
    have HB1 := Lib.hid (HB0.out.trans (hB.mono (by simp)))
    have HX1 := Lib.hid (HX0.out.keep hB)
    have BX1 := Lib.hid (BX0.out.keep hB)
    obtain ⟨p0, p1, p2⟩ := BX1.out
    clear hB
    go_wp2_with fail
    refine (DF.out _ HX1.out).mono ?_
    rintro e w2 ⟨rfl, hB⟩
    rw [HT.out]
    have HB2 := Lib.hid (HB1.out.trans (hB.mono HB1.out.size))
    have HX2 := Lib.hid (HX1.out.keep hB)
    have BX2 := Lib.hid (BX1.out.keep hB)
    clear hB p0 p1 p2
    go_wp2_with fail
    refine (DPP.out w2).mono ?_
    rintro e w3 ⟨a2, c2, rfl, hx, hB⟩
    have HB3 := Lib.hid ((HB2.out.trans (hB.mono HB2.out.size)).alloc (by have := HB2.out.size; have := hB.size; omega) (.cells #[.int .i64 op, .int .i64 l, .slice a2 n c2] 24))
    have HX3 := Lib.hid ((HX2.out.keep hB).box (.cells #[.int .i64 op, .int .i64 l, .slice a2 n c2] 24))
    have HY3 := Lib.hid (hx.box (.cells #[.int .i64 op, .int .i64 l, .slice a2 n c2] 24))
    obtain ⟨p0, p1, p2⟩ := (BX2.out.keep hB).alloc (.cells #[.int .i64 op, .int .i64 l, .slice a2 n c2] 24)
    clear hB hx
    go_wp2_with fail
    refine (DS.out _ a2 c2 HY3.out HX3.out).mono ?_
    rintro e w4 ⟨rfl, hB⟩
    rw [HC.out]
    have HB4 := Lib.hid (HB3.out.trans (hB.mono (by have := HB3.out.size; omega)))
    clear hB p0 p1 p2
    go_wp2_with fail
    refine (awake_any _).mono ?_
    rintro e w5 ⟨rfl, hB⟩
    have HB5 := Lib.hid (HB4.out.trans (hB.mono HB4.out.size))
    clear hB
    go_wp2_with fail
    go_ret
    exact ⟨rfl, HB5.out⟩
end Go.Proofs.Ytjnnabcpamionaa
