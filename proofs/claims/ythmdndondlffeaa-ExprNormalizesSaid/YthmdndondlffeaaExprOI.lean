/- Walk of the law ExprNormalizes. -/
import Derived.Test.YthmdndondlffeaaExprOH
namespace Go.Proofs.Ythmdndondlffeaa
open Go Go.RowKit Go.Sort
set_option linter.unusedVariables false
theorem inX_nil (w : World) : InX w 0 0 [] none := ⟨.zero _, by unfold B64; omega, by unfold B64; omega, by simp⟩
set_option maxRecDepth 100000 in
set_option maxHeartbeats 8000000 in
theorem wExprNormalizes {w : World} (op l : Int) (ks : List T) (a : Option Addr) (c : Nat) (hin : InX w op l ks a) :
    Calls Try.prog 3 #[.agg #[.int .i64 op, .int .i64 l, .slice a ks.length c]] w fun e w' => e = .returned (.bool true) ∧ Below w.heap.size w w' := by
  have HI := Lib.hid hin
  have DV := Lib.hid (fun W (h : InX W op l ks a) => validR_any op l ks a c W h)
  have DN := Lib.hid (fun (hv : valB (.node op l ks) = true) W (h : InX W op l ks a) => normalP_yes op l ks a c W h hv)
  have DO := Lib.hid (fun (hv : valB (.node op l ks) = false) W (h : InX W op l ks a) => normalP_no op l ks a c W h hv)
  have DR := Lib.hid (fun (hv : valB (.node op l ks) = true) W (h : InX W op l ks a) => normalR_any op l ks (valB_within hv).2 (by have := (valB_size hv).1; omega) a c W h)
  obtain ⟨n, hn⟩ : ∃ n, n = ks.length := ⟨_, rfl⟩
  rw [← hn] at DV DN DO DR ⊢
  have HB0 := Lib.hid ((Below.refl w.heap.size w).alloc (Nat.le_refl _) (.cells #[.int .i64 op, .int .i64 l, .slice a n c] 24))
  have HX0 := Lib.hid (HI.out.box (.cells #[.int .i64 op, .int .i64 l, .slice a n c] 24))
  have BX0 := Lib.hid (Box.new w (.int .i64 op) (.int .i64 l) (.slice a n c))
  clear hn hin
  cases hv : valB (.node op l ks)
  · have HV := Lib.hid hv
    have DOY := Lib.hid (DO.out hv)
    have CM := Lib.hid (fun W => same_any 0 0 [] 0 0 [] none none 0 0 W (inX_nil W) (inX_nil W))
    rw [cmpT_self] at CM
    clear hv DN DR DO
    go_enter Try.func3, Try.ntmps3
    go_wp2_with fail
    refine (DOY.out _ HX0.out).mono ?_
    rintro e w1 ⟨rfl, hB⟩
    have HB1 := Lib.hid ((HB0.out.trans (hB.mono (by simp))).alloc (by have h1 := hB.size; simp only [World.size_alloc] at h1; omega) (.cells #[.int .i64 0, .int .i64 0, .slice none 0 0] 24))
    have HX1 := Lib.hid ((HX0.out.keep hB).box (.cells #[.int .i64 0, .int .i64 0, .slice none 0 0] 24))
    have BX1 := Lib.hid ((BX0.out.keep hB).alloc (.cells #[.int .i64 0, .int .i64 0, .slice none 0 0] 24))
    have BN1 := Lib.hid (Box.new w1 (.int .i64 0) (.int .i64 0) (.slice none 0 0))
    obtain ⟨p0, p1, p2⟩ := BX1.out
    clear hB
    go_wp2_with fail
    refine (DV.out _ HX1.out).mono ?_
    rintro e w2 ⟨rfl, hB⟩
    rw [HV.out]
    have HB2 := Lib.hid (HB1.out.trans (hB.mono HB1.out.size))
    clear p0 p1 p2
    obtain ⟨q0, q1, q2⟩ := BN1.out.keep hB
    clear hB
    go_wp2_with fail
    refine (CM.out _).mono ?_
    rintro e w3 ⟨rfl, hB⟩
    have HB3 := Lib.hid (HB2.out.trans (hB.mono HB2.out.size))
    clear hB
    go_wp2_with fail
    refine (awake_any _).mono ?_
    rintro e w4 ⟨rfl, hB⟩
    have HB4 := Lib.hid (HB3.out.trans (hB.mono HB3.out.size))
    clear hB
    go_wp2_with fail
    go_ret
    exact ⟨rfl, HB4.out⟩
  · have HV := Lib.hid hv
    have DNY := Lib.hid (DN.out hv)
    have DRY := Lib.hid (DR.out hv)
    obtain ⟨ro, rl, rk, hr⟩ : ∃ o1 l1 k1, nrmT (.node op l ks) = .node o1 l1 k1 := by
      cases h : nrmT (.node op l ks) with
      | node o l k => exact ⟨o, l, k, rfl⟩
    rw [hr] at DNY DRY
    have CM := Lib.hid (fun a' c' a9 c9 W (h : InX W ro rl rk a') (h9 : InX W ro rl rk a9) => same_any ro rl rk ro rl rk a' a9 c' c9 W h h9)
    rw [cmpT_self] at CM
    have DN2 := Lib.hid (fun W h => (DNY.out W h).mono fun e w' h => give_node.1 h)
    have DR2 := Lib.hid (fun W h => (DRY.out W h).mono fun e w' h => give_node.1 h)
    obtain ⟨rn, hrn⟩ : ∃ n, n = rk.length := ⟨_, rfl⟩
    rw [← hrn] at CM DN2 DR2
    clear hv hr hrn DNY DRY DN DR DO
    go_enter Try.func3, Try.ntmps3
    go_wp2_with fail
    refine (DN2.out _ HX0.out).mono ?_
    rintro e w2 ⟨a', c', rfl, hx2, hB⟩
    have HB2 := Lib.hid (HB0.out.trans (hB.mono (by simp)))
    have HX2 := Lib.hid ((HX0.out.keep hB).box (.cells #[.int .i64 ro, .int .i64 rl, .slice a' rn c'] 24))
    have BX2 := Lib.hid ((BX0.out.keep hB).alloc (.cells #[.int .i64 ro, .int .i64 rl, .slice a' rn c'] 24))
    have HN2 := Lib.hid (hx2.box (.cells #[.int .i64 ro, .int .i64 rl, .slice a' rn c'] 24))
    have BN2 := Lib.hid (Box.new w2 (.int .i64 ro) (.int .i64 rl) (.slice a' rn c'))
    have HB3 := Lib.hid (HB2.out.alloc HB2.out.size (.cells #[.int .i64 ro, .int .i64 rl, .slice a' rn c'] 24))
    clear hB hx2
    obtain ⟨p0, p1, p2⟩ := BX2.out
    go_wp2_with fail
    refine (DV.out _ HX2.out).mono ?_
    rintro e w3 ⟨rfl, hB⟩
    rw [HV.out]
    have HB4 := Lib.hid (HB3.out.trans (hB.mono HB3.out.size))
    have HX3 := Lib.hid (HX2.out.keep hB)
    have BX3 := Lib.hid (BX2.out.keep hB)
    have HN3 := Lib.hid (HN2.out.keep hB)
    have BN3 := Lib.hid (BN2.out.keep hB)
    clear hB p0 p1 p2
    obtain ⟨p0, p1, p2⟩ := BX3.out
    obtain ⟨q0, q1, q2⟩ := BN3.out
    go_wp2_with fail
    go_region_held3 (fun w' => w'.cell? ⟨w.heap.size, 0, none⟩ = some (.int .i64 op) ∧ w'.cell? ⟨w.heap.size, 1, none⟩ = some (.int .i64 l) ∧ w'.cell? ⟨w.heap.size, 2, none⟩ = some (.slice a n c) ∧ w'.cell? ⟨w2.heap.size, 0, none⟩ = some (.int .i64 ro) ∧ w'.cell? ⟨w2.heap.size, 1, none⟩ = some (.int .i64 rl) ∧ w'.cell? ⟨w2.heap.size, 2, none⟩ = some (.slice a' rn c'))
      (go_keep)
      (first
        | (go_at_call 10
           refine (DR2.out _ ?_).mono ?_
           · exact HX3.out.keep (Below.refl _ _).drew
           rintro e v4 ⟨a9, c9, rfl, hx9, hB⟩
           have hV4 := (Below.refl w3.heap.size w3).drew.trans hB
           obtain ⟨x0, x1, x2⟩ := BX3.out.keep hV4
           obtain ⟨y0, y1, y2⟩ := BN3.out.keep hV4
           clear hB)
        | (go_at_call 8
           refine (CM.out a' c' a9 c9 _ ?_ ?_).mono ?_
           · exact HN3.out.keep hV4
           · exact hx9
           rintro e v5 ⟨rfl, hB⟩
           have hV5 := hV4.trans (hB.mono hV4.size)
           obtain ⟨x0, x1, x2⟩ := BX3.out.keep hV5
           obtain ⟨y0, y1, y2⟩ := BN3.out.keep hV5
           clear hB)
        | (go_at_call 9
           refine (awake_any _).mono ?_
           rintro e v6 ⟨rfl, hB⟩
           have hV6 := hV5.trans (hB.mono hV5.size)
           obtain ⟨x0, x1, x2⟩ := BX3.out.keep hV6
           obtain ⟨y0, y1, y2⟩ := BN3.out.keep hV6
           clear hB))
    all_goals
      have HB9 := Lib.hid (HB4.out.trans (hV6.mono HB4.out.size))
      go_wp2_with fail
      go_ret
      exact ⟨by simp, HB9.out⟩
end Go.Proofs.Ythmdndondlffeaa
