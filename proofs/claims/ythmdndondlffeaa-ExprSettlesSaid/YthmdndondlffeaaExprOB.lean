/- Walk of the law ExprSettles. -/
import Derived.Test.YthmdndondlffeaaExprOA
import Derived.Deep.RegionHeld3
namespace Go.Proofs.Ythmdndondlffeaa
open Go Go.RowKit Go.Sort
set_option linter.unusedVariables false
set_option maxRecDepth 100000 in
set_option maxHeartbeats 8000000 in
theorem wExprSettles {w : World} (op l : Int) (ks : List T) (a : Option Addr) (c : Nat) (hin : InX w op l ks a) :
    Calls Try.prog 4 #[.agg #[.int .i64 op, .int .i64 l, .slice a ks.length c]] w fun e w' => e = .returned (.bool true) ∧ Below w.heap.size w w' := by
  have HI := Lib.hid hin
  have DV := Lib.hid (fun W (h : InX W op l ks a) => validR_any op l ks a c W h)
  have DN := Lib.hid (fun (hv : valB (.node op l ks) = true) W (h : InX W op l ks a) => normalP_yes op l ks a c W h hv)
  have DS := Lib.hid (fun (hv : valB (.node op l ks) = true) W (h : InX W op l ks a) => sizeP_yes op l ks a c W h hv)
  obtain ⟨n, hn⟩ : ∃ n, n = ks.length := ⟨_, rfl⟩
  rw [← hn] at DV DN DS ⊢
  have HB0 := Lib.hid ((Below.refl w.heap.size w).alloc (Nat.le_refl _) (.cells #[.int .i64 op, .int .i64 l, .slice a n c] 24))
  have HX0 := Lib.hid (HI.out.box (.cells #[.int .i64 op, .int .i64 l, .slice a n c] 24))
  have BX0 := Lib.hid (Box.new w (.int .i64 op) (.int .i64 l) (.slice a n c))
  clear hn hin
  cases hv : valB (.node op l ks)
  · have HV := Lib.hid hv
    clear hv
    go_enter Try.func4, Try.ntmps4
    go_wp2_with fail
    refine (DV.out _ HX0.out).mono ?_
    rintro e w1 ⟨rfl, hB⟩
    rw [HV.out]
    have HB1 := Lib.hid (HB0.out.trans (hB.mono (by simp)))
    clear hB
    go_wp2_with fail
    refine (awake_any _).mono ?_
    rintro e w3 ⟨rfl, hB⟩
    have HB3 := Lib.hid (HB1.out.trans (hB.mono HB1.out.size))
    clear hB
    go_wp2_with fail
    go_ret
    exact ⟨rfl, HB3.out⟩
  · have HV := Lib.hid hv
    have DNY := Lib.hid (DN.out hv)
    have DSY := Lib.hid (DS.out hv)
    obtain ⟨hv1, hv2, hv3⟩ := nrm_val hv
    obtain ⟨ro, rl, rk, hr⟩ : ∃ o1 l1 k1, nrmT (.node op l ks) = .node o1 l1 k1 := by
      cases h : nrmT (.node op l ks) with
      | node o l k => exact ⟨o, l, k, rfl⟩
    rw [hr] at hv1 hv2 hv3 DNY
    obtain ⟨s1, hs1⟩ : ∃ s : Int, s = ((sizeT (.node ro rl rk) : Nat) : Int) := ⟨_, rfl⟩
    obtain ⟨s2, hs2⟩ : ∃ s : Int, s = ((sizeT (.node op l ks) : Nat) : Int) := ⟨_, rfl⟩
    have hle : s1 ≤ s2 := by omega
    rw [← hs2] at DSY
    have CV := Lib.hid (fun a' c' W (h : InX W ro rl rk a') => validate_any ro rl rk 6 a' c' W h)
    rw [(errT_six _).2 hv1] at CV
    have CS := Lib.hid (fun a' c' W (h : InX W ro rl rk a') => sizeP_yes ro rl rk a' c' W h hv1)
    rw [← hs1] at CS
    have CN := Lib.hid (fun a' c' W (h : InX W ro rl rk a') => normalP_yes ro rl rk a' c' W h hv1)
    rw [hv3] at CN
    have CM := Lib.hid (fun a' c' a9 c9 W (h : InX W ro rl rk a') (h9 : InX W ro rl rk a9) => same_any ro rl rk ro rl rk a9 a' c9 c' W h9 h)
    rw [cmpT_self] at CM
    have CN2 := Lib.hid (fun a' c' W (h : InX W ro rl rk a') => (CN.out a' c' W h).mono fun e w' h => give_node.1 h)
    obtain ⟨rn, hrn⟩ : ∃ n, n = rk.length := ⟨_, rfl⟩
    have DN2 := Lib.hid (fun W h => (DNY.out W h).mono fun e w' h => give_node.1 h)
    rw [← hrn] at CV CS CM CN2 DN2
    clear hv hv1 hv2 hv3 hr hs1 hs2 hrn CN DNY DN DS
    go_enter Try.func4, Try.ntmps4
    go_wp2_with fail
    refine (DV.out _ HX0.out).mono ?_
    rintro e w1 ⟨rfl, hB⟩
    rw [HV.out]
    have HB1 := Lib.hid (HB0.out.trans (hB.mono (by simp)))
    have HX1 := Lib.hid (HX0.out.keep hB)
    have BX1 := Lib.hid (BX0.out.keep hB)
    obtain ⟨p0, p1, p2⟩ := BX1.out
    clear hB
    go_wp2_with fail
    refine (DN2.out _ HX1.out).mono ?_
    rintro e w2 ⟨a', c', rfl, hx2, hB⟩
    have HB2 := Lib.hid (HB1.out.trans (hB.mono HB1.out.size))
    have HX2 := Lib.hid ((HX1.out.keep hB).box (.cells #[.int .i64 ro, .int .i64 rl, .slice a' rn c'] 24))
    have BX2 := Lib.hid ((BX1.out.keep hB).alloc (.cells #[.int .i64 ro, .int .i64 rl, .slice a' rn c'] 24))
    have HN2 := Lib.hid (hx2.box (.cells #[.int .i64 ro, .int .i64 rl, .slice a' rn c'] 24))
    have BN2 := Lib.hid (Box.new w2 (.int .i64 ro) (.int .i64 rl) (.slice a' rn c'))
    have HB3 := Lib.hid (HB2.out.alloc HB2.out.size (.cells #[.int .i64 ro, .int .i64 rl, .slice a' rn c'] 24))
    clear hB p0 p1 p2 hx2
    obtain ⟨p0, p1, p2⟩ := BX2.out
    obtain ⟨q0, q1, q2⟩ := BN2.out
    go_wp2_with fail
    go_region_held3 (fun w' => w'.cell? ⟨w.heap.size, 0, none⟩ = some (.int .i64 op) ∧ w'.cell? ⟨w.heap.size, 1, none⟩ = some (.int .i64 l) ∧ w'.cell? ⟨w.heap.size, 2, none⟩ = some (.slice a n c) ∧ w'.cell? ⟨w2.heap.size, 0, none⟩ = some (.int .i64 ro) ∧ w'.cell? ⟨w2.heap.size, 1, none⟩ = some (.int .i64 rl) ∧ w'.cell? ⟨w2.heap.size, 2, none⟩ = some (.slice a' rn c'))
      (go_keep)
      (first
        | (go_at_call 11
           refine (CV.out a' c' _ ?_).mono ?_
           · exact HN2.out.keep (Below.refl _ _).drew
           rintro e v1 ⟨rfl, hB⟩
           have hV1 := (Below.refl (w2.alloc (.cells #[.int .i64 ro, .int .i64 rl, .slice a' rn c'] 24)).heap.size (w2.alloc (.cells #[.int .i64 ro, .int .i64 rl, .slice a' rn c'] 24))).drew.trans hB
           obtain ⟨x0, x1, x2⟩ := BX2.out.keep hV1
           obtain ⟨y0, y1, y2⟩ := BN2.out.keep hV1
           clear hB)
        | (go_at_call 12
           refine (CS.out a' c' _ ?_).mono ?_
           · exact HN2.out.keep hV1
           rintro e v2 ⟨rfl, hB⟩
           have hV2 := hV1.trans (hB.mono hV1.size)
           obtain ⟨x0, x1, x2⟩ := BX2.out.keep hV2
           obtain ⟨y0, y1, y2⟩ := BN2.out.keep hV2
           clear hB)
        | (go_at_call 12
           refine (DSY.out _ ?_).mono ?_
           · exact HX2.out.keep hV2
           rintro e v3 ⟨rfl, hB⟩
           have hV3 := hV2.trans (hB.mono hV2.size)
           obtain ⟨x0, x1, x2⟩ := BX2.out.keep hV3
           obtain ⟨y0, y1, y2⟩ := BN2.out.keep hV3
           clear hB)
        | (go_at_call 6
           refine (CN2.out a' c' _ ?_).mono ?_
           · exact HN2.out.keep hV3
           rintro e v4 ⟨a9, c9, rfl, hx9, hB⟩
           have hV4 := hV3.trans (hB.mono hV3.size)
           obtain ⟨x0, x1, x2⟩ := BX2.out.keep hV4
           obtain ⟨y0, y1, y2⟩ := BN2.out.keep hV4
           clear hB)
        | (go_at_call 8
           refine (CM.out a' c' a9 c9 _ ?_ ?_).mono ?_
           · exact HN2.out.keep hV4
           · exact hx9
           rintro e v5 ⟨rfl, hB⟩
           have hV5 := hV4.trans (hB.mono hV4.size)
           obtain ⟨x0, x1, x2⟩ := BX2.out.keep hV5
           obtain ⟨y0, y1, y2⟩ := BN2.out.keep hV5
           clear hB)
        | (go_at_call 9
           refine (awake_any _).mono ?_
           rintro e v6 ⟨rfl, hB⟩
           have hV6 := hV5.trans (hB.mono hV5.size)
           obtain ⟨x0, x1, x2⟩ := BX2.out.keep hV6
           obtain ⟨y0, y1, y2⟩ := BN2.out.keep hV6
           clear hB))
    all_goals
      have HB9 := Lib.hid (HB3.out.trans (hV6.mono HB3.out.size))
      go_wp2_with fail
      go_ret
      exact ⟨by simp, HB9.out⟩
end Go.Proofs.Ythmdndondlffeaa
