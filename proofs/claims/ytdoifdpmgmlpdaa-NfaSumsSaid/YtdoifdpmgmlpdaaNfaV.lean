/- Contracts: the reference's Validate, the law's valid. -/
import Derived.Test.YtdoifdpmgmlpdaaNfaVA
namespace Go.Proofs.Ytdoifdpmgmlpdaa
open Go Go.RowKit Go.Lib Go.Sort
open Go.Proofs.Ytdoifdpmgmlpdaa.rel (u_or or_u pow_le64 pow_lt64)
set_option linter.unusedVariables false
theorem hdB_may {L S : Int} (h : mayB L = false) : hdB L S = false := by
  rw [← Bool.not_eq_true, hdB, decide_eq_true_iff]
  intro h2
  rw [mayB, decide_eq_false_iff_not] at h
  omega
theorem hdB_neg {L S : Int} (h : S < 0 ∨ 64 < S) : hdB L S = false := by rw [← Bool.not_eq_true, hdB, decide_eq_true_iff]; omega
theorem hdB_yes {L S : Int} (h : mayB L = true) (h2 : 0 ≤ S) (h3 : S ≤ 64) : hdB L S = true := by
  rw [mayB, decide_eq_true_iff] at h
  rw [hdB, decide_eq_true_iff]; omega
set_option maxRecDepth 100000 in
set_option maxHeartbeats 4000000 in
theorem rvalidate_bad (L S : Int) (st fi : Nat) (es : List Ed) (a : Option Addr) (c : Nat) (w : World) (h : hdB L S = false) :
    Calls Try.prog 10 #[.agg #[.int .i64 L, .int .i64 S, .int .u64 st, .int .u64 fi, .slice a es.length c]] w fun e w' => e = .returned (.int .i64 1) ∧ Below w.heap.size w w' := by
  obtain ⟨n, hn⟩ : ∃ n, n = es.length := ⟨_, rfl⟩
  rw [← hn]
  clear hn
  have HB0 := Lib.hid ((Below.refl w.heap.size w).alloc (Nat.le_refl _) (.cells #[.int .i64 L, .int .i64 S, .int .u64 st, .int .u64 fi, .slice a n c] 25))
  obtain ⟨z0, z1, z2, z3, z4⟩ := (nbox_cells (Below.refl (w.heap.size + 1) (w.alloc (.cells #[.int .i64 L, .int .i64 S, .int .u64 st, .int .u64 fi, .slice a n c] 25))))
  cases hm : mayB L
  · have HM := Lib.hid hm
    clear hm h
    go_enter Try.func10, Try.ntmps10
    go_wp2_with fail
    refine (mayR_any _ _).mono ?_
    rintro e w' ⟨rfl, rfl⟩
    rw [HM.out]
    go_wp2_with fail
    go_ret
    exact ⟨rfl, HB0.out⟩
  · have HM := Lib.hid hm
    by_cases h1 : S < 0
    · clear hm h
      go_enter Try.func10, Try.ntmps10
      go_wp2_with fail
      refine (mayR_any _ _).mono ?_
      rintro e w' ⟨rfl, rfl⟩
      rw [HM.out]
      go_wp2_with fail
      go_ret
      exact ⟨rfl, HB0.out⟩
    · have h2 : 64 < S := by
        apply Int.lt_of_not_ge; intro h3
        rw [hdB_yes hm (by omega) h3] at h; cases h
      have h3 : 0 ≤ S := by omega
      clear hm h h1
      go_enter Try.func10, Try.ntmps10
      go_wp2_with fail
      refine (mayR_any _ _).mono ?_
      rintro e w' ⟨rfl, rfl⟩
      rw [HM.out]
      go_wp2_with fail
      go_ret
      exact ⟨rfl, HB0.out⟩
set_option maxRecDepth 100000 in
set_option maxHeartbeats 8000000 in
theorem rvalidate_ok (L : Int) (sn st fi : Nat) (es : List Ed) (a : Option Addr) (c : Nat) (w : World) (hin : InN w L (sn : Int) st fi a es) (h : hdB L (sn : Int) = true) :
    Calls Try.prog 10 #[.agg #[.int .i64 L, .int .i64 (sn : Int), .int .u64 st, .int .u64 fi, .slice a es.length c]] w fun e w' => e = .returned (.int .i64 (errN L (sn : Int) st fi es)) ∧ Below w.heap.size w w' := by
  have hd := h
  rw [hdB, decide_eq_true_iff] at hd
  have hsn : sn ≤ 64 := by omega
  have HM := Lib.hid (show mayB L = true by rw [mayB, decide_eq_true_iff]; omega)
  have HH := Lib.hid h
  have hlen := hin.2.2.2.2.2
  have HI := Lib.hid hin
  have HBEL := Lib.hid (fun W => below2_any sn W hsn)
  have ho1 := u_or hin.2.2.2.1 (allN_u hsn)
  have ho2 := u_or hin.2.2.2.2.1 (allN_u hsn)
  have hs1 := @or_all st sn
  have hs2 := @or_all fi sn
  obtain ⟨A, hA⟩ : ∃ A, A = allN sn := ⟨_, rfl⟩
  rw [← hA] at HBEL ho1 ho2 hs1 hs2
  obtain ⟨o1, e1⟩ : ∃ o, o = st ||| A := ⟨_, rfl⟩
  obtain ⟨o2, e2⟩ : ∃ o, o = fi ||| A := ⟨_, rfl⟩
  rw [← e1] at ho1 hs1
  rw [← e2] at ho2 hs2
  have HS1 := Lib.hid hs1
  have HS2 := Lib.hid hs2
  obtain ⟨n, hn⟩ : ∃ n, n = es.length := ⟨_, rfl⟩
  have HN := Lib.hid hn
  rw [← hn] at hlen ⊢
  have HB0 := Lib.hid ((Below.refl w.heap.size w).alloc (Nat.le_refl _) (.cells #[.int .i64 L, .int .i64 (sn : Int), .int .u64 st, .int .u64 fi, .slice a n c] 25))
  obtain ⟨z0, z1, z2, z3, z4⟩ := (nbox_cells (Below.refl (w.heap.size + 1) (w.alloc (.cells #[.int .i64 L, .int .i64 (sn : Int), .int .u64 st, .int .u64 fi, .slice a n c] 25))))
  clear hin hn hA e1 e2 h hs1 hs2
  have pre : True := trivial
  by_cases q1 : o1 = A
  case neg =>
    have HF := Lib.hid (errN_set (es := es) HH.out (show setB (sn : Int) st fi = false by rw [setB, decide_eq_false_iff_not, Int.toNat_natCast]; exact fun hh => q1 (HS1.out.2 hh.1)))
    rw [HF.out]
    have t1 : ((o1 : Int) != (A : Int)) = true := by rw [bne_iff_ne]; omega
    clear q1 hd
    go_enter Try.func10, Try.ntmps10
    go_wp2_with fail
    refine (mayR_any _ _).mono ?_
    rintro e w' ⟨rfl, rfl⟩
    rw [HM.out]
    go_wp2_with fail
    refine (HBEL.out _).mono ?_
    rintro e w' ⟨rfl, rfl⟩
    go_wp2_with fail
    go_ret
    exact ⟨rfl, HB0.out⟩
  by_cases q2 : o2 = A
  case neg =>
    have HF := Lib.hid (errN_set (es := es) HH.out (show setB (sn : Int) st fi = false by rw [setB, decide_eq_false_iff_not, Int.toNat_natCast]; exact fun hh => q2 (HS2.out.2 hh.2)))
    rw [HF.out]
    have t1 : ((o1 : Int) != (A : Int)) = false := by rw [bne_eq_false_iff_eq]; omega
    have t2 : ((o2 : Int) != (A : Int)) = true := by rw [bne_iff_ne]; omega
    clear q1 q2 hd
    go_enter Try.func10, Try.ntmps10
    go_wp2_with fail
    refine (mayR_any _ _).mono ?_
    rintro e w' ⟨rfl, rfl⟩
    rw [HM.out]
    go_wp2_with fail
    refine (HBEL.out _).mono ?_
    rintro e w' ⟨rfl, rfl⟩
    go_wp2_with fail
    go_ret
    exact ⟨rfl, HB0.out⟩
  have HSB := Lib.hid (show setB (sn : Int) st fi = true by rw [setB, decide_eq_true_iff, Int.toNat_natCast]; exact ⟨HS1.out.1 q1, HS2.out.1 q2⟩)
  have HFB := Lib.hid (fun h3 => errN_edge (es := es) HH.out HSB.out h3)
  have HFG := Lib.hid (fun h3 => errN_good (es := es) HH.out HSB.out h3)
  have t1 : ((o1 : Int) != (A : Int)) = false := by rw [bne_eq_false_iff_eq]; omega
  have t2 : ((o2 : Int) != (A : Int)) = false := by rw [bne_eq_false_iff_eq]; omega
  obtain ⟨RR, hRR⟩ : ∃ RR, RR = errN L (sn : Int) st fi es := ⟨_, rfl⟩
  rw [← hRR] at HFB HFG ⊢
  clear q1 q2 hd hRR
  go_enter Try.func10, Try.ntmps10
  go_wp2_with fail
  refine (mayR_any _ _).mono ?_
  rintro e w' ⟨rfl, rfl⟩
  rw [HM.out]
  go_wp2_with fail
  refine (HBEL.out _).mono ?_
  rintro e w' ⟨rfl, rfl⟩
  go_wp2_with fail
  go_loopw [40] (fun vi wr => ∃ i : Nat, i ≤ n ∧ vi = .int .i64 i ∧ (∀ j, j < i → okAt L (sn : Int) es j = true) ∧ Below (w.heap.size + 1) (w.alloc (.cells #[.int .i64 L, .int .i64 (sn : Int), .int .u64 st, .int .u64 fi, .slice a n c] 25)) wr) (fun vi _ => n - (intOf vi).toNat)
  case atStart => exact ⟨0, Nat.zero_le _, rfl, fun j hj => by omega, Below.refl _ _⟩
  case round =>
    rename World => wA
    obtain ⟨i, hi, rfl, hall, hb⟩ := hrel
    have HA := Lib.hid hall
    have HB := Lib.hid hb
    clear z0 z1 z2 z3 z4
    obtain ⟨z0, z1, z2, z3, z4⟩ := nbox_cells hb
    clear hall hb
    by_cases hlt : i < n
    · have hle : i < es.length := by rw [← HN.out]; exact hlt
      have HIN := Lib.hid ((HI.out.1.keep ((Below.refl _ w).alloc (Nat.le_refl _) (.cells #[.int .i64 L, .int .i64 (sn : Int), .int .u64 st, .int .u64 fi, .slice a n c] 25))).keep (HB.out.mono (by simp)))
      obtain ⟨b, off, rfl, hbz, c1, c2, c3, g1, g2, g3⟩ := HIN.out.at hle
      have hi0 : (0 : Int) ≤ (i : Int) := by omega
      have hin2 : (i : Int) < (n : Int) := by omega
      have hwi : IntKind.i64.wrap (i : Int) = (i : Int) := IntWalk.i64_in _ (by omega)
      have HOK := Lib.hid (@okAt_iff L (sn : Int) es i)
      have HNO := Lib.hid (fun h => HFB.out (edB_no (L := L) (S := (sn : Int)) hle h))
      obtain ⟨e, he⟩ : ∃ e, e = es.getD i noE := ⟨_, rfl⟩
      rw [← he] at c1 c2 c3 g1 g2 g3 HOK
      have HE := Lib.hid he
      clear he
      obtain ⟨ef, el, et⟩ := e
      dsimp only at c1 c2 c3 g1 g2 g3 HOK
      have HB1 := Lib.hid (HB.out.alloc (by have := HB.out.size; simp at this; omega) (.cells #[.int .i64 ef, .int .i64 el, .int .i64 et] 44))
      obtain ⟨y0, y1, y2, y3, y4⟩ := nbox_cells HB1.out
      have HSZ := Lib.hid (show w.heap.size + 1 ≤ (wA.alloc (.cells #[.int .i64 ef, .int .i64 el, .int .i64 et] 44)).heap.size by have := HB1.out.size; simp at this; simp; omega)
      have Y0 : ∀ d os, (grow (redrawn (wA.alloc (.cells #[.int .i64 ef, .int .i64 el, .int .i64 et] 44)) d) os).cell? ⟨w.heap.size, 0, none⟩ = _ := fun d os => cell_regrown y0 d os
      have Y1 : ∀ d os, (grow (redrawn (wA.alloc (.cells #[.int .i64 ef, .int .i64 el, .int .i64 et] 44)) d) os).cell? ⟨w.heap.size, 1, none⟩ = _ := fun d os => cell_regrown y1 d os
      have Y4 : ∀ d os, (grow (redrawn (wA.alloc (.cells #[.int .i64 ef, .int .i64 el, .int .i64 et] 44)) d) os).cell? ⟨w.heap.size, 4, none⟩ = _ := fun d os => cell_regrown y4 d os
      have X0 : ∀ d os, (grow (redrawn (wA.alloc (.cells #[.int .i64 ef, .int .i64 el, .int .i64 et] 44)) d) os).cell? ⟨wA.heap.size, 0, none⟩ = some (.int .i64 ef) := fun d os => cell_regrown (by simp [go_sem]) d os
      have X1 : ∀ d os, (grow (redrawn (wA.alloc (.cells #[.int .i64 ef, .int .i64 el, .int .i64 et] 44)) d) os).cell? ⟨wA.heap.size, 1, none⟩ = some (.int .i64 el) := fun d os => cell_regrown (by simp [go_sem]) d os
      have X2 : ∀ d os, (grow (redrawn (wA.alloc (.cells #[.int .i64 ef, .int .i64 el, .int .i64 et] 44)) d) os).cell? ⟨wA.heap.size, 2, none⟩ = some (.int .i64 et) := fun d os => cell_regrown (by simp [go_sem]) d os
      clear y0 y1 y2 y3 y4
      have E1 : Hid (∀ (d : Nat) (os : Array Obj), True) := Lib.hid (fun _ _ => trivial)
      by_cases b0 : ef < 0
      · have HF := Lib.hid (HNO.out (by rw [← Bool.not_eq_true, HOK.out]; simp only [belowB, Bool.and_eq_true, decide_eq_true_eq]; omega))
        have d0 : decide (ef < 0) = true := by simpa using b0
        clear b0
        go_wp2_with fail
        refine wp_region_quiet_below (by kernel_rfl) (by kernel_rfl) ?_
        repeat (go_big_quiet_step (fail))
        refine wpQuiet_nil ?_
        intro _ hw'
        obtain ⟨⟨dq, osq⟩, hw''⟩ := hw'
        subst hw''
        have HB2 := Lib.hid (HB1.out.trans ((below_regrown (wA.alloc (.cells #[.int .i64 ef, .int .i64 el, .int .i64 et] 44)) dq osq).mono HSZ.out))
        go_wp2_with fail
        go_ret
        exact ⟨by rw [HF.out]; rfl, below_nbox HB2.out⟩
      have d0 : decide (ef < 0) = false := by simpa using b0
      by_cases b1 : (sn : Int) ≤ ef
      · have HF := Lib.hid (HNO.out (by rw [← Bool.not_eq_true, HOK.out]; simp only [belowB, Bool.and_eq_true, decide_eq_true_eq]; omega))
        have d1 : decide ((sn : Int) ≤ ef) = true := by simpa using b1
        clear b1
        go_wp2_with fail
        refine wp_region_quiet_below (by kernel_rfl) (by kernel_rfl) ?_
        repeat (go_big_quiet_step (fail))
        refine wpQuiet_nil ?_
        intro _ hw'
        obtain ⟨⟨dq, osq⟩, hw''⟩ := hw'
        subst hw''
        have HB2 := Lib.hid (HB1.out.trans ((below_regrown (wA.alloc (.cells #[.int .i64 ef, .int .i64 el, .int .i64 et] 44)) dq osq).mono HSZ.out))
        go_wp2_with fail
        go_ret
        exact ⟨by rw [HF.out]; rfl, below_nbox HB2.out⟩
      have d1 : decide ((sn : Int) ≤ ef) = false := by simpa using b1
      by_cases b2 : et < 0
      · have HF := Lib.hid (HNO.out (by rw [← Bool.not_eq_true, HOK.out]; simp only [belowB, Bool.and_eq_true, decide_eq_true_eq]; omega))
        have d2 : decide (et < 0) = true := by simpa using b2
        clear b2
        go_wp2_with fail
        refine wp_region_quiet_below (by kernel_rfl) (by kernel_rfl) ?_
        repeat (go_big_quiet_step (fail))
        refine wpQuiet_nil ?_
        intro _ hw'
        obtain ⟨⟨dq, osq⟩, hw''⟩ := hw'
        subst hw''
        have HB2 := Lib.hid (HB1.out.trans ((below_regrown (wA.alloc (.cells #[.int .i64 ef, .int .i64 el, .int .i64 et] 44)) dq osq).mono HSZ.out))
        go_wp2_with fail
        go_ret
        exact ⟨by rw [HF.out]; rfl, below_nbox HB2.out⟩
      have d2 : decide (et < 0) = false := by simpa using b2
      by_cases b3 : (sn : Int) ≤ et
      · have HF := Lib.hid (HNO.out (by rw [← Bool.not_eq_true, HOK.out]; simp only [belowB, Bool.and_eq_true, decide_eq_true_eq]; omega))
        have d3 : decide ((sn : Int) ≤ et) = true := by simpa using b3
        clear b3
        go_wp2_with fail
        refine wp_region_quiet_below (by kernel_rfl) (by kernel_rfl) ?_
        repeat (go_big_quiet_step (fail))
        refine wpQuiet_nil ?_
        intro _ hw'
        obtain ⟨⟨dq, osq⟩, hw''⟩ := hw'
        subst hw''
        have HB2 := Lib.hid (HB1.out.trans ((below_regrown (wA.alloc (.cells #[.int .i64 ef, .int .i64 el, .int .i64 et] 44)) dq osq).mono HSZ.out))
        go_wp2_with fail
        go_ret
        exact ⟨by rw [HF.out]; rfl, below_nbox HB2.out⟩
      have d3 : decide ((sn : Int) ≤ et) = false := by simpa using b3
      by_cases b4 : el < 0
      · have HF := Lib.hid (HNO.out (by rw [← Bool.not_eq_true, HOK.out]; simp only [belowB, Bool.and_eq_true, decide_eq_true_eq]; omega))
        have d4 : decide (el < 0) = true := by simpa using b4
        clear b4
        go_wp2_with fail
        refine wp_region_quiet_below (by kernel_rfl) (by kernel_rfl) ?_
        repeat (go_big_quiet_step (fail))
        refine wpQuiet_nil ?_
        intro _ hw'
        obtain ⟨⟨dq, osq⟩, hw''⟩ := hw'
        subst hw''
        have HB2 := Lib.hid (HB1.out.trans ((below_regrown (wA.alloc (.cells #[.int .i64 ef, .int .i64 el, .int .i64 et] 44)) dq osq).mono HSZ.out))
        go_wp2_with fail
        go_ret
        exact ⟨by rw [HF.out]; rfl, below_nbox HB2.out⟩
      have d4 : decide (el < 0) = false := by simpa using b4
      by_cases b5 : L ≤ el
      · have HF := Lib.hid (HNO.out (by rw [← Bool.not_eq_true, HOK.out]; simp only [belowB, Bool.and_eq_true, decide_eq_true_eq]; omega))
        have d5 : decide (L ≤ el) = true := by simpa using b5
        clear b5
        go_wp2_with fail
        refine wp_region_quiet_below (by kernel_rfl) (by kernel_rfl) ?_
        repeat (go_big_quiet_step (fail))
        refine wpQuiet_nil ?_
        intro _ hw'
        obtain ⟨⟨dq, osq⟩, hw''⟩ := hw'
        subst hw''
        have HB2 := Lib.hid (HB1.out.trans ((below_regrown (wA.alloc (.cells #[.int .i64 ef, .int .i64 el, .int .i64 et] 44)) dq osq).mono HSZ.out))
        go_wp2_with fail
        go_ret
        exact ⟨by rw [HF.out]; rfl, below_nbox HB2.out⟩
      have d5 : decide (L ≤ el) = false := by simpa using b5
      have hin6 : belowB ef (sn : Int) = true ∧ belowB el L = true ∧ belowB et (sn : Int) = true := by
        simp only [belowB, Bool.and_eq_true, decide_eq_true_eq]; omega
      have HI6 := Lib.hid hin6
      clear b0 b1 b2 b3 b4 b5 hin6
      by_cases h0 : i = 0
      · have HX := Lib.hid (HOK.out.2 ⟨HI6.out.1, HI6.out.2.1, HI6.out.2.2, .inl h0⟩)
        have dz : decide ((0 : Int) < (i : Int)) = false := by simp; omega
        have dz2 : decide (0 < i) = false := by simp; omega
        clear h0
        go_wp2_with fail
        refine wp_region_quiet_below (by kernel_rfl) (by kernel_rfl) ?_
        repeat (go_big_quiet_step (fail))
        refine wpQuiet_nil ?_
        intro _ hw'
        obtain ⟨⟨dq, osq⟩, hw''⟩ := hw'
        subst hw''
        have HB2 := Lib.hid (HB1.out.trans ((below_regrown (wA.alloc (.cells #[.int .i64 ef, .int .i64 el, .int .i64 et] 44)) dq osq).mono HSZ.out))
        go_wp2_with fail
        exact ⟨⟨i + 1, by omega, by go_num, fun j hj => by
          by_cases e : j = i
          · rw [e]; exact HX.out
          · exact HA.out j (by omega), HB2.out⟩, by simp [intOf]; omega⟩
      · obtain ⟨k, hk⟩ : ∃ k, k = i - 1 := ⟨_, rfl⟩
        obtain ⟨b', off', hbo, hbz', p1, p2, p3, q1, q2, q3⟩ := HIN.out.at (i := k) (by omega)
        obtain ⟨rfl, rfl⟩ : b' = b ∧ off' = off := by injection hbo with h; injection h with h1 h2; exact ⟨h1.symm, h2.symm⟩
        rw [← hk] at HOK
        obtain ⟨pe, hpe⟩ : ∃ e, e = es.getD k noE := ⟨_, rfl⟩
        rw [← hpe] at p1 p2 p3 q1 q2 q3 HOK
        have hki : (i : Int) - 1 = (k : Int) := by omega
        have hk0 : (0 : Int) ≤ (k : Int) := by omega
        have hkn : (k : Int) < (n : Int) := by omega
        have hwk : IntKind.i64.wrap (k : Int) = (k : Int) := IntWalk.i64_in _ (by omega)
        have hip : (0 : Int) < (i : Int) := by omega
        have hipn : 0 < i := by omega
        clear hpe hk hbo hbz' E1
        obtain ⟨pf, pl, pt⟩ := pe
        dsimp only at p1 p2 p3 q1 q2 q3 HOK
        have CE := Lib.hid (fun W => before_any ⟨pf, pl, pt⟩ ⟨ef, el, et⟩ W)
        dsimp only at CE
        have P1 : ∀ d os, (grow (redrawn (wA.alloc (.cells #[.int .i64 ef, .int .i64 el, .int .i64 et] 44)) d) os).cell? ⟨b', off' + k * 3, none⟩ = some (.int .i64 pf) := fun d os => cell_regrown (by rw [cell_alloc_lt hbz]; exact p1) d os
        have P2 : ∀ d os, (grow (redrawn (wA.alloc (.cells #[.int .i64 ef, .int .i64 el, .int .i64 et] 44)) d) os).cell? ⟨b', off' + k * 3 + 1, none⟩ = some (.int .i64 pl) := fun d os => cell_regrown (by rw [cell_alloc_lt hbz]; exact p2) d os
        have P3 : ∀ d os, (grow (redrawn (wA.alloc (.cells #[.int .i64 ef, .int .i64 el, .int .i64 et] 44)) d) os).cell? ⟨b', off' + k * 3 + 2, none⟩ = some (.int .i64 pt) := fun d os => cell_regrown (by rw [cell_alloc_lt hbz]; exact p3) d os
        clear p1 p2 p3
        cases hr : ltE ⟨pf, pl, pt⟩ ⟨ef, el, et⟩
        · have HF := Lib.hid (HNO.out (by rw [← Bool.not_eq_true, HOK.out, hr]; simp [h0]))
          rw [hr] at CE
          have E1 := Lib.hid (fun d os => CE.out (grow (redrawn (wA.alloc (.cells #[.int .i64 ef, .int .i64 el, .int .i64 et] 44)) d) os))
          clear hr h0
          go_wp2_with fail
          refine wp_region_quiet_below (by kernel_rfl) (by kernel_rfl) ?_
          repeat (go_big_quiet_step (first | (with_reducible exact Calls.regrown_of (E1.out _ _))))
          refine wpQuiet_nil ?_
          intro _ hw'
          obtain ⟨⟨dq, osq⟩, hw''⟩ := hw'
          subst hw''
          have HB2 := Lib.hid (HB1.out.trans ((below_regrown (wA.alloc (.cells #[.int .i64 ef, .int .i64 el, .int .i64 et] 44)) dq osq).mono HSZ.out))
          go_wp2_with fail
          go_ret
          exact ⟨by rw [HF.out]; rfl, below_nbox HB2.out⟩
        · have HX := Lib.hid (HOK.out.2 ⟨HI6.out.1, HI6.out.2.1, HI6.out.2.2, .inr hr⟩)
          rw [hr] at CE
          have E1 := Lib.hid (fun d os => CE.out (grow (redrawn (wA.alloc (.cells #[.int .i64 ef, .int .i64 el, .int .i64 et] 44)) d) os))
          clear hr h0
          go_wp2_with fail
          refine wp_region_quiet_below (by kernel_rfl) (by kernel_rfl) ?_
          repeat (go_big_quiet_step (first | (with_reducible exact Calls.regrown_of (E1.out _ _))))
          refine wpQuiet_nil ?_
          intro _ hw'
          obtain ⟨⟨dq, osq⟩, hw''⟩ := hw'
          subst hw''
          have HB2 := Lib.hid (HB1.out.trans ((below_regrown (wA.alloc (.cells #[.int .i64 ef, .int .i64 el, .int .i64 et] 44)) dq osq).mono HSZ.out))
          go_wp2_with fail
          exact ⟨⟨i + 1, by omega, by go_num, fun j hj => by
            by_cases e : j = i
            · rw [e]; exact HX.out
            · exact HA.out j (by omega), HB2.out⟩, by simp [intOf]; omega⟩
    · obtain rfl : i = n := by omega
      have HF := Lib.hid (HFG.out (edB_iff.2 (by rw [← HN.out]; exact HA.out)))
      go_wp2_with fail
      go_ret
      exact ⟨by rw [HF.out]; rfl, below_nbox HB.out⟩
theorem rvalidate_any (L S : Int) (st fi : Nat) (es : List Ed) (a : Option Addr) (c : Nat) (w : World) (hin : InN w L S st fi a es) :
    Calls Try.prog 10 #[.agg #[.int .i64 L, .int .i64 S, .int .u64 st, .int .u64 fi, .slice a es.length c]] w fun e w' => e = .returned (.int .i64 (errN L S st fi es)) ∧ Below w.heap.size w w' := by
  cases h : hdB L S
  · rw [errN_head h]; exact rvalidate_bad L S st fi es a c w h
  · obtain ⟨sn, rfl⟩ : ∃ m : Nat, S = (m : Int) := ⟨S.toNat, by rw [hdB, decide_eq_true_iff] at h; omega⟩
    exact rvalidate_ok L sn st fi es a c w hin h
set_option maxRecDepth 100000 in
set_option maxHeartbeats 1000000 in
theorem lvalid_any (L S : Int) (st fi : Nat) (es : List Ed) (a : Option Addr) (c : Nat) (w : World) (hin : InN w L S st fi a es) :
    Calls Try.prog 13 #[.agg #[.int .i64 L, .int .i64 S, .int .u64 st, .int .u64 fi, .slice a es.length c]] w fun e w' => e = .returned (.bool (valN L S st fi es)) ∧ Below w.heap.size w w' := by
  have HI := Lib.hid hin
  have HQ := Lib.hid (fun W (h : InN W L S st fi a es) => rvalidate_any L S st fi es a c W h)
  have HE := Lib.hid (errN_eq0 L S st fi es)
  clear hin
  obtain ⟨n, hn⟩ : ∃ n, n = es.length := ⟨_, rfl⟩
  obtain ⟨r, hr⟩ : ∃ r, r = errN L S st fi es := ⟨_, rfl⟩
  rw [← hr] at HE HQ
  rw [← hn] at HQ ⊢
  clear hn hr
  have HB0 := Lib.hid ((Below.refl w.heap.size w).alloc (Nat.le_refl _) (.cells #[.int .i64 L, .int .i64 S, .int .u64 st, .int .u64 fi, .slice a n c] 25))
  have HI0 := Lib.hid (HI.out.box (.cells #[.int .i64 L, .int .i64 S, .int .u64 st, .int .u64 fi, .slice a n c] 25))
  go_enter Try.func13, Try.ntmps13
  go_wp2_with fail
  refine (HQ.out _ HI0.out).mono ?_
  rintro e w2 ⟨rfl, hB⟩
  have HB2 := Lib.hid (HB0.out.trans (hB.mono (by simp)))
  clear hB
  go_wp2_with fail
  go_ret
  exact ⟨by rw [← HE.out]; rfl, HB2.out⟩
end Go.Proofs.Ytdoifdpmgmlpdaa
