/- Contracts: the reference's shaped, Validate, Valid. -/
import Derived.Test.YthmdndondlffeaaExprE
import Derived.Deep.DeepCutAuto
import Derived.Deep.CutBlock
namespace Go.Proofs.Ythmdndondlffeaa
open Go Go.RowKit
set_option linter.unusedVariables false
set_option maxRecDepth 100000 in
set_option maxHeartbeats 2000000 in
theorem shaped_any (op l : Int) (ks : List T) : ∀ (L : Int) (a : Option Addr) (c : Nat) (w : World), InX w op l ks a →
    Calls Try.prog 33 #[.agg #[.int .i64 op, .int .i64 l, .slice a ks.length c], .int .i64 L] w fun e w' => e = .returned (.bool (wfT L (.node op l ks))) ∧ Below w.heap.size w w' := by
  refine T.ind2 (P := fun op l ks => ∀ (L : Int) (a : Option Addr) (c : Nat) (w : World), InX w op l ks a →
    Calls Try.prog 33 #[.agg #[.int .i64 op, .int .i64 l, .slice a ks.length c], .int .i64 L] w fun e w' => e = .returned (.bool (wfT L (.node op l ks))) ∧ Below w.heap.size w w') ?_ op l ks
  clear op l ks
  intro op l ks ih L a c w hin
  have hlen := hin.2.2.2
  have HI := Lib.hid hin
  have IH := Lib.hid ih
  clear hin ih
  obtain ⟨r, hr⟩ : ∃ r : Bool, r = (decide (1 ≤ op) && decide (op ≤ 8)) := ⟨_, rfl⟩
  obtain ⟨k1, hk1⟩ : ∃ k1 : Bool, k1 = kidsOk op ks.length := ⟨_, rfl⟩
  obtain ⟨ok, hok⟩ : ∃ ok, ok = (kidsOk op ks.length && letOk op l L) := ⟨_, rfl⟩
  have HR := Lib.hid hr
  have HK1 := Lib.hid hk1
  have HOK := Lib.hid hok
  clear hok hr hk1
  obtain ⟨n, hn⟩ : ∃ n, n = ks.length := ⟨_, rfl⟩
  have HNN := Lib.hid hn
  rw [← hn] at HK1 HOK hlen ⊢
  clear hn
  go_enter Try.func33, Try.ntmps33
  go_upto_region 2 with (fail)
  go_cut [6] (fun s6 wx => s6 = .bool r ∧ wx = w.alloc (.cells #[.int .i64 op, .int .i64 l, .slice a n c] 24))
  case first =>
    by_cases h1 : 1 ≤ op
    · by_cases h2 : op ≤ 8
      · have HX := Lib.hid (show r = true by rw [HR.out]; simp [h1, h2])
        go_wp2_with fail
        go_meet
        exact ⟨by rw [HX.out], rfl⟩
      · have HX := Lib.hid (show r = false by rw [HR.out]; simp [h2])
        go_wp2_with fail
        go_meet
        exact ⟨by rw [HX.out], rfl⟩
    · have HX := Lib.hid (show r = false by rw [HR.out]; simp [h1])
      go_wp2_with fail
      go_meet
      exact ⟨by rw [HX.out], rfl⟩
  case rest =>
    obtain ⟨rfl, rfl⟩ := hcut
    go_upto_block 0 with (fail)
    go_cut [6] (fun s6 wx => s6 = .bool k1 ∧ wx = w.alloc (.cells #[.int .i64 op, .int .i64 l, .slice a n c] 24))
    case first =>
      rcases op_cases op with h | h | h | h | h | h | h | h | h
      case inr.inr.inr.inr.inr.inr.inr.inr =>
        have HX := Lib.hid (show k1 = false from HK1.out.trans (kidsOk_no n h))
        obtain rfl : r = false := by rw [HR.out, rng_beq]; simp [h]
        obtain ⟨h1, h2, h3, h4, h5, h6, h7, h8⟩ := h
        have t1 := ne_beq h1
        have t2 := ne_beq h2
        have t3 := ne_beq h3
        have t7 := ne_beq h7
        have t8 := ne_beq h8
        clear h1 h2 h3 h4 h5 h6 h7 h8
        go_wp2_with fail
        go_meet
        exact ⟨by rw [HX.out], rfl⟩
      all_goals
        have HX := Lib.hid (show k1 = _ from HK1.out.trans (by first | exact kidsOk_0 n (by omega) | exact kidsOk_1 n (by omega) | exact kidsOk_2 n (by omega)))
        obtain rfl : r = true := by rw [HR.out, rng_beq]; simp [h]
        subst h
        go_wp2_with fail
        go_meet
        exact ⟨by rw [HX.out], rfl⟩
    case rest =>
      obtain ⟨rfl, rfl⟩ := hcut
      go_upto_if 39 with (fail)
      go_cut [6] (fun s6 wx => s6 = .bool ok ∧ wx = w.alloc (.cells #[.int .i64 op, .int .i64 l, .slice a n c] 24))
      case first =>
        by_cases h3 : op = 3
        · have hlo : letOk op l L = decide (0 ≤ l ∧ l < L) := letOk_3 h3
          have t : (op == 3) = true := by rw [h3]; rfl
          cases hk : k1
          · have HX := Lib.hid (show ok = false by rw [HOK.out, ← HK1.out, hk]; rfl)
            clear h3 hlo
            go_wp2_with fail
            go_meet
            exact ⟨by rw [HX.out], rfl⟩
          · by_cases h1 : 0 ≤ l
            · by_cases h2 : l < L
              · have HX := Lib.hid (show ok = true by rw [HOK.out, ← HK1.out, hk, hlo]; simp [h1, h2])
                clear h3 hlo
                go_wp2_with fail
                go_meet
                exact ⟨by rw [HX.out], rfl⟩
              · have HX := Lib.hid (show ok = false by rw [HOK.out, ← HK1.out, hk, hlo]; simp [h2])
                clear h3 hlo
                go_wp2_with fail
                go_meet
                exact ⟨by rw [HX.out], rfl⟩
            · have HX := Lib.hid (show ok = false by rw [HOK.out, ← HK1.out, hk, hlo]; simp [h1])
              clear h3 hlo
              go_wp2_with fail
              go_meet
              exact ⟨by rw [HX.out], rfl⟩
        · have hlo : letOk op l L = (l == 0) := letOk_n h3
          have t : (op == 3) = false := ne_beq h3
          cases hk : k1
          · have HX := Lib.hid (show ok = false by rw [HOK.out, ← HK1.out, hk]; rfl)
            clear h3 hlo
            go_wp2_with fail
            go_meet
            exact ⟨by rw [HX.out], rfl⟩
          · have HX := Lib.hid (show ok = (l == 0) by rw [HOK.out, ← HK1.out, hk, hlo]; rfl)
            clear h3 hlo
            go_wp2_with fail
            go_meet
            exact ⟨by rw [HX.out], rfl⟩
      case rest =>
        obtain ⟨rfl, rfl⟩ := hcut
        have HT := Lib.hid (show ∀ (i : Nat) (b : Bool), b = (ok && wfL L (ks.take i)) → (i = ks.length ∨ b = false) → b = wfT L (.node op l ks) from fun i b h1 h2 => wfT_take (by rw [h1, HOK.out, HNN.out]) h2)
        go_wp2_with fail
        go_loopw [6, 7] (fun vb vi wr => ∃ (i : Nat) (b : Bool), i ≤ n ∧ vi = .int .i64 i ∧ vb = .bool b ∧ b = (ok && wfL L (ks.take i)) ∧ Below (w.heap.size + 1) (w.alloc (.cells #[.int .i64 op, .int .i64 l, .slice a n c] 24)) wr) (fun _ vi _ => n - (intOf vi).toNat)
        case atStart => exact ⟨0, ok, Nat.zero_le _, rfl, rfl, by simp [wfL], Below.refl _ _⟩
        case round =>
          obtain ⟨i, b, hi, rfl, rfl, hb0, hb⟩ := hrel
          have HBB := Lib.hid hb0
          have HB := Lib.hid hb
          clear hb0 hb
          have hx2 := (box_cells HB.out).2.2
          by_cases hlt : i < n
          · cases hbv : b
            · have HF := Lib.hid (HT.out i b HBB.out (.inr hbv))
              rw [hbv] at HF
              clear hbv
              go_wp2_with fail
              go_ret
              exact ⟨by rw [← HF.out]; rfl, below_box HB.out⟩
            · have hlt2 : i < ks.length := by have := HNN.out; omega
              obtain ⟨ko, kl, kk, hk, hk2⟩ := kid_some hlt2
              have HKI := Lib.hid ((HI.out.box (.cells #[.int .i64 op, .int .i64 l, .slice a n c] 24)).keep (HB.out.mono (by simp)))
              obtain ⟨b', off, a', c', rfl, hbz, c1, c2, c3, hin'⟩ := HKI.out.kid hk
              have hq := IH.out i ko kl kk hk
              have HIN := Lib.hid hin'
              have hi0 : (0 : Int) ≤ (i : Int) := by omega
              have hin2 : (i : Int) < (n : Int) := by omega
              have hwi : IntKind.i64.wrap (i : Int) = (i : Int) := IntWalk.i64_in _ (by omega)
              obtain ⟨kn, hkn⟩ : ∃ kn, kn = kk.length := ⟨_, rfl⟩
              have HQ := Lib.hid (fun W (h : InX W ko kl kk a') => hq L a' c' W h)
              rw [← hkn] at c3 HQ
              have HN := Lib.hid (show wfT L (.node ko kl kk) = (ok && wfL L (ks.take (i + 1))) by
                rw [wfL_take_succ hlt2, hk2, ← Bool.and_assoc, ← HBB.out, hbv]; rfl)
              clear hin' hkn hq hk hk2 hbv hlt2
              go_wp2_with fail
              refine (HQ.out _ HIN.out).mono ?_
              rintro e w3 ⟨rfl, hB⟩
              have HB2 := Lib.hid (HB.out.trans (hB.mono (by have := HB.out.size; simp at this; omega)))
              clear hB
              go_wp2_with fail
              exact ⟨⟨i + 1, _, by omega, by go_num, rfl, HN.out, HB2.out⟩, by simp [intOf]; omega⟩
          · have HF := Lib.hid (HT.out i b HBB.out (.inl (by have := HNN.out; omega)))
            go_wp2_with fail
            go_ret
            exact ⟨by rw [← HF.out]; rfl, below_box HB.out⟩
set_option maxHeartbeats 1000000 in
theorem validateR_any (op l : Int) (ks : List T) (L : Int) (a : Option Addr) (c : Nat) (w : World) (hin : InX w op l ks a) :
    Calls Try.prog 17 #[.agg #[.int .i64 op, .int .i64 l, .slice a ks.length c], .int .i64 L] w fun e w' => e = .returned (.int .i64 (errT (.node op l ks) L)) ∧ Below w.heap.size w w' := by
  have HI := Lib.hid hin
  have HQ1 := Lib.hid (fun W (h : InX W op l ks a) => withinR_any op l ks a c W h)
  have HQ2 := Lib.hid (fun W (h : InX W op l ks a) => shaped_any op l ks L a c W h)
  clear hin
  obtain ⟨n, hn⟩ : ∃ n, n = ks.length := ⟨_, rfl⟩
  rw [← hn] at HQ1 HQ2 ⊢
  clear hn
  have HB0 := Lib.hid ((Below.refl w.heap.size w).alloc (Nat.le_refl _) (.cells #[.int .i64 op, .int .i64 l, .slice a n c] 24))
  have HI0 := Lib.hid (HI.out.box (.cells #[.int .i64 op, .int .i64 l, .slice a n c] 24))
  cases h1 : mayB L
  · have HM := Lib.hid h1
    have HF := Lib.hid (errT_may (t := .node op l ks) h1)
    clear h1
    go_enter Try.func17, Try.ntmps17
    go_wp2_with (go_at_call 31; refine (mayR_any _ _).mono ?_; rintro e w' ⟨rfl, rfl⟩; rw [HM.out])
    go_ret
    exact ⟨by rw [HF.out]; rfl, HB0.out⟩
  cases h2 : withinB (.node op l ks)
  · have HM := Lib.hid h1
    have HW := Lib.hid h2
    have HF := Lib.hid (errT_lim h1 h2)
    clear h1 h2
    go_enter Try.func17, Try.ntmps17
    go_wp2_with (go_at_call 31; refine (mayR_any _ _).mono ?_; rintro e w' ⟨rfl, rfl⟩; rw [HM.out])
    refine (HQ1.out _ HI0.out).mono ?_
    rintro e w2 ⟨rfl, hB⟩
    rw [HW.out]
    have HB2 := Lib.hid (HB0.out.trans (hB.mono (by simp)))
    clear hB
    go_wp2_with fail
    go_ret
    exact ⟨by rw [HF.out]; rfl, HB2.out⟩
  cases h3 : wfT L (.node op l ks)
  · have HM := Lib.hid h1
    have HW := Lib.hid h2
    have HS := Lib.hid h3
    have HF := Lib.hid (errT_shape h1 h2 h3)
    clear h1 h2 h3
    go_enter Try.func17, Try.ntmps17
    go_wp2_with (go_at_call 31; refine (mayR_any _ _).mono ?_; rintro e w' ⟨rfl, rfl⟩; rw [HM.out])
    refine (HQ1.out _ HI0.out).mono ?_
    rintro e w2 ⟨rfl, hB⟩
    rw [HW.out]
    have HB1 := Lib.hid (show Below (w.heap.size + 1) _ _ from hB.mono (by simp))
    obtain ⟨x0, x1, x2⟩ := box_cells HB1.out
    have HI2 := Lib.hid (HI0.out.keep (HB1.out.mono (by simp)))
    clear hB
    go_wp2_with fail
    refine (HQ2.out _ HI2.out).mono ?_
    rintro e w3 ⟨rfl, hB⟩
    rw [HS.out]
    have HB2 := Lib.hid (below_box (HB1.out.trans (hB.mono (by have := HB1.out.size; simp at this; omega))))
    clear hB
    go_wp2_with fail
    go_ret
    exact ⟨by rw [HF.out]; rfl, HB2.out⟩
  · have HM := Lib.hid h1
    have HW := Lib.hid h2
    have HS := Lib.hid h3
    have HF := Lib.hid (errT_ok h1 h2 h3)
    clear h1 h2 h3
    go_enter Try.func17, Try.ntmps17
    go_wp2_with (go_at_call 31; refine (mayR_any _ _).mono ?_; rintro e w' ⟨rfl, rfl⟩; rw [HM.out])
    refine (HQ1.out _ HI0.out).mono ?_
    rintro e w2 ⟨rfl, hB⟩
    rw [HW.out]
    have HB1 := Lib.hid (show Below (w.heap.size + 1) _ _ from hB.mono (by simp))
    obtain ⟨x0, x1, x2⟩ := box_cells HB1.out
    have HI2 := Lib.hid (HI0.out.keep (HB1.out.mono (by simp)))
    clear hB
    go_wp2_with fail
    refine (HQ2.out _ HI2.out).mono ?_
    rintro e w3 ⟨rfl, hB⟩
    rw [HS.out]
    have HB2 := Lib.hid (below_box (HB1.out.trans (hB.mono (by have := HB1.out.size; simp at this; omega))))
    clear hB
    go_wp2_with fail
    go_ret
    exact ⟨by rw [HF.out]; rfl, HB2.out⟩
set_option maxHeartbeats 1000000 in
theorem validR_any (op l : Int) (ks : List T) (a : Option Addr) (c : Nat) (w : World) (hin : InX w op l ks a) :
    Calls Try.prog 7 #[.agg #[.int .i64 op, .int .i64 l, .slice a ks.length c]] w fun e w' => e = .returned (.bool (valB (.node op l ks))) ∧ Below w.heap.size w w' := by
  have HI := Lib.hid hin
  have HQ := Lib.hid (fun W (h : InX W op l ks a) => validateR_any op l ks 6 a c W h)
  have HE := Lib.hid (errT_eq0 (.node op l ks))
  clear hin
  obtain ⟨n, hn⟩ : ∃ n, n = ks.length := ⟨_, rfl⟩
  obtain ⟨r, hr⟩ : ∃ r, r = errT (.node op l ks) 6 := ⟨_, rfl⟩
  rw [← hr] at HE HQ
  rw [← hn] at HQ ⊢
  clear hn hr
  have HB0 := Lib.hid ((Below.refl w.heap.size w).alloc (Nat.le_refl _) (.cells #[.int .i64 op, .int .i64 l, .slice a n c] 24))
  have HI0 := Lib.hid (HI.out.box (.cells #[.int .i64 op, .int .i64 l, .slice a n c] 24))
  go_enter Try.func7, Try.ntmps7
  go_wp2_with fail
  refine (HQ.out _ HI0.out).mono ?_
  rintro e w2 ⟨rfl, hB⟩
  have HB2 := Lib.hid (HB0.out.trans (hB.mono (by simp)))
  clear hB
  go_wp2_with fail
  go_ret
  exact ⟨by rw [← HE.out]; rfl, HB2.out⟩
end Go.Proofs.Ythmdndondlffeaa
