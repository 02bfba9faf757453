/- Contract: the reference's Letters. Walk of the law NfaBounds. -/
import Derived.Test.YtdoifdpmgmlpdabNfaX
import Derived.Test.YtdoifdpmgmlpdabExprZ
import Derived.Lib.QuietBelow
import Derived.BigQuiet
namespace Go.Proofs.Ytdoifdpmgmlpdab
open Go Go.RowKit Go.Lib Go.Sort
set_option linter.unusedVariables false
theorem letL_size (ks : List T) : letL ks ≤ sizeL ks := by
  induction ks with
  | nil => simp [letL, sizeL]
  | cons x l ih => have := letT_size x; simp only [letL, sizeL]; omega
/-- 1 at a letter -/
def oneT (op : Int) : Nat := if op = 3 then 1 else 0
theorem letT_one {L op l : Int} {ks : List T} (h : wfT L (.node op l ks) = true) : letT (.node op l ks) = oneT op + letL ks := by
  unfold oneT letT
  by_cases h3 : op = 3
  · have hk := (wfT_node.1 h).1
    rw [if_pos h3, if_pos h3]
    subst h3
    have : ks = [] := by simpa [kidsOk] using hk
    subst this
    rfl
  · rw [if_neg h3, if_neg h3]; omega
set_option maxRecDepth 100000 in
set_option maxHeartbeats 2000000 in
theorem lettersR_any (L op l : Int) (ks : List T) : ∀ (a : Option Addr) (c : Nat) (w : World), InX w op l ks a → wfT L (.node op l ks) = true → sizeT (.node op l ks) ≤ 400 →
    Calls Try.prog 9 #[.agg #[.int .i64 op, .int .i64 l, .slice a ks.length c]] w fun e w' => e = .returned (.int .i64 (letT (.node op l ks) : Nat)) ∧ Below w.heap.size w w' := by
  refine T.ind2 (P := fun op l ks => ∀ (a : Option Addr) (c : Nat) (w : World), InX w op l ks a → wfT L (.node op l ks) = true → sizeT (.node op l ks) ≤ 400 →
    Calls Try.prog 9 #[.agg #[.int .i64 op, .int .i64 l, .slice a ks.length c]] w fun e w' => e = .returned (.int .i64 (letT (.node op l ks) : Nat)) ∧ Below w.heap.size w w') ?_ op l ks
  clear op l ks
  intro op l ks ih a c w hin hwf hsz
  have hlen := hin.2.2.2
  have HI := Lib.hid hin
  have IH := Lib.hid ih
  have hsl : sizeL ks ≤ 400 := by simp only [sizeT] at hsz; omega
  have HSL := Lib.hid hsl
  have HKW := Lib.hid (wfT_node.1 hwf).2.2
  have hlt := letT_one hwf
  rw [hlt]
  have ho1 : oneT op ≤ 1 := by unfold oneT; split <;> omega
  obtain ⟨n, hn⟩ : ∃ n, n = ks.length := ⟨_, rfl⟩
  have HN := Lib.hid hn
  rw [← hn] at hlen ⊢
  have HB0 := Lib.hid ((Below.refl w.heap.size w).alloc (Nat.le_refl _) (.cells #[.int .i64 op, .int .i64 l, .slice a n c] 24))
  have HC := Lib.hid (show ((op == 3) = true ∧ oneT op = 1) ∨ ((op == 3) = false ∧ oneT op = 0) by
    by_cases h3 : op = 3
    · exact .inl ⟨by simpa using h3, by rw [oneT, if_pos h3]⟩
    · exact .inr ⟨by simpa using h3, by rw [oneT, if_neg h3]⟩)
  obtain ⟨u, hu⟩ : ∃ u, u = oneT op := ⟨_, rfl⟩
  rw [← hu] at HC ho1 ⊢
  clear hin ih hn hsz hsl hlt hwf hu
  rcases HC.out with ⟨t3, hu⟩ | ⟨t3, hu⟩
  all_goals
    have HUU := Lib.hid hu
    clear HC hu
    go_enter Try.func9, Try.ntmps9
    go_wp2_with fail
    go_loopw [3, 12] (fun vc vi wr => ∃ (i m : Nat), i ≤ n ∧ vi = .int .i64 i ∧ vc = .int .i64 m ∧ m = u + letL (ks.take i) ∧ Below (w.heap.size + 1) (w.alloc (.cells #[.int .i64 op, .int .i64 l, .slice a n c] 24)) wr) (fun _ vi _ => n - (intOf vi).toNat)
    case atStart => exact ⟨0, u, Nat.zero_le _, rfl, by rw [HUU.out]; rfl, by simp [letL], Below.refl _ _⟩
    case round =>
      rename World => wA
      obtain ⟨i, m, hi, rfl, rfl, hm, hb⟩ := hrel
      have HM := Lib.hid hm
      have HB := Lib.hid hb
      clear hm hb
      by_cases hlt : i < n
      · have hlk : i < ks.length := by rw [← HN.out]; exact hlt
        obtain ⟨ko, kl, kk, hk, hk2⟩ := kid_some hlk
        have HKI := Lib.hid ((HI.out.box _).keep (HB.out.mono (by simp)))
        obtain ⟨b, off, a', c', rfl, hbz, c1, c2, c3, hin'⟩ := HKI.out.kid hk
        have hks : sizeT (.node ko kl kk) ≤ 400 := Nat.le_trans (sizeL_mem (List.mem_of_getElem? hk)) HSL.out
        have hq := IH.out i ko kl kk hk
        have HIN := Lib.hid hin'
        have hwk := HKW.out _ (List.mem_of_getElem? hk)
        have hi0 : (0 : Int) ≤ (i : Int) := by omega
        have hin2 : (i : Int) < (n : Int) := by omega
        have hwi : IntKind.i64.wrap (i : Int) = (i : Int) := IntWalk.i64_in _ (by omega)
        obtain ⟨kn, hkn⟩ : ∃ kn, kn = kk.length := ⟨_, rfl⟩
        have HQ := Lib.hid (fun W (h : InX W ko kl kk a') => hq a' c' W h hwk hks)
        have htk := letL_take hlk
        rw [hk2] at htk
        have hm1 : m ≤ 401 := by
          have h1 := sizeL_take_le ks i
          have h2 := letL_size (ks.take i)
          have h3 := HSL.out; have h4 := HM.out; omega
        have hm2 : letT (.node ko kl kk) ≤ 400 := Nat.le_trans (letT_size _) hks
        obtain ⟨m2, hm3⟩ : ∃ m2, m2 = letT (.node ko kl kk) := ⟨_, rfl⟩
        rw [← hm3] at HQ htk hm2
        have HNX := Lib.hid (show m + m2 = u + letL (ks.take (i + 1)) by rw [htk, ← Nat.add_assoc, HM.out])
        rw [← hkn] at c3 HQ
        clear hin' hkn hq hk hk2 hlk hks htk hm3 hwk
        go_wp2_with fail
        refine (HQ.out _ (HIN.out.box _)).mono ?_
        rintro e w3 ⟨rfl, hB⟩
        have HB2 := Lib.hid ((HB.out.alloc (by have := HB.out.size; simp at this; omega) (.cells #[.int .i64 ko, .int .i64 kl, .slice a' kn c'] 24)).trans (hB.mono (by have := HB.out.size; simp at this ⊢; omega)))
        clear hB
        go_wp2_with fail
        exact ⟨⟨i + 1, m + m2, by omega, by go_num, by go_num, HNX.out, HB2.out⟩, by simp [intOf]; omega⟩
      · obtain rfl : i = n := by omega
        have hE : m = u + letL ks := by have := HM.out; rw [HN.out, List.take_length] at this; exact this
        have HE := Lib.hid hE
        clear hE
        go_wp2_with fail
        go_ret
        exact ⟨by rw [← HE.out]; rfl, below_box HB.out⟩
set_option maxRecDepth 100000 in
set_option maxHeartbeats 8000000 in
theorem wNfaBounds {w : World} (op l : Int) (ks : List T) (a : Option Addr) (c : Nat) (hin : InX w op l ks a) (L : Int) (hL : (Lit.int .i64 L).wf = true) :
    Calls Try.prog 4 #[.agg #[.int .i64 op, .int .i64 l, .slice a ks.length c], .int .i64 L] w fun e w' => e = .returned (.bool true) ∧ Below w.heap.size w w' := by
  have HI := Lib.hid hin
  obtain ⟨n, hn⟩ : ∃ n, n = ks.length := ⟨_, rfl⟩
  have HB0 := Lib.hid ((Below.refl w.heap.size w).alloc (Nat.le_refl _) (.cells #[.int .i64 op, .int .i64 l, .slice a n c] 24))
  have HX0 := Lib.hid (HI.out.box (.cells #[.int .i64 op, .int .i64 l, .slice a n c] 24))
  by_cases hok : errP (.node op l ks) L = 0 ∧ 1 + letT (.node op l ks) ≤ 64
  · obtain ⟨he, hlim⟩ := hok
    obtain ⟨hL6, hsz, hg⟩ := good_of he
    obtain ⟨Ln, rfl⟩ : ∃ m : Nat, L = (m : Int) := ⟨L.toNat, by omega⟩
    have D1 := Lib.hid (fun W (h : InX W op l ks a) => position_ok op l ks Ln a c W h he hlim)
    have D2 := Lib.hid (fun W (h : InX W op l ks a) => lettersR_any (Ln : Int) op l ks a c W h hg.1 hsz)
    have HV := Lib.hid (pos_valid (L := Ln) (by omega) hg hlim)
    have HE := Lib.hid (fun (e : Ed) he => @posE_edge Ln _ hg e he)
    have hlau : (posV (.node op l ks) Ln).2.la < 18446744073709551616 := by
      have h1 := (posV_ok hg).2.2.2.2
      rw [(posV_F hg).1] at h1
      exact Nat.lt_of_lt_of_le h1 (rel.pow_le64 hlim)
    unfold PosOk at D1
    obtain ⟨E, hE⟩ : ∃ E, E = posE (.node op l ks) Ln := ⟨_, rfl⟩
    obtain ⟨k, hk⟩ : ∃ k, k = letT (.node op l ks) := ⟨_, rfl⟩
    obtain ⟨fi, hfi⟩ : ∃ fi, fi = (posV (.node op l ks) Ln).2.la := ⟨_, rfl⟩
    rw [← hE, ← hk, ← hfi] at D1 HV
    rw [← hk] at D2 hlim HE
    rw [← hfi] at hlau
    rw [← hE] at HE
    obtain ⟨s, hs⟩ : ∃ s, s = 1 + k := ⟨_, rfl⟩
    rw [← hs] at D1 HV HE hlim
    have hks : (k : Int) + 1 = (s : Int) := by omega
    have D3 := Lib.hid (fun a' c' W (h : InN W (Ln : Int) (s : Int) 1 fi a' E) => nvalidate_any (Ln : Int) (s : Int) 1 fi E a' c' W h)
    rw [errN_ok.2 HV.out] at D3
    obtain ⟨q, hq⟩ : ∃ q, q = E.length := ⟨_, rfl⟩
    have HQ := Lib.hid hq
    have hlen : E.length ≤ 9223372036854775807 := by rw [hE]; exact Nat.le_trans (tabE_len _ _ _) (by have := hlim; rw [hs] at this; have h9 : (1 + letT (.node op l ks)) * (Ln * 64) ≤ 64 * (6 * 64) := Nat.mul_le_mul (by omega) (Nat.mul_le_mul_right _ (by omega)); omega)
    have HLEN := Lib.hid hlen
    rw [← hq] at D1 D3 hlen
    rw [← hn] at D1 D2 ⊢
    have HLN := Lib.hid (show B64 (Ln : Int) ∧ B64 (s : Int) ∧ (1 : Nat) < 18446744073709551616 ∧ fi < 18446744073709551616 from ⟨by unfold B64; omega, by unfold B64; omega, by decide, hlau⟩)
    clear hE hk hfi hs hq hn hin hL he hL6 hsz hg hlau
    go_enter Try.func4, Try.ntmps4
    go_wp2_with fail
    refine (D1.out _ HX0.out).mono ?_
    rintro e w2 ⟨a', c', rfl, hE, hB⟩
    have HB1 := Lib.hid (show Below (w.heap.size + 1) _ _ from hB.mono (by simp))
    have HX2 := Lib.hid (HX0.out.keep hB)
    have HN2 := Lib.hid (show InN w2 (Ln : Int) (s : Int) 1 fi a' E from ⟨hE, HLN.out.1, HLN.out.2.1, HLN.out.2.2.1, HLN.out.2.2.2, HLEN.out⟩)
    have HS2 := Lib.hid (show w.heap.size + 1 ≤ w2.heap.size by have := hB.size; simp at this; omega)
    clear hB hE
    go_wp2_with fail
    go_loopw [21] (fun vi wr => ∃ i : Nat, i ≤ q ∧ vi = .int .i64 i ∧ Below (w2.heap.size + 1) (w2.alloc (.cells #[.int .i64 Ln, .int .i64 s, .int .u64 1, .int .u64 fi, .slice a' q c'] 28)) wr) (fun vi _ => q - (intOf vi).toNat)
    case atStart => exact ⟨0, Nat.zero_le _, rfl, Below.refl _ _⟩
    case round =>
      rename World => wA
      obtain ⟨i, hi, rfl, hb⟩ := hrel
      have HB := Lib.hid hb
      by_cases hlt : i < q
      · have hle : i < E.length := by rw [← HQ.out]; exact hlt
        have HIN := Lib.hid (((HN2.out.box (.cells #[.int .i64 Ln, .int .i64 s, .int .u64 1, .int .u64 fi, .slice a' q c'] 28)).keep (hb.mono (by simp))).1)
        obtain ⟨b, off, rfl, hbz, c1, c2, c3, g1, g2, g3⟩ := HIN.out.at hle
        have hin6 := HE.out _ (List.mem_of_getElem? (ed_some hle))
        have hi0 : (0 : Int) ≤ (i : Int) := by omega
        have hin2 : (i : Int) < (q : Int) := by omega
        have hwi : IntKind.i64.wrap (i : Int) = (i : Int) := IntWalk.i64_in _ (by omega)
        obtain ⟨e, he⟩ : ∃ e, e = E.getD i noE := ⟨_, rfl⟩
        rw [← he] at c1 c2 c3 g1 g2 g3 hin6
        obtain ⟨ef, el, et⟩ := e
        rw [inE_iff] at hin6
        dsimp only at c1 c2 c3 g1 g2 g3 hin6
        have d1 : decide (et < 1) = false := by simp; omega
        have d2 : decide ((s : Int) ≤ et) = false := by simp; omega
        have HB2 := Lib.hid (HB.out.alloc (by have := HB.out.size; simp at this; omega) (.cells #[.int .i64 ef, .int .i64 el, .int .i64 et] 36))
        obtain ⟨y0, y1, y2, y3, y4⟩ := nbox_cells HB2.out
        clear hb he hin6 hle
        go_wp2_with fail
        exact ⟨⟨i + 1, by omega, by go_num, HB2.out⟩, by simp [intOf]; omega⟩
      · obtain rfl : i = q := by omega
        obtain ⟨z0, z1, z2, z3, z4⟩ := nbox_cells hb
        have hwA : Below (w.heap.size + 1) (w.alloc (.cells #[.int .i64 op, .int .i64 l, .slice a n c] 24)) wA := (HB1.out.alloc HS2.out _).trans (hb.mono (by have := HS2.out; simp; omega))
        obtain ⟨x0, x1, x2⟩ := box_cells hwA
        have HWA := Lib.hid hwA
        have HXA := Lib.hid ((HX2.out.box _).keep (hb.mono (by simp)))
        have HNA := Lib.hid ((HN2.out.box _).keep (hb.mono (by simp)))
        have b0 := fun d os => cell_regrown z0 d os
        have b1 := fun d os => cell_regrown z1 d os
        have b2 := fun d os => cell_regrown z2 d os
        have b3 := fun d os => cell_regrown z3 d os
        have b4 := fun d os => cell_regrown z4 d os
        have a0 := fun d os => cell_regrown x0 d os
        have a1 := fun d os => cell_regrown x1 d os
        have a2 := fun d os => cell_regrown x2 d os
        have E2 := Lib.hid (fun d os => D2.out (grow (redrawn wA d) os) (HXA.out.keep (below_regrown wA d os)))
        have E3 := Lib.hid (fun d os => D3.out a' c' (grow (redrawn wA d) os) (HNA.out.keep (below_regrown wA d os)))
        have hwk : IntKind.i64.wrap ((k : Int) + 1) = (s : Int) := by rw [hks]; exact IntWalk.i64_in _ (by omega)
        clear hb hwA
        go_wp2_with fail
        refine wp_region_quiet_below (by kernel_rfl) (by kernel_rfl) ?_
        repeat (go_big_quiet_step (first | (with_reducible exact Calls.regrown_of (E2.out _ _)) | (with_reducible exact Calls.regrown_of (E3.out _ _)) | (with_reducible exact Calls.regrown_of (awake_any _))))
        refine wpQuiet_nil ?_
        intro _ hw'
        obtain ⟨⟨dq, osq⟩, hw''⟩ := hw'
        subst hw''
        have hbb := (below_box HWA.out).trans ((below_regrown wA dq osq).mono (below_box HWA.out).size)
        clear b0 b1 b2 b3 b4 a0 a1 a2
        go_wp2_with fail
        go_ret
        exact ⟨rfl, hbb⟩
  · have hbad : ∃ r : Int, r ≠ 0 ∧ ∀ W, InX W op l ks a → Calls Try.prog 5 #[.agg #[.int .i64 op, .int .i64 l, .slice a n c], .int .i64 L] W fun e w' => e = .returned (.tuple #[zeroN, .int .i64 r]) ∧ Below W.heap.size W w' := by
      by_cases he : errP (.node op l ks) L = 0
      · refine ⟨3, by decide, fun W h => ?_⟩
        rw [hn]
        exact position_lim op l ks L a c W h he (good_of he).2.1 (by
          apply Nat.lt_of_not_le; intro h2; exact hok ⟨he, h2⟩)
      · exact ⟨_, he, fun W h => by rw [hn]; exact position_err op l ks L a c W h he⟩
    obtain ⟨r, hr, D1⟩ := hbad
    have HD := Lib.hid D1
    unfold zeroN at HD
    have t0 : (r != 0) = true := by simpa using hr
    rw [← hn]
    clear hr D1 hok hn hin hL
    go_enter Try.func4, Try.ntmps4
    go_wp2_with fail
    refine (HD.out _ HX0.out).mono ?_
    rintro e w2 ⟨rfl, hB⟩
    have HB1 := Lib.hid (HB0.out.trans (hB.mono (by simp)))
    clear hB
    go_wp2_with fail
    refine (awake_any _).mono ?_
    rintro e w3 ⟨rfl, hB⟩
    have HB2 := Lib.hid ((HB1.out.alloc HB1.out.size _).trans (hB.mono (by have := HB1.out.size; simp; omega)))
    clear hB
    go_wp2_with fail
    go_ret
    exact ⟨rfl, HB2.out⟩
end Go.Proofs.Ytdoifdpmgmlpdab
