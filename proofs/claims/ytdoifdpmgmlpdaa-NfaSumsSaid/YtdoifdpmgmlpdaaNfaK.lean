/- Contracts: plain, letterNodes, validate. -/
import Derived.Test.YtdoifdpmgmlpdaaExprD
import Derived.Test.YtdoifdpmgmlpdaaNfaP
namespace Go.Proofs.Ytdoifdpmgmlpdaa
open Go Go.RowKit
set_option linter.unusedVariables false
theorem plL_all {ks : List T} (h : ∀ k, k ∈ ks → plT k = true) : plL ks = true := plL_iff.2 h
theorem plT_bad {op l : Int} {ks : List T} {k : T} (h : k ∈ ks) (h1 : plT k = false) : plT (.node op l ks) = false := by
  rw [← Bool.not_eq_true, plT_node]
  intro h2
  rw [h2.2.2 k h] at h1; cases h1
set_option maxRecDepth 100000 in
set_option maxHeartbeats 2000000 in
theorem plain_any (op l : Int) (ks : List T) : ∀ (a : Option Addr) (c : Nat) (w : World), InX w op l ks a →
    Calls Try.prog 70 #[.agg #[.int .i64 op, .int .i64 l, .slice a ks.length c]] w fun e w' => e = .returned (.bool (plT (.node op l ks))) ∧ Below w.heap.size w w' := by
  refine T.ind2 (P := fun op l ks => ∀ (a : Option Addr) (c : Nat) (w : World), InX w op l ks a →
    Calls Try.prog 70 #[.agg #[.int .i64 op, .int .i64 l, .slice a ks.length c]] w fun e w' => e = .returned (.bool (plT (.node op l ks))) ∧ Below w.heap.size w w') ?_ op l ks
  clear op l ks
  intro op l ks ih a c w hin
  have hlen := hin.2.2.2
  have HI := Lib.hid hin
  have IH := Lib.hid ih
  obtain ⟨n, hn⟩ : ∃ n, n = ks.length := ⟨_, rfl⟩
  have HN := Lib.hid hn
  rw [← hn] at hlen ⊢
  clear hin ih hn
  go_enter Try.func70, Try.ntmps70
  go_wp2_with fail
  go_loopw [7] (fun vi wr => ∃ (i : Nat), i ≤ n ∧ vi = .int .i64 i ∧ (∀ k, k ∈ ks.take i → plT k = true) ∧ Below (w.heap.size + 1) (w.alloc (.cells #[.int .i64 op, .int .i64 l, .slice a n c] 49)) wr) (fun vi _ => n - (intOf vi).toNat)
  case atStart => exact ⟨0, Nat.zero_le _, rfl, by simp, Below.refl _ _⟩
  case round =>
    rename World => wA
    obtain ⟨i, hi, rfl, hall, hb⟩ := hrel
    have HA := Lib.hid hall
    have HB := Lib.hid hb
    obtain ⟨x0, x1, x2⟩ := box_cells hb
    clear hall hb
    by_cases hlt : i < n
    · have hlk : i < ks.length := by rw [← HN.out]; exact hlt
      obtain ⟨ko, kl, kk, hk, hk2⟩ := kid_some hlk
      have HKI := Lib.hid ((HI.out.box _).keep (HB.out.mono (by simp)))
      obtain ⟨b, off, a', c', rfl, hbz, c1, c2, c3, hin'⟩ := HKI.out.kid hk
      have hq := IH.out i ko kl kk hk
      have HIN := Lib.hid hin'
      have hi0 : (0 : Int) ≤ (i : Int) := by omega
      have hin2 : (i : Int) < (n : Int) := by omega
      have hwi : IntKind.i64.wrap (i : Int) = (i : Int) := IntWalk.i64_in _ (by omega)
      have hmem := List.getElem_mem hlk
      obtain ⟨kn, hkn⟩ : ∃ kn, kn = kk.length := ⟨_, rfl⟩
      have HQ := Lib.hid (fun W (h : InX W ko kl kk a') => hq a' c' W h)
      rw [← hkn] at c3 HQ
      cases hs : plT (.node ko kl kk)
      · have HF := Lib.hid (plT_bad (op := op) (l := l) hmem (by rw [hk2]; exact hs))
        have HS := Lib.hid hs
        clear hin' hkn hq hs hk hk2 hmem hlk
        go_wp2_with fail
        refine (HQ.out _ HIN.out).mono ?_
        rintro e w3 ⟨rfl, hB⟩
        rw [HS.out]
        have HB2 := Lib.hid (HB.out.trans (hB.mono (by have := HB.out.size; simp at this; omega)))
        clear hB
        go_wp2_with fail
        go_ret
        exact ⟨by rw [HF.out]; rfl, below_box HB2.out⟩
      · have HNX := Lib.hid (take_mem_succ hlk HA.out (by rw [hk2]; exact hs))
        have HS := Lib.hid hs
        clear hin' hkn hq hs hk hk2 hmem hlk
        go_wp2_with fail
        refine (HQ.out _ HIN.out).mono ?_
        rintro e w3 ⟨rfl, hB⟩
        rw [HS.out]
        have HB2 := Lib.hid (HB.out.trans (hB.mono (by have := HB.out.size; simp at this; omega)))
        clear hB
        go_wp2_with fail
        exact ⟨⟨i + 1, by omega, by go_num, HNX.out, HB2.out⟩, by simp [intOf]; omega⟩
    · obtain rfl : i = n := by omega
      have hall : ∀ k, k ∈ ks → plT k = true := by have := HA.out; rw [HN.out, List.take_length] at this; exact this
      by_cases h6 : op = 6
      · have HF := Lib.hid (show plT (.node op l ks) = false by rw [← Bool.not_eq_true, plT_node]; exact fun h => h.1 h6)
        subst h6
        clear hall
        go_wp2_with fail
        go_ret
        exact ⟨by rw [HF.out]; rfl, below_box HB.out⟩
      · by_cases h8 : op = 8
        · have HF := Lib.hid (show plT (.node op l ks) = false by rw [← Bool.not_eq_true, plT_node]; exact fun h => h.2.1 h8)
          subst h8
          clear hall
          go_wp2_with fail
          go_ret
          exact ⟨by rw [HF.out]; rfl, below_box HB.out⟩
        · have HF := Lib.hid (plT_node.2 ⟨h6, h8, hall⟩ : plT (.node op l ks) = true)
          have t6 : (op != 6) = true := by simpa using h6
          have t8 : (op != 8) = true := by simpa using h8
          clear hall h6 h8
          go_wp2_with fail
          go_ret
          exact ⟨by rw [HF.out]; rfl, below_box HB.out⟩
set_option maxRecDepth 100000 in
set_option maxHeartbeats 2000000 in
theorem letterNodes_any (op l : Int) (ks : List T) : ∀ (a : Option Addr) (c : Nat) (w : World), InX w op l ks a → sizeT (.node op l ks) ≤ 400 →
    Calls Try.prog 52 #[.agg #[.int .i64 op, .int .i64 l, .slice a ks.length c]] w fun e w' => e = .returned (.int .i64 (letT (.node op l ks) : Nat)) ∧ Below w.heap.size w w' := by
  refine T.ind2 (P := fun op l ks => ∀ (a : Option Addr) (c : Nat) (w : World), InX w op l ks a → sizeT (.node op l ks) ≤ 400 →
    Calls Try.prog 52 #[.agg #[.int .i64 op, .int .i64 l, .slice a ks.length c]] w fun e w' => e = .returned (.int .i64 (letT (.node op l ks) : Nat)) ∧ Below w.heap.size w w') ?_ op l ks
  clear op l ks
  intro op l ks ih a c w hin hsz
  have hlen := hin.2.2.2
  have HI := Lib.hid hin
  have IH := Lib.hid ih
  have hsl : sizeL ks ≤ 400 := by simp only [sizeT] at hsz; omega
  have HSL := Lib.hid hsl
  obtain ⟨n, hn⟩ : ∃ n, n = ks.length := ⟨_, rfl⟩
  have HN := Lib.hid hn
  rw [← hn] at hlen ⊢
  have HB0 := Lib.hid ((Below.refl w.heap.size w).alloc (Nat.le_refl _) (.cells #[.int .i64 op, .int .i64 l, .slice a n c] 49))
  clear hin ih hn hsz hsl
  by_cases h3 : op = 3
  · have HF := Lib.hid (show letT (.node op l ks) = 1 by rw [letT, if_pos h3])
    rw [HF.out]
    subst h3
    go_enter Try.func52, Try.ntmps52
    go_wp2_with fail
    go_ret
    exact ⟨rfl, HB0.out⟩
  have HF := Lib.hid (show letT (.node op l ks) = letL ks by rw [letT, if_neg h3])
  rw [HF.out]
  have t3 : (op == 3) = false := by simpa using h3
  clear h3
  go_enter Try.func52, Try.ntmps52
  go_wp2_with fail
  go_loopw [3, 11] (fun vc vi wr => ∃ (i m : Nat), i ≤ n ∧ vi = .int .i64 i ∧ vc = .int .i64 m ∧ m = letL (ks.take i) ∧ Below (w.heap.size + 1) (w.alloc (.cells #[.int .i64 op, .int .i64 l, .slice a n c] 49)) wr) (fun _ vi _ => n - (intOf vi).toNat)
  case atStart => exact ⟨0, 0, Nat.zero_le _, rfl, rfl, by simp [letL], Below.refl _ _⟩
  case round =>
    rename World => wA
    obtain ⟨i, m, hi, rfl, rfl, hm, hb⟩ := hrel
    have HM := Lib.hid hm
    have HB := Lib.hid hb
    obtain ⟨x0, x1, x2⟩ := box_cells hb
    clear hm hb
    by_cases hlt : i < n
    · have hlk : i < ks.length := by rw [← HN.out]; exact hlt
      obtain ⟨ko, kl, kk, hk, hk2⟩ := kid_some hlk
      have HKI := Lib.hid ((HI.out.box _).keep (HB.out.mono (by simp)))
      obtain ⟨b, off, a', c', rfl, hbz, c1, c2, c3, hin'⟩ := HKI.out.kid hk
      have hks : sizeT (.node ko kl kk) ≤ 400 := Nat.le_trans (sizeL_mem (List.mem_of_getElem? hk)) HSL.out
      have hq := IH.out i ko kl kk hk
      have HIN := Lib.hid hin'
      have hi0 : (0 : Int) ≤ (i : Int) := by omega
      have hin2 : (i : Int) < (n : Int) := by omega
      have hwi : IntKind.i64.wrap (i : Int) = (i : Int) := IntWalk.i64_in _ (by omega)
      obtain ⟨kn, hkn⟩ : ∃ kn, kn = kk.length := ⟨_, rfl⟩
      have HQ := Lib.hid (fun W (h : InX W ko kl kk a') => hq a' c' W h hks)
      have htk := letL_take hlk
      rw [hk2] at htk
      have hm1 : m ≤ 400 := by
        have h1 := sizeL_take_le ks i
        have h2 : letL (ks.take i) ≤ sizeL (ks.take i) := by
          have := letT_size (.node 4 0 (ks.take i)); simp only [letT, sizeT] at this
          have h9 : ∀ l : List T, letL l ≤ sizeL l := by
            intro l
            induction l with
            | nil => simp [letL, sizeL]
            | cons x l ih => have := letT_size x; simp only [letL, sizeL]; omega
          exact h9 _
        have h3 := HSL.out; have h4 := HM.out; omega
      have hm2 : letT (.node ko kl kk) ≤ 400 := Nat.le_trans (letT_size _) hks
      obtain ⟨m2, hm3⟩ : ∃ m2, m2 = letT (.node ko kl kk) := ⟨_, rfl⟩
      rw [← hm3] at HQ htk hm2
      have HNX := Lib.hid (show m + m2 = letL (ks.take (i + 1)) by have := HM.out; omega)
      rw [← hkn] at c3 HQ
      clear hin' hkn hq hk hk2 hlk hks htk hm3
      go_wp2_with fail
      refine (HQ.out _ HIN.out).mono ?_
      rintro e w3 ⟨rfl, hB⟩
      have HB2 := Lib.hid (HB.out.trans (hB.mono (by have := HB.out.size; simp at this; omega)))
      clear hB
      go_wp2_with fail
      exact ⟨⟨i + 1, m + m2, by omega, by go_num, by go_num, HNX.out, HB2.out⟩, by simp [intOf]; omega⟩
    · obtain rfl : i = n := by omega
      have hE : m = letL ks := by have := HM.out; rw [HN.out, List.take_length] at this; exact this
      have HE := Lib.hid hE
      clear hE
      go_wp2_with fail
      go_ret
      exact ⟨by rw [← HE.out]; rfl, below_box HB.out⟩
/-- what validate returns -/
def errP (t : T) (L : Int) : Int := if errT t L = 0 then (if plT t = false then 4 else 0) else errT t L
theorem errT_ne {t : T} {L : Int} (h : errT t L ≠ 0) : errP t L = errT t L := by rw [errP, if_neg h]
theorem errP_ok {t : T} {L : Int} : errP t L = 0 ↔ errT t L = 0 ∧ plT t = true := by
  unfold errP
  by_cases h : errT t L = 0
  · rw [if_pos h]; cases plT t <;> simp [h]
  · rw [if_neg h]; simp [h]
set_option maxHeartbeats 1000000 in
theorem validateP_any (op l : Int) (ks : List T) (L : Int) (a : Option Addr) (c : Nat) (w : World) (hin : InX w op l ks a) :
    Calls Try.prog 51 #[.agg #[.int .i64 op, .int .i64 l, .slice a ks.length c], .int .i64 L] w fun e w' => e = .returned (.int .i64 (errP (.node op l ks) L)) ∧ Below w.heap.size w w' := by
  have HI := Lib.hid hin
  have HQ1 := Lib.hid (fun W (h : InX W op l ks a) => validate_any op l ks L a c W h)
  have HQ2 := Lib.hid (fun W (h : InX W op l ks a) => plain_any op l ks a c W h)
  have HE := Lib.hid (show errP (.node op l ks) L = if errT (.node op l ks) L = 0 then (if plT (.node op l ks) = false then 4 else 0) else errT (.node op l ks) L from rfl)
  clear hin
  obtain ⟨n, hn⟩ : ∃ n, n = ks.length := ⟨_, rfl⟩
  obtain ⟨r, hr⟩ : ∃ r, r = errT (.node op l ks) L := ⟨_, rfl⟩
  obtain ⟨p, hp⟩ : ∃ p, p = plT (.node op l ks) := ⟨_, rfl⟩
  rw [← hr] at HE HQ1
  rw [← hp] at HE HQ2
  rw [← hn] at HQ1 HQ2 ⊢
  clear hn hr hp
  have HB0 := Lib.hid ((Below.refl w.heap.size w).alloc (Nat.le_refl _) (.cells #[.int .i64 op, .int .i64 l, .slice a n c] 49))
  have HI0 := Lib.hid (HI.out.box (.cells #[.int .i64 op, .int .i64 l, .slice a n c] 49))
  by_cases h0 : r = 0
  · subst h0
    go_enter Try.func51, Try.ntmps51
    go_wp2_with fail
    refine (HQ1.out _ HI0.out).mono ?_
    rintro e w2 ⟨rfl, hB⟩
    have HB1 := Lib.hid (show Below (w.heap.size + 1) _ _ from hB.mono (by simp))
    obtain ⟨x0, x1, x2⟩ := box_cells HB1.out
    have HI2 := Lib.hid (HI0.out.keep hB)
    clear hB
    go_wp2_with fail
    refine (HQ2.out _ HI2.out).mono ?_
    rintro e w3 ⟨rfl, hB⟩
    have HB2 := Lib.hid (below_box (HB1.out.trans (hB.mono (by have := HB1.out.size; simp at this; omega))))
    clear hB
    cases p
    · go_wp2_with fail
      go_ret
      exact ⟨by rw [HE.out]; rfl, HB2.out⟩
    · go_wp2_with fail
      go_ret
      exact ⟨by rw [HE.out]; rfl, HB2.out⟩
  · have t0 : (r == 0) = false := by simpa using h0
    have HE2 := Lib.hid (show errP (.node op l ks) L = r by rw [HE.out, if_neg h0])
    clear h0
    go_enter Try.func51, Try.ntmps51
    go_wp2_with fail
    refine (HQ1.out _ HI0.out).mono ?_
    rintro e w2 ⟨rfl, hB⟩
    have HB2 := Lib.hid (HB0.out.trans (hB.mono (by simp)))
    clear hB
    go_wp2_with fail
    go_ret
    exact ⟨by rw [HE2.out]; rfl, HB2.out⟩
end Go.Proofs.Ytdoifdpmgmlpdaa
