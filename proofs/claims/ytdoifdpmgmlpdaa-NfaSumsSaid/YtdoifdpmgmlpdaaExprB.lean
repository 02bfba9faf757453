/- Contracts: spend. -/
import Derived.Test.YtdoifdpmgmlpdaaExprA
namespace Go.Proofs.Ytdoifdpmgmlpdaa
open Go Go.RowKit
set_option linter.unusedVariables false
set_option maxRecDepth 100000 in
set_option maxHeartbeats 1000000 in
theorem spend_any (op l : Int) (ks : List T) : ∀ (n d : Nat) (a : Option Addr) (c : Nat) (w : World), InK w a ks → n ≤ 400 → d ≤ 40 → B64 op → B64 l → ks.length ≤ 9223372036854775807 →
    Calls Try.prog 95 #[.agg #[.int .i64 op, .int .i64 l, .slice a ks.length c], .int .i64 n, .int .i64 d] w fun e w' => e = .returned (.int .i64 (spentL ks n d)) ∧ Below w.heap.size w w' := by
  refine T.ind2 (P := fun op l ks => ∀ (n d : Nat) (a : Option Addr) (c : Nat) (w : World), InK w a ks → n ≤ 400 → d ≤ 40 → B64 op → B64 l → ks.length ≤ 9223372036854775807 →
    Calls Try.prog 95 #[.agg #[.int .i64 op, .int .i64 l, .slice a ks.length c], .int .i64 n, .int .i64 d] w fun e w' => e = .returned (.int .i64 (spentL ks n d)) ∧ Below w.heap.size w w') ?_ op l ks
  clear op l ks
  intro op l ks ih n d a c w hin hn hd hop hl hlen
  have HI := Lib.hid hin
  have IH := Lib.hid ih
  clear hin ih
  by_cases h0 : n = 0
  · have HS := Lib.hid (spent_no (ks := ks) (n := n) (d := d) (.inl h0))
    have t1 : ((n : Int) == 0) = true := by rw [h0]; rfl
    clear h0
    go_enter Try.func95, Try.ntmps95
    go_wp2_with fail
    go_ret
    exact ⟨by rw [HS.out]; rfl, (Below.refl _ _).alloc (Nat.le_refl _) _⟩
  by_cases h1 : d = 0
  · have HS := Lib.hid (spent_no (ks := ks) (n := n) (d := d) (.inr h1))
    have t1 : ((n : Int) == 0) = false := by rw [beq_eq_false_iff_ne]; omega
    have t2 : ((d : Int) == 0) = true := by rw [h1]; rfl
    clear h0 h1
    go_enter Try.func95, Try.ntmps95
    go_wp2_with fail
    go_ret
    exact ⟨by rw [HS.out]; rfl, (Below.refl _ _).alloc (Nat.le_refl _) _⟩
  obtain ⟨n, rfl⟩ : ∃ m, n = m + 1 := ⟨n - 1, by omega⟩
  obtain ⟨d, rfl⟩ : ∃ m, d = m + 1 := ⟨d - 1, by omega⟩
  have t1 : (((n + 1 : Nat) : Int) == 0) = false := by rw [beq_eq_false_iff_ne]; omega
  have t2 : (((d + 1 : Nat) : Int) == 0) = false := by rw [beq_eq_false_iff_ne]; omega
  have t3 : IntKind.i64.wrap (((n + 1 : Nat) : Int) - 1) = (n : Int) := by rw [IntWalk.i64_in _ (by omega)]; omega
  have t4 : IntKind.i64.wrap (((d + 1 : Nat) : Int) - 1) = (d : Int) := by rw [IntWalk.i64_in _ (by omega)]; omega
  obtain ⟨n1, hn1⟩ : ∃ x : Int, x = ((n + 1 : Nat) : Int) := ⟨_, rfl⟩
  obtain ⟨d1, hd1⟩ : ∃ x : Int, x = ((d + 1 : Nat) : Int) := ⟨_, rfl⟩
  have HN1 := Lib.hid hn1
  rw [← hn1] at t1 t3 ⊢
  rw [← hd1] at t2 t4 ⊢
  have t3' : n1 - 1 = (n : Int) := by omega
  have t4' : d1 - 1 = (d : Int) := by omega
  clear hn1 hd1 h0 h1
  go_enter Try.func95, Try.ntmps95
  go_wp2_with fail
  go_loopw [1, 19] (fun vm vi wr => ∃ (i m : Nat), i ≤ ks.length ∧ vi = .int .i64 i ∧ vm = .int .i64 m ∧ m + sizeL (ks.take i) = n ∧ depthL (ks.take i) ≤ d ∧ Below (w.heap.size + 1) (w.alloc (.cells #[.int .i64 op, .int .i64 l, .slice a ks.length c] 49)) wr) (fun _ vi _ => ks.length - (intOf vi).toNat)
  case atStart => exact ⟨0, n, Nat.zero_le _, rfl, rfl, by simp [sizeL], by simp [depthL], Below.refl _ _⟩
  case round =>
    obtain ⟨i, m, hi, rfl, rfl, hsz, hdp, hb⟩ := hrel
    have HZ := Lib.hid hsz
    have hmn : m ≤ n := by omega
    have HB := Lib.hid hb
    clear hsz hb
    by_cases hlt : i < ks.length
    · obtain ⟨ko, kl, kk, hk, hk2⟩ := kid_some hlt
      obtain ⟨b, off, a', c', rfl, hbz, c1, c2, c3, z1, z2, z3, hin'⟩ := ((in_box HI.out).keep (HB.out.mono (by simp))).kid hk
      have hq := IH.out i ko kl kk hk
      have HIN := Lib.hid hin'
      have HBX := Lib.hid (box_cells HB.out)
      have hx2 := HBX.out.2.2
      have hi0 : (0 : Int) ≤ (i : Int) := by omega
      have hin2 : (i : Int) < (ks.length : Int) := by omega
      have hwi : IntKind.i64.wrap (i : Int) = (i : Int) := IntWalk.i64_in _ (by omega)
      obtain ⟨kn, hkn⟩ : ∃ kn, kn = kk.length := ⟨_, rfl⟩
      have hsn := sizeL_take_succ hlt
      have hdn := depthL_take_succ hlt
      have hsp := spentL_node ko kl kk m d
      rw [← hk2] at hsp
      by_cases hok : sizeT ks[i] ≤ m ∧ depthT ks[i] ≤ d
      · rw [if_pos hok] at hsp
        obtain ⟨m2, hm2⟩ : ∃ m2 : Nat, m2 + sizeT ks[i] = m := ⟨m - sizeT ks[i], by omega⟩
        rw [show (m : Int) - (sizeT ks[i] : Nat) = (m2 : Int) by omega] at hsp
        have HQ := Lib.hid (fun W (h : InK W a' kk) => by have := hq m d a' c' W h (by omega) (by omega) z1 z2 z3; rw [hsp] at this; exact this)
        have HN := Lib.hid (show m2 + sizeL (ks.take (i + 1)) = n ∧ depthL (ks.take (i + 1)) ≤ d by have := HZ.out; omega)
        have t5 : decide ((m2 : Int) < 0) = false := by simp
        rw [← hkn] at c3 HQ
        clear hin' hkn hq hsn hdn hsp hok hm2
        go_wp2_with fail
        refine (HQ.out _ HIN.out).mono ?_
        rintro e w2 ⟨rfl, hB⟩
        have HB2 := Lib.hid (HB.out.trans (hB.mono (by have := HB.out.size; simp at this; omega)))
        clear hB
        go_wp2_with fail
        exact ⟨⟨i + 1, m2, by omega, by go_num, rfl, HN.out.1, HN.out.2, HB2.out⟩, by simp [intOf]; omega⟩
      · rw [if_neg hok] at hsp
        have HQ := Lib.hid (fun W (h : InK W a' kk) => by have := hq m d a' c' W h (by omega) (by omega) z1 z2 z3; rw [hsp] at this; exact this)
        have HF := Lib.hid (spent_bad (n := n) (d := d) hlt (by have := HZ.out; omega))
        rw [← hkn] at c3 HQ
        clear hin' hkn hq hsn hdn hsp hok
        go_wp2_with fail
        refine (HQ.out _ HIN.out).mono ?_
        rintro e w2 ⟨rfl, hB⟩
        have HB2 := Lib.hid (HB.out.trans (hB.mono (by have := HB.out.size; simp at this; omega)))
        clear hB
        go_wp2_with fail
        go_ret
        exact ⟨by rw [HF.out]; rfl, below_box HB2.out⟩
    · obtain rfl : i = ks.length := by omega
      have HF := Lib.hid (show spentL ks (n + 1) (d + 1) = (m : Int) by
        rw [spent_end (n := n) (d := d) (by have := HZ.out; rw [List.take_length] at this; omega) (by rw [List.take_length] at hdp; exact hdp)]
        have := HZ.out; rw [List.take_length] at this; omega)
      go_wp2_with fail
      go_ret
      exact ⟨by rw [HF.out]; rfl, below_box HB.out⟩
end Go.Proofs.Ytdoifdpmgmlpdaa
