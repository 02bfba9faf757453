/- Walk of the law DfaLists. -/
import Derived.Test.YtohoiebofkmjeabDfaY
import Derived.Test.YtohoiebofkmjeabDfaV
import Derived.Test.YtohoiebofkmjeabDfaFW
import Derived.Deep.RegionHeld3
import Derived.Deep.RegionHeld
namespace Go.Proofs.Ytohoiebofkmjeab
open Go Go.RowKit
set_option linter.unusedVariables false
set_option maxRecDepth 100000 in
set_option maxHeartbeats 4000000 in
theorem wDfaLists {w : World} (d : DF) (af : Option Addr) (cf : Nat) (an : Option Addr) (cn : Nat) (hin : InD w d af an) (n : Int) (hn : (Lit.int .i64 n).wf = true) :
    Calls Try.prog 8 #[dV d af cf an cn, .int .i64 n] w fun e w' => e = .returned (.bool true) ∧ Below w.heap.size w w' := by
  obtain ⟨W0, HW⟩ : ∃ W0, BoxD w W0 d af cf an cn := ⟨_, ⟨rfl⟩⟩
  have HI := Lib.hid (HW.in hin)
  have HZ := Lib.hid (fun w' hb => @BoxD.cells w W0 d af cf an cn HW w' hb)
  have HOUT := Lib.hid (fun w' hb => @BoxD.out w W0 d af cf an cn HW w' hb)
  have HSZ := Lib.hid HW.size
  have HB0 := Lib.hid (show Below (w.heap.size + 1) W0 W0 from Below.refl _ _)
  have HWE := Lib.hid HW.eq
  have HLV := Lib.hid (fun W (h : InD W d af an) => lvalid_any d af cf an cn W h)
  have hnm := hin.nm
  have hz0 := HZ.out _ HB0.out
  rw [HW.eq] at hz0
  have HZW := Lib.hid hz0
  clear hin HW hn
  by_cases hbad : valD d = false ∨ n < 0 ∨ 200 < n
  · have HC := Lib.hid (fun W (h : InD W d af an) => words_bad d af cf an cn n W h hbad)
    have hcase : n < 0 ∨ (0 ≤ n ∧ 200 < n) ∨ (0 ≤ n ∧ n ≤ 200 ∧ valD d = false) := by
      by_cases h1 : n < 0
      · exact .inl h1
      · by_cases h2 : 200 < n
        · exact .inr (.inl ⟨by omega, h2⟩)
        · rcases hbad with h | h | h
          · exact .inr (.inr ⟨by omega, by omega, h⟩)
          · omega
          · omega
    clear hbad
    rcases hcase with h | ⟨h, h2⟩ | ⟨h, h2, hv⟩
    case' inr.inr => rw [hv] at HLV; clear hv
    case inr.inr =>
      obtain ⟨z0, z1, z2, z3⟩ := hz0
      go_enter Try.func8, Try.ntmps8
      go_wp2_with fail
      rw [← HWE.out]
      refine (HLV.out _ HI.out).mono ?_
      rintro e w2 ⟨rfl, hB⟩
      have HB1 := Lib.hid (HB0.out.trans (hB.mono (by rw [HSZ.out]; exact Nat.le_refl _)))
      have HI1 := Lib.hid (HI.out.keep hB)
      clear z0 z1 z2 z3
      obtain ⟨z0, z1, z2, z3⟩ := HZ.out _ HB1.out
      clear hB
      go_wp2_with fail
      refine (HC.out _ HI1.out).mono ?_
      rintro e w3 ⟨r, c, rfl, hr, hB⟩
      have HB2 := Lib.hid (HB1.out.trans (hB.mono (by have := HB1.out.size; have := HSZ.out; omega)))
      clear hB hr z0 z1 z2 z3
      go_wp2_with fail
      refine (awake_any _).mono ?_
      rintro e w4 ⟨rfl, hB⟩
      have HB3 := Lib.hid (HOUT.out _ (HB2.out.trans (hB.mono (by have := HB2.out.size; have := HSZ.out; omega))))
      clear hB
      go_wp2_with fail
      go_ret
      exact ⟨rfl, HB3.out⟩
    all_goals
      obtain ⟨z0, z1, z2, z3⟩ := hz0
      go_enter Try.func8, Try.ntmps8
      go_wp2_with fail
      rw [← HWE.out]
      refine (HC.out _ HI.out).mono ?_
      rintro e w3 ⟨r, c, rfl, hr, hB⟩
      have HB2 := Lib.hid (HB0.out.trans (hB.mono (by rw [HSZ.out]; exact Nat.le_refl _)))
      clear hB hr z0 z1 z2 z3
      go_wp2_with fail
      refine (awake_any _).mono ?_
      rintro e w4 ⟨rfl, hB⟩
      have HB3 := Lib.hid (HOUT.out _ (HB2.out.trans (hB.mono (by have := HB2.out.size; have := HSZ.out; omega))))
      clear hB
      go_wp2_with fail
      go_ret
      exact ⟨rfl, HB3.out⟩
  · have hv : valD d = true := by rw [← Bool.not_eq_false]; exact fun e => hbad (.inl e)
    obtain ⟨k, rfl⟩ : ∃ k : Nat, n = (k : Int) := ⟨n.toNat, by omega⟩
    have hk : k ≤ 200 := by omega
    have hok := valD_iff.1 hv
    have CW := Lib.hid (fun W (h : InD W d af an) => words_ok d af cf an cn k W h hok hk)
    have CR := Lib.hid (fun W (h : InD W d af an) => rwords_ok d af cf an cn k W h hok hk)
    have CS := Lib.hid (fun a c a' c' W h1 h2 => sameS_any a c (d.words k) a' c' (d.words k) W h1 h2 (by have := d.wds_len k 2049; unfold DF.words maxLen; omega))
    rw [eqS_self] at CS
    rw [hv] at HLV
    unfold GivesS at CW CR
    obtain ⟨l, hl⟩ : ∃ l, l = d.words k := ⟨_, rfl⟩
    rw [← hl] at CW CR CS
    obtain ⟨m, hm⟩ : ∃ m, m = l.length := ⟨_, rfl⟩
    rw [← hm] at CW CR CS
    have t0 : ¬ (k : Int) < 0 := by omega
    have t1 : ¬ (200 : Int) < (k : Int) := by omega
    obtain ⟨z0, z1, z2, z3⟩ := hz0
    clear hbad hv hok hl hm
    by_cases hbig : 8 < d.n ∨ 30 < k
    case neg =>
      have t2 : ¬ (8 : Int) < (d.n : Int) := by omega
      have t3 : ¬ (30 : Int) < (k : Int) := by omega
      clear hbig
      go_enter Try.func8, Try.ntmps8
      go_wp2_with fail
      rw [← HWE.out]
      refine (HLV.out _ HI.out).mono ?_
      rintro e w2 ⟨rfl, hB⟩
      have HB1 := Lib.hid (HB0.out.trans (hB.mono (by rw [HSZ.out]; exact Nat.le_refl _)))
      have HI1 := Lib.hid (HI.out.keep hB)
      clear z0 z1 z2 z3
      obtain ⟨z0, z1, z2, z3⟩ := HZ.out _ HB1.out
      clear hB
      have HS1 := Lib.hid (show w.heap.size + 1 ≤ w2.heap.size by have := HB1.out.size; have := HSZ.out; omega)
      go_wp2_with fail
      go_region_held (fun w' => w'.cell? ⟨w.heap.size, 0, none⟩ = some (.int .i64 d.L) ∧ w'.cell? ⟨w.heap.size, 1, none⟩ = some (.int .i64 d.S) ∧ w'.cell? ⟨w.heap.size, 2, none⟩ = some (.slice af d.n cf) ∧ w'.cell? ⟨w.heap.size, 3, none⟩ = some (.slice an d.m cn))
        (go_keep)
        (first
          | (go_at_call 25
             refine (CW.out _ ?_).mono ?_
             · exact HI1.out.keep (Below.refl _ _).drew
             rintro e v1 ⟨r1, c1, rfl, hr1, hB⟩
             have hV1 := (Below.refl w2.heap.size w2).drew.trans hB
             obtain ⟨x0, x1, x2, x3⟩ := HZ.out _ (HB1.out.trans (hV1.mono HS1.out))
             clear hB)
          | (go_at_call 27
             refine (CR.out _ ?_).mono ?_
             · exact HI1.out.keep hV1
             rintro e v2 ⟨r2, c2, rfl, hr2, hB⟩
             have hV2 := hV1.trans (hB.mono hV1.size)
             have hr1' := hr1.keep hB
             obtain ⟨x0, x1, x2, x3⟩ := HZ.out _ (HB1.out.trans (hV2.mono HS1.out))
             clear hB)
          | (go_at_call 26
             refine (CS.out r1 c1 r2 c2 _ ?_ ?_).mono ?_
             · exact hr1'
             · exact hr2
             rintro e v3 ⟨rfl, hB⟩
             have hV3 := hV2.trans (hB.mono hV2.size)
             obtain ⟨x0, x1, x2, x3⟩ := HZ.out _ (HB1.out.trans (hV3.mono HS1.out))
             clear hB)
          | (go_at_call 10
             refine (awake_any _).mono ?_
             rintro e v4 ⟨rfl, hB⟩
             have hV4 := hV3.trans (hB.mono hV3.size)
             obtain ⟨x0, x1, x2, x3⟩ := HZ.out _ (HB1.out.trans (hV4.mono HS1.out))
             clear hB))
      all_goals
        have HB9 := Lib.hid (HOUT.out _ (HB1.out.trans (hV4.mono HS1.out)))
        go_wp2_with fail
        go_ret
        exact ⟨by simp, HB9.out⟩
    case pos =>
      have t2 : (8 : Int) < (d.n : Int) ∨ (¬ (8 : Int) < (d.n : Int) ∧ (30 : Int) < (k : Int)) := by omega
      clear hbig
      rcases t2 with t2 | ⟨t2, t3⟩
      all_goals
        go_enter Try.func8, Try.ntmps8
        go_wp2_with fail
        rw [← HWE.out]
        refine (HLV.out _ HI.out).mono ?_
        rintro e w3 ⟨rfl, hB⟩
        have HB2 := Lib.hid (HB0.out.trans (hB.mono (by rw [HSZ.out]; exact Nat.le_refl _)))
        clear hB z0 z1 z2 z3
        obtain ⟨z0, z1, z2, z3⟩ := HZ.out _ HB2.out
        go_wp2_with fail
        refine (awake_any _).mono ?_
        rintro e w4 ⟨rfl, hB⟩
        have HB3 := Lib.hid (HOUT.out _ (HB2.out.trans (hB.mono (by have := HB2.out.size; have := HSZ.out; omega))))
        clear hB z0 z1 z2 z3
        go_wp2_with fail
        go_ret
        exact ⟨rfl, HB3.out⟩
end Go.Proofs.Ytohoiebofkmjeab
