/- Walk of the law DfaCounts. -/
import Derived.Test.YtohoiebofkmjeabDfaY
import Derived.Test.YtohoiebofkmjeabDfaV
import Derived.Test.YtohoiebofkmjeabDfaCR
namespace Go.Proofs.Ytohoiebofkmjeab
open Go Go.RowKit
set_option linter.unusedVariables false
set_option maxRecDepth 100000 in
set_option maxHeartbeats 4000000 in
theorem wDfaCounts {w : World} (d : DF) (af : Option Addr) (cf : Nat) (an : Option Addr) (cn : Nat) (hin : InD w d af an) (n : Int) (hn : (Lit.int .i64 n).wf = true) :
    Calls Try.prog 6 #[dV d af cf an cn, .int .i64 n] w fun e w' => e = .returned (.bool true) ∧ Below w.heap.size w w' := by
  obtain ⟨W0, HW⟩ : ∃ W0, BoxD w W0 d af cf an cn := ⟨_, ⟨rfl⟩⟩
  have HI := Lib.hid (HW.in hin)
  have HZ := Lib.hid (fun w' hb => @BoxD.cells w W0 d af cf an cn HW w' hb)
  have HOUT := Lib.hid (fun w' hb => @BoxD.out w W0 d af cf an cn HW w' hb)
  have HSZ := Lib.hid HW.size
  have HB0 := Lib.hid (show Below (w.heap.size + 1) W0 W0 from Below.refl _ _)
  have HWE := Lib.hid HW.eq
  have HLV := Lib.hid (fun W (h : InD W d af an) => lvalid_any d af cf an cn W h)
  have hnm := hin.nm
  clear hin HW hn
  by_cases hbad : valD d = false ∨ n < 0 ∨ 10000 < n
  · have HC := Lib.hid (fun W (h : InD W d af an) => count_bad d af cf an cn n W h hbad)
    have hcase : valD d = false ∨ (valD d = true ∧ (n < 0 ∨ (0 ≤ n ∧ 10000 < n))) := by
      cases hv : valD d
      · exact .inl rfl
      · rw [hv] at hbad
        right
        refine ⟨rfl, ?_⟩
        rcases hbad with h | h | h
        · cases h
        · exact .inl h
        · exact .inr ⟨by omega, h⟩
    clear hbad
    rcases hcase with hv | ⟨hv, h | ⟨h, h2⟩⟩
    all_goals
      rw [hv] at HLV
      clear hv
      go_enter Try.func6, Try.ntmps6
      go_wp2_with fail
      rw [← HWE.out]
      refine (HC.out _ HI.out).mono ?_
      rintro e w2 ⟨rfl, hB⟩
      have HB1 := Lib.hid (HB0.out.trans (hB.mono (by rw [HSZ.out]; exact Nat.le_refl _)))
      have HI1 := Lib.hid (HI.out.keep hB)
      obtain ⟨z0, z1, z2, z3⟩ := HZ.out _ HB1.out
      clear hB
      go_wp2_with fail
      refine (HLV.out _ HI1.out).mono ?_
      rintro e w3 ⟨rfl, hB⟩
      have HB2 := Lib.hid (HB1.out.trans (hB.mono (by have := HB1.out.size; have := HSZ.out; omega)))
      clear hB z0 z1 z2 z3
      go_wp2_with fail
      refine (awake_any _).mono ?_
      rintro e w4 ⟨rfl, hB⟩
      have HB3 := Lib.hid (HOUT.out _ (HB2.out.trans (hB.mono (by have := HB2.out.size; have := HSZ.out; omega))))
      clear hB
      go_wp2_with fail
      go_ret
      exact ⟨rfl, HB3.out⟩
  · have hv : valD d = true := by rw [← Bool.not_eq_false]; exact fun e => hbad (.inl e)
    obtain ⟨k, rfl⟩ : ∃ k : Nat, n = (k : Int) := ⟨n.toNat, by omega⟩
    have hk : k ≤ 10000 := by omega
    have hok := valD_iff.1 hv
    have HC := Lib.hid (fun W (h : InD W d af an) => count_ok d af cf an cn k W h hok hk)
    have HR := Lib.hid (fun W (h : InD W d af an) => rcount_ok d af cf an cn k W h hok hk)
    rw [hv] at HLV
    obtain ⟨v, hvv⟩ : ∃ v, v = d.cn k d.S.toNat % pr61 := ⟨_, rfl⟩
    rw [← hvv] at HC HR
    have t0 : ¬ (k : Int) < 0 := by omega
    have t1 : ¬ (10000 : Int) < (k : Int) := by omega
    clear hbad hv hok hvv
    by_cases hbig : 20 < d.n ∨ 500 < k
    case neg =>
      have t2 : ¬ (20 : Int) < (d.n : Int) := by omega
      have t3 : ¬ (500 : Int) < (k : Int) := by omega
      clear hbig
      go_enter Try.func6, Try.ntmps6
      go_wp2_with fail
      rw [← HWE.out]
      refine (HC.out _ HI.out).mono ?_
      rintro e w2 ⟨rfl, hB⟩
      have HB1 := Lib.hid (HB0.out.trans (hB.mono (by rw [HSZ.out]; exact Nat.le_refl _)))
      have HI1 := Lib.hid (HI.out.keep hB)
      obtain ⟨z0, z1, z2, z3⟩ := HZ.out _ HB1.out
      clear hB
      go_wp2_with fail
      refine (HLV.out _ HI1.out).mono ?_
      rintro e w3 ⟨rfl, hB⟩
      have HB2 := Lib.hid (HB1.out.trans (hB.mono (by have := HB1.out.size; have := HSZ.out; omega)))
      have HI2 := Lib.hid (HI1.out.keep hB)
      clear hB z0 z1 z2 z3
      obtain ⟨z0, z1, z2, z3⟩ := HZ.out _ HB2.out
      go_wp2_with fail
      refine (HR.out _ HI2.out).mono ?_
      rintro e w4 ⟨rfl, hB⟩
      have HB3 := Lib.hid (HB2.out.trans (hB.mono (by have := HB2.out.size; have := HSZ.out; omega)))
      clear hB z0 z1 z2 z3
      go_wp2_with fail
      refine (awake_any _).mono ?_
      rintro e w5 ⟨rfl, hB⟩
      have HB4 := Lib.hid (HOUT.out _ (HB3.out.trans (hB.mono (by have := HB3.out.size; have := HSZ.out; omega))))
      clear hB
      go_wp2_with fail
      go_ret
      exact ⟨rfl, HB4.out⟩
    case pos =>
      have t2 : (20 : Int) < (d.n : Int) ∨ (¬ (20 : Int) < (d.n : Int) ∧ (500 : Int) < (k : Int)) := by omega
      clear hbig
      rcases t2 with t2 | ⟨t2, t3⟩
      all_goals
        go_enter Try.func6, Try.ntmps6
        go_wp2_with fail
        rw [← HWE.out]
        refine (HC.out _ HI.out).mono ?_
        rintro e w2 ⟨rfl, hB⟩
        have HB1 := Lib.hid (HB0.out.trans (hB.mono (by rw [HSZ.out]; exact Nat.le_refl _)))
        have HI1 := Lib.hid (HI.out.keep hB)
        obtain ⟨z0, z1, z2, z3⟩ := HZ.out _ HB1.out
        clear hB
        go_wp2_with fail
        refine (HLV.out _ HI1.out).mono ?_
        rintro e w3 ⟨rfl, hB⟩
        have HB2 := Lib.hid (HB1.out.trans (hB.mono (by have := HB1.out.size; have := HSZ.out; omega)))
        clear hB z0 z1 z2 z3
        obtain ⟨z0, z1, z2, z3⟩ := HZ.out _ HB2.out
        go_wp2_with fail
        refine (awake_any _).mono ?_
        rintro e w4 ⟨rfl, hB⟩
        have HB3 := Lib.hid (HOUT.out _ (HB2.out.trans (hB.mono (by have := HB2.out.size; have := HSZ.out; omega))))
        clear hB z0 z1 z2 z3
        go_wp2_with fail
        go_ret
        exact ⟨rfl, HB3.out⟩
end Go.Proofs.Ytohoiebofkmjeab
