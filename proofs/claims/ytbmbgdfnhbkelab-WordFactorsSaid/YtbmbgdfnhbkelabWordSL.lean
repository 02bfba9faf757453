/- The walk of the law on factors. -/
import Derived.Test.YtbmbgdfnhbkelabWordSH
namespace Go.Proofs.Ytbmbgdfnhbkelab
open Go Go.RowKit
open WordM
set_option linter.unusedVariables false

set_option maxRecDepth 100000 in
set_option maxHeartbeats 2000000 in
theorem wWordFactors {w : World} (s0 : ByteArray) (hs0 : s0.size ≤ maxLen) (n : Int) (_ : (Lit.int .i64 n).wf = true) :
    Calls Try.prog 4 #[.string s0, .int .i64 n] w fun e w' => e = .returned (.bool true) ∧ Below w.heap.size w w' := by
  have c1 := cutS_le s0 100
  by_cases hn : n < 0 ∨ ((cutS s0 100).size : Int) < n
  · have HNO := Lib.hid hn
    by_cases h0 : n < 0
    all_goals
      have h1 : ¬ n < 0 → ((cutS s0 100).size : Int) < n := fun h => hn.resolve_left h
      have HH := Lib.hid h1
      clear hn h1
      go_enter Try.func4, Try.ntmps4
      go_wp2_with fail
      refine (cut_any _ _ _ (by omega) (by omega)).mono ?_
      rintro e w2 ⟨rfl, rfl⟩
      rw [show (100 : Int).toNat = 100 from rfl]
      generalize cutS s0 100 = s at *
      go_wp2_with fail
      refine (factors_no s n _ HNO.out).mono ?_
      rintro e w3 ⟨a3, c3, rfl, hR, hB⟩
      have HB := Lib.hid hB
      clear hR hB
      have h2 := HH.out
      first
        | (have h3 : (s.size : Int) < n := h2 h0
           clear h2
           go_wp2_with fail
           refine (awake_any _).mono ?_
           rintro e w4 ⟨rfl, hb4⟩
           have HB4 := Lib.hid (HB.out.trans (hb4.mono HB.out.size))
           clear hb4
           go_wp2_with fail
           go_ret
           exact ⟨rfl, HB4.out⟩)
        | (clear h2
           go_wp2_with fail
           refine (awake_any _).mono ?_
           rintro e w4 ⟨rfl, hb4⟩
           have HB4 := Lib.hid (HB.out.trans (hb4.mono HB.out.size))
           clear hb4
           go_wp2_with fail
           go_ret
           exact ⟨rfl, HB4.out⟩)
  · obtain ⟨k, rfl⟩ := Int.eq_ofNat_of_zero_le (show 0 ≤ n by omega)
    have hk : k ≤ (cutS s0 100).size := by omega
    clear hn
    go_enter Try.func4, Try.ntmps4
    go_wp2_with fail
    refine (cut_any _ _ _ (by omega) (by omega)).mono ?_
    rintro e w2 ⟨rfl, rfl⟩
    rw [show (100 : Int).toNat = 100 from rfl]
    generalize cutS s0 100 = s at *
    have hf := facN_len s k (s.size - k + 1)
    have C1 := Lib.hid (fun W : World => factors_ok s k W (by omega) hk)
    have C2 := Lib.hid (fun W : World => rfactors_ok s k W (by omega) hk)
    generalize facN s k (s.size - k + 1) = l at *
    have HL := Lib.hid (show l.length ≤ maxLen by unfold maxLen; omega)
    have HE := Lib.hid (eqS_self l)
    clear hf
    go_wp2_with fail
    refine (C1.out _).mono ?_
    rintro e w3 ⟨a3, c3, rfl, hR, hB⟩
    have HR := Lib.hid hR
    have HB := Lib.hid hB
    clear hR hB
    go_wp2_with fail
    refine (C2.out _).mono ?_
    rintro e w4 ⟨a4, c4, rfl, hR, hB⟩
    have HR4 := Lib.hid hR
    have HR3 := Lib.hid (HR.out.keep hB)
    have HB4 := Lib.hid (HB.out.trans (hB.mono HB.out.size))
    clear hR hB
    go_wp2_with fail
    refine (sameS_any _ _ _ _ _ _ _ HR3.out HR4.out HL.out).mono ?_
    rintro e w5 ⟨rfl, hB⟩
    rw [HE.out]
    have HB5 := Lib.hid (HB4.out.trans (hB.mono HB4.out.size))
    clear hB
    go_wp2_with fail
    refine (awake_any _).mono ?_
    rintro e w6 ⟨rfl, hB⟩
    have HB6 := Lib.hid (HB5.out.trans (hB.mono HB5.out.size))
    clear hB
    go_wp2_with fail
    go_ret
    exact ⟨rfl, HB6.out⟩
end Go.Proofs.Ytbmbgdfnhbkelab
