/- The walk of the law on subwords. -/
import Derived.Test.YtbmbgdfnhbkelabWordWC
import Derived.Test.YtbmbgdfnhbkelabWordWD
namespace Go.Proofs.Ytbmbgdfnhbkelab
open Go Go.RowKit
open WordM
set_option linter.unusedVariables false

set_option maxHeartbeats 400000 in
theorem subwords_no (s : ByteArray) (n : Int) (w : World) (hs : s.size ≤ 1000000) (h : n < 0 ∨ 16 < s.size) :
    Calls Try.prog 7 #[.string s, .int .i64 n] w (GivesS w []) := by
  by_cases h0 : n < 0
  · clear h
    go_enter Try.func7, Try.ntmps7
    go_wp2_with fail
    go_ret
    exact ⟨none, 0, rfl, .inl ⟨rfl, rfl, rfl⟩, Below.refl _ _⟩
  · have h1 : 16 < s.size := by omega
    clear h
    go_enter Try.func7, Try.ntmps7
    go_wp2_with fail
    go_ret
    exact ⟨none, 0, rfl, .inl ⟨rfl, rfl, rfl⟩, Below.refl _ _⟩

set_option maxRecDepth 100000 in
set_option maxHeartbeats 2000000 in
theorem wWordSubwords {w : World} (s0 : ByteArray) (hs0 : s0.size ≤ maxLen) (n : Int) (hwf : (Lit.int .i64 n).wf = true) :
    Calls Try.prog 3 #[.string s0, .int .i64 n] w fun e w' => e = .returned (.bool true) ∧ Below w.heap.size w w' := by
  have c1 := cutS_le s0 18
  by_cases hn : n < 0 ∨ 16 < (cutS s0 18).size
  · have HNO := Lib.hid hn
    by_cases h0 : n < 0
    all_goals
      have h1 : ¬ n < 0 → 16 < (cutS s0 18).size := fun h => hn.resolve_left h
      have HH := Lib.hid h1
      clear hn h1
      go_enter Try.func3, Try.ntmps3
      go_wp2_with fail
      refine (cut_any _ _ _ (by omega) (by omega)).mono ?_
      rintro e w2 ⟨rfl, rfl⟩
      rw [show (18 : Int).toNat = 18 from rfl]
      generalize cutS s0 18 = s at *
      go_wp2_with fail
      refine (subwords_no s n _ (by omega) HNO.out).mono ?_
      rintro e w3 ⟨a3, c3, rfl, hR, hB⟩
      have HB := Lib.hid hB
      clear hR hB
      have h2 := HH.out
      first
        | (have h3 : 16 < s.size := h2 h0
           clear h2
           go_wp2_with fail
           refine (awake_any _).mono ?_
           rintro e w4 ⟨rfl, hb4⟩
           have HB4 := Lib.hid (HB.out.trans (hb4.mono HB.out.size))
           clear hb4
           go_wp2_with fail
           go_ret
           exact ⟨rfl, HB4.out⟩)
        | (clear h2
           go_wp2_with fail
           refine (awake_any _).mono ?_
           rintro e w4 ⟨rfl, hb4⟩
           have HB4 := Lib.hid (HB.out.trans (hb4.mono HB.out.size))
           clear hb4
           go_wp2_with fail
           go_ret
           exact ⟨rfl, HB4.out⟩)
  · obtain ⟨k, rfl⟩ := Int.eq_ofNat_of_zero_le (show 0 ≤ n by omega)
    have hk : k ≤ 9223372036854775807 := by
      simp [Lit.wf] at hwf; omega
    have hs16 : (cutS s0 18).size ≤ 16 := by omega
    clear hn
    go_enter Try.func3, Try.ntmps3
    go_wp2_with fail
    refine (cut_any _ _ _ (by omega) (by omega)).mono ?_
    rintro e w2 ⟨rfl, rfl⟩
    rw [show (18 : Int).toNat = 18 from rfl]
    generalize cutS s0 18 = s at *
    have hf := subO_len s k s.size
    have hp := pow_le16 hs16
    have C1 := Lib.hid (fun W : World => subwords_ok s k W (by omega) hk)
    have C2 := Lib.hid (fun W : World => rsubwords_ok s k W (by omega) hk)
    generalize subO s k s.size = l at *
    have HL := Lib.hid (show l.length ≤ maxLen by unfold maxLen; omega)
    have HE := Lib.hid (eqS_self l)
    clear hf hp
    go_wp2_with fail
    refine (C1.out _).mono ?_
    rintro e w3 ⟨a3, c3, rfl, hR, hB⟩
    have HR := Lib.hid hR
    have HB := Lib.hid hB
    clear hR hB
    by_cases h11 : 11 < s.size
    · go_wp2_with fail
      refine (awake_any _).mono ?_
      rintro e w6 ⟨rfl, hB⟩
      have HB6 := Lib.hid (HB.out.trans (hB.mono HB.out.size))
      clear hB
      go_wp2_with fail
      go_ret
      exact ⟨rfl, HB6.out⟩
    · go_wp2_with fail
      refine (C2.out _).mono ?_
      rintro e w4 ⟨a4, c4, rfl, hR, hB⟩
      have HR4 := Lib.hid hR
      have HR3 := Lib.hid (HR.out.keep hB)
      have HB4 := Lib.hid (HB.out.trans (hB.mono HB.out.size))
      clear hR hB
      go_wp2_with fail
      refine (sameS_any _ _ _ _ _ _ _ HR3.out HR4.out HL.out).mono ?_
      rintro e w5 ⟨rfl, hB⟩
      rw [HE.out]
      have HB5 := Lib.hid (HB4.out.trans (hB.mono HB4.out.size))
      clear hB
      go_wp2_with fail
      refine (awake_any _).mono ?_
      rintro e w6 ⟨rfl, hB⟩
      have HB6 := Lib.hid (HB5.out.trans (hB.mono HB5.out.size))
      clear hB
      go_wp2_with fail
      go_ret
      exact ⟨rfl, HB6.out⟩
end Go.Proofs.Ytbmbgdfnhbkelab
