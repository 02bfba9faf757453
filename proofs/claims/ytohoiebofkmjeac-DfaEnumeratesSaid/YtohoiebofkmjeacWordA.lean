/- Contracts: which strings are words (word.Valid and the reference's Valid). -/
import Derived.Test.YtohoiebofkmjeacChecked
import Derived.Test.YtohoiebofkmjeacWordM
import Derived.WalkKit
import Derived.WalkSpells
import Derived.WalkLawsBesides
import Derived.Lib.Hide
namespace Go.Proofs.Ytohoiebofkmjeac.wrd
open Go.RowKit
set_option maxRecDepth 100000
open WordM

set_option maxHeartbeats 400000 in
theorem validLetters_any (k : Int) (w : World) :
    Calls Try.prog 51 #[.int .i64 k] w fun e w' => e = .returned (.bool (mayB k)) ∧ w = w' := by
  by_cases h1 : 1 ≤ k
  · by_cases h2 : k ≤ 6
    · have h := Lib.hid (mayB_true h1 h2)
      go_enter Try.func51, Try.ntmps51
      go_wp2
      go_ret
      exact ⟨by rw [h.out]; rfl, rfl⟩
    · have h := Lib.hid (mayB_false (k := k) (.inr (by omega)))
      go_enter Try.func51, Try.ntmps51
      go_wp2
      go_ret
      exact ⟨by rw [h.out]; rfl, rfl⟩
  · have h := Lib.hid (mayB_false (k := k) (.inl (by omega)))
    go_enter Try.func51, Try.ntmps51
    go_wp2
    go_ret
    exact ⟨by rw [h.out]; rfl, rfl⟩

set_option maxHeartbeats 400000 in
theorem valid_may (s : ByteArray) (k : Int) (w : World) (hm : mayB k = true) (hs : s.size ≤ 2048) :
    Calls Try.prog 44 #[.string s, .int .i64 k] w fun e w' => e = .returned (.bool (wordB k s.data.toList)) ∧ w = w' := by
  have HW := Lib.hid (wordB_mk hm hs)
  have hk := mayB_iff.1 hm
  have hk1 := hk.1
  have hk2 := hk.2
  clear hk
  have HM := Lib.hid hm
  clear hm
  go_enter Try.func44, Try.ntmps44
  go_wp2_with (go_at_call 51; refine (validLetters_any _ _).mono ?_; rintro e w' ⟨rfl, rfl⟩; rw [HM.out])
  go_loop [16] (fun i => ∃ j : Nat, j ≤ s.size ∧ i = .int .i64 j ∧ (s.data.toList.take j).all (letB k) = true) (fun i => s.size - (intOf i).toNat)
  case atStart => exact ⟨0, Nat.zero_le _, rfl, by simp⟩
  case round =>
    obtain ⟨j, hj, rfl, ha⟩ := hrel
    have HA := Lib.hid ha
    clear ha
    by_cases hlt : j < s.size
    · have hwb := w64b s[j]
      by_cases h1 : 97 ≤ (s[j].toNat : Int)
      · by_cases h2 : (s[j].toNat : Int) < 97 + k
        · go_wp2
          go_round
          case rel => exact ⟨j + 1, by omega, by go_num, all_snoc hlt HA.out (letB_iff.2 ⟨h1, h2⟩)⟩
          case measure => simp [intOf]; omega
        · have hf : letB k s[j] = false := by rw [← Bool.not_eq_true, letB_iff]; omega
          have HF := Lib.hid (not_all hlt hf)
          clear hf
          go_wp2
          go_ret
          exact ⟨by rw [HW.out, HF.out]; rfl, rfl⟩
      · have hf : letB k s[j] = false := by rw [← Bool.not_eq_true, letB_iff]; omega
        have HF := Lib.hid (not_all hlt hf)
        clear hf
        go_wp2
        go_ret
        exact ⟨by rw [HW.out, HF.out]; rfl, rfl⟩
    · have he : (s.data.toList).all (letB k) = true := by rw [← take_all s j (by omega)]; exact HA.out
      have HE := Lib.hid he
      clear he
      go_wp2
      go_ret
      exact ⟨by rw [HW.out, HE.out]; rfl, rfl⟩

set_option maxHeartbeats 400000 in
theorem valid_not (s : ByteArray) (k : Int) (w : World) (hm : mayB k = false) :
    Calls Try.prog 44 #[.string s, .int .i64 k] w fun e w' => e = .returned (.bool (wordB k s.data.toList)) ∧ w = w' := by
  have HW := Lib.hid (wordB_may (l := s.data.toList) hm)
  have HM := Lib.hid hm
  clear hm
  go_enter Try.func44, Try.ntmps44
  go_wp2_with (go_at_call 51; refine (validLetters_any _ _).mono ?_; rintro e w' ⟨rfl, rfl⟩; rw [HM.out])
  go_ret
  exact ⟨by rw [HW.out]; rfl, rfl⟩

set_option maxHeartbeats 400000 in
theorem valid_long (s : ByteArray) (k : Int) (w : World) (hm : mayB k = true) (hs : 2048 < s.size) :
    Calls Try.prog 44 #[.string s, .int .i64 k] w fun e w' => e = .returned (.bool (wordB k s.data.toList)) ∧ w = w' := by
  have HW := Lib.hid (wordB_long (k := k) hs)
  have HM := Lib.hid hm
  clear hm
  go_enter Try.func44, Try.ntmps44
  go_wp2_with (go_at_call 51; refine (validLetters_any _ _).mono ?_; rintro e w' ⟨rfl, rfl⟩; rw [HM.out])
  go_ret
  exact ⟨by rw [HW.out]; rfl, rfl⟩

/-- word.Valid: whether s is a word over k letters. -/
theorem valid_any (s : ByteArray) (k : Int) (w : World) :
    Calls Try.prog 44 #[.string s, .int .i64 k] w fun e w' => e = .returned (.bool (wordB k s.data.toList)) ∧ w = w' := by
  cases hm : mayB k
  · exact valid_not s k w hm
  · by_cases hs : s.size ≤ 2048
    · exact valid_may s k w hm hs
    · exact valid_long s k w hm (by omega)
end Go.Proofs.Ytohoiebofkmjeac.wrd
