/- Contract: the reference's Compare. -/
import Derived.Test.YtohoiebofkmjeacDfaA
import Derived.Test.YtohoiebofkmjeacWordCM
import Derived.WalkSpells
import Derived.WalkLawsBesides
namespace Go.Proofs.Ytohoiebofkmjeac
open Go.RowKit Go.Sort
open Go.Proofs.Ytohoiebofkmjeac.wrd.WordM
set_option linter.unusedVariables false

set_option maxHeartbeats 400000 in
theorem rcompare_any (u v : ByteArray) (hu : u.size ≤ maxLen) (hv : v.size ≤ maxLen) (w : World) :
    Calls Try.prog 10 #[.string u, .string v] w fun e w' => e = .returned (.int .i64 (cmpW u v)) ∧ w = w' := by
  unfold maxLen at hu hv
  by_cases h1 : u.size < v.size
  · have HC := Lib.hid (cmpW_lt (.inl h1))
    go_enter Try.func10, Try.ntmps10
    go_wp2_with fail
    go_ret
    exact ⟨by rw [HC.out]; rfl, rfl⟩
  · by_cases h2 : v.size < u.size
    · have HC := Lib.hid (cmpW_gt (u := u) (.inl h2))
      have he : (u.toList == v.toList) = false := by
        rw [beq_eq_false_iff_ne, Lib.toList_data, Lib.toList_data]; intro e; rw [ext_list e] at h2; omega
      have hne : ((u.size : Int) == (v.size : Int)) = false := by rw [beq_eq_false_iff_ne]; omega
      go_enter Try.func10, Try.ntmps10
      go_wp2_with fail
      go_ret
      exact ⟨by rw [HC.out]; rfl, rfl⟩
    · have hs : u.size = v.size := by omega
      have hne : ((u.size : Int) == (v.size : Int)) = true := by rw [beq_iff_eq]; omega
      have hb : Op.bytesLess u.toList v.toList = decide (u.data.toList < v.data.toList) := by rw [bytesLess_lt, Lib.toList_data, Lib.toList_data]
      by_cases hl : u.data.toList < v.data.toList
      · have HC := Lib.hid (cmpW_lt (.inr ⟨hs, hl⟩))
        have hb1 : Op.bytesLess u.toList v.toList = true := by rw [hb]; simp [hl]
        clear hb hl hs
        go_enter Try.func10, Try.ntmps10
        go_wp2_with fail
        go_ret
        exact ⟨by rw [HC.out]; rfl, rfl⟩
      · have hb1 : Op.bytesLess u.toList v.toList = false := by rw [hb]; simp [hl]
        by_cases e : u = v
        · subst e
          have HC := Lib.hid (cmpW_self u)
          have he : (u.toList == u.toList) = true := by simp
          clear hb hl hs
          go_enter Try.func10, Try.ntmps10
          go_wp2_with fail
          go_ret
          exact ⟨by rw [HC.out]; rfl, rfl⟩
        · have HC := Lib.hid (cmpW_gt (u := u) (v := v) (by
            rcases ltW_tri u v with h | h | h
            · rcases h with h | h
              · exact absurd h h1
              · exact absurd h.2 hl
            · exact absurd h e
            · exact h))
          have he : (u.toList == v.toList) = false := by
            rw [beq_eq_false_iff_ne, Lib.toList_data, Lib.toList_data]; intro h; exact e (ext_list h)
          clear hb hl hs e
          go_enter Try.func10, Try.ntmps10
          go_wp2_with fail
          go_ret
          exact ⟨by rw [HC.out]; rfl, rfl⟩

end Go.Proofs.Ytohoiebofkmjeac
