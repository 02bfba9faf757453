/- Contracts: the reference's Valid. -/
import Derived.Test.YtohoiebofkmjeacWordA
namespace Go.Proofs.Ytohoiebofkmjeac.wrd
open Go.RowKit
set_option maxRecDepth 100000
open WordM

set_option maxHeartbeats 400000 in
theorem mayLetters_any (k : Int) (w : World) :
    Calls Try.prog 45 #[.int .i64 k] w fun e w' => e = .returned (.bool (mayB k)) ∧ w = w' := by
  by_cases h1 : 1 ≤ k
  · by_cases h2 : k ≤ 6
    · have h := Lib.hid (mayB_true h1 h2)
      go_enter Try.func45, Try.ntmps45
      go_wp2
      go_ret
      exact ⟨by rw [h.out]; rfl, rfl⟩
    · have h := Lib.hid (mayB_false (k := k) (.inr (by omega)))
      go_enter Try.func45, Try.ntmps45
      go_wp2
      go_ret
      exact ⟨by rw [h.out]; rfl, rfl⟩
  · have h := Lib.hid (mayB_false (k := k) (.inl (by omega)))
    go_enter Try.func45, Try.ntmps45
    go_wp2
    go_ret
    exact ⟨by rw [h.out]; rfl, rfl⟩

end Go.Proofs.Ytohoiebofkmjeac.wrd
