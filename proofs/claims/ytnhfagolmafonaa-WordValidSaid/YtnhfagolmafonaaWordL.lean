/- The walks of the laws on word.Valid. -/
import Derived.Test.YtnhfagolmafonaaWordK
namespace Go.Proofs.Ytnhfagolmafonaa
open Go.RowKit Go.Sort
open WordM

set_option maxRecDepth 100000 in
set_option maxHeartbeats 400000 in
theorem wWordValid (s : ByteArray) (_ : s.size ≤ maxLen) (k : Int) (_ : (Lit.int .i64 k).wf = true) (w : World) :
    Calls Try.prog 3 #[.string s, .int .i64 k] w fun e w' => e = .returned (.bool true) ∧ Below w.heap.size w w' := by
  go_enter Try.func3, Try.ntmps3
  go_wp2_with fail
  refine (valid_any _ _ _).mono ?_
  rintro e w2 ⟨rfl, rfl⟩
  go_wp2_with fail
  refine (rvalid_any _ _ _).mono ?_
  rintro e w2 ⟨rfl, rfl⟩
  go_wp2_with fail
  refine (awake_any _).mono ?_
  rintro e w2 ⟨rfl, hb⟩
  go_wp2_with fail
  go_ret
  exact ⟨rfl, hb⟩
end Go.Proofs.Ytnhfagolmafonaa
