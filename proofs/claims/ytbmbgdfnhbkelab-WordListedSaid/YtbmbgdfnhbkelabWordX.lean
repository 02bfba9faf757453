/- The contract of the statements' 'cut'; small facts for the walks. -/
import Derived.Test.YtbmbgdfnhbkelabWordK
import Derived.Test.YtbmbgdfnhbkelabWordQM
import Derived.Deep.QuietTactic
import Derived.BigQuiet
import Derived.BigRegion
import Derived.WalkSmall
import Derived.Deep.LoopGhost
import Derived.Lib.Strings
namespace Go.Proofs.Ytbmbgdfnhbkelab
open Go.RowKit Go.Sort
open WordM
set_option linter.unusedVariables false

theorem info3 : (Try.prog.info? 3).map (fun i => (i.zero, i.size, i.bytes)) = some (some (.int .i64 0), 1, 8) := by kernel_rfl

/-- at most the first n bytes of s -/
def cutS (s : ByteArray) (n : Nat) : ByteArray := s.extract 0 (min s.size n)
theorem cutS_size (s : ByteArray) (n : Nat) : (cutS s n).size = min s.size n := by
  simp [cutS]
theorem cutS_le (s : ByteArray) (n : Nat) : (cutS s n).size ≤ n := by rw [cutS_size]; omega

set_option maxHeartbeats 400000 in
theorem cut_any (s : ByteArray) (n : Int) (w : World) (h0 : 0 ≤ n) (h1 : n ≤ 4096) :
    Calls Try.prog 6 #[.string s, .int .i64 n] w fun e w' => e = .returned (.string (cutS s n.toNat)) ∧ w = w' := by
  by_cases h : (s.size : Int) ≤ n
  · have HC := Lib.hid (show cutS s n.toNat = s by rw [cutS, show min s.size n.toNat = s.size by omega]; simp)
    have hm : min (s.size : Int) n = (s.size : Int) := by omega
    have hb : (0 : Int) ≤ (s.size : Int) := by omega
    go_enter Try.func6, Try.ntmps6
    go_wp2_with fail
    go_ret
    refine ⟨by rw [HC.out]; rfl, rfl⟩
  · have HC := Lib.hid (show cutS s n.toNat = s.extract 0 n.toNat by rw [cutS, show min s.size n.toNat = n.toNat by omega])
    have hm : min (s.size : Int) n = n := by omega
    have hb : n ≤ (s.size : Int) := by omega
    go_enter Try.func6, Try.ntmps6
    go_wp2_with fail
    go_ret
    refine ⟨by rw [HC.out]; rfl, rfl⟩
end Go.Proofs.Ytbmbgdfnhbkelab
