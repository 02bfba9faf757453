/- Contract: the reference's Count. -/
import Derived.Test.YtohoiebofkmjeacDfaCC
namespace Go.Proofs.Ytohoiebofkmjeac
open Go Go.RowKit
set_option linter.unusedVariables false
theorem infoI : (Try.prog.info? 3).map (fun i => (i.zero, i.size, i.bytes)) = some (some (.int .i64 0), 1, 8) := by kernel_rfl
def nsI (h : Nat → Nat) : Nat → Value := fun q => .int .i64 ((h q : Nat) : Int)
theorem nsI_set {h : Nat → Nat} {s x : Nat} (t : Nat) : (if t = s then Value.int .i64 (x : Int) else nsI h t) = nsI (fun t => if t = s then x else h t) t := by
  unfold nsI; by_cases e : t = s <;> simp [e]
theorem addAt_lt {h : Nat → Nat} (hh : ∀ s, h s < pr61) (s a : Nat) : ∀ t, addAt h s a t < pr61 := fun t => by
  unfold addAt; split
  · exact Nat.mod_lt _ (by unfold pr61; omega)
  · exact hh t
end Go.Proofs.Ytohoiebofkmjeac
