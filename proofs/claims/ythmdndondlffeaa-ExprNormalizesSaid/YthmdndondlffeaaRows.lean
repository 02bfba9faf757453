/-
  NARROWER THAN 'FOR EVERY INPUT', by the rows' own cells (each row's printed sentence says how): ExprNormalizes: loops · ExprSettles: loops · ExprIgnores: loops.
  DERIVED. THE GIVEN ROWS OF THIS SEAT. 3 by the template 'for every input the law returns true; each argument reads behind the call as it read before'; 0 by the template 'total and deterministic' (their statements: YthmdndondlffeaaTotals.lean).
  GIVEN WITH THE SEED: the statements are not yours to turn. If you find one false, say at which input.
  Laid BY PROGRAM, IN A SANDBOX (cutbox-rows.mjs): the forced cells as the released guide's own fill.sh prints them over the translation 69171ee7de003777… (all of the seat's roots in one cut). By AI agents, Wed Nov 11 2026. No macro, syntax, notation, axiom, sorry.
-/
import Derived.Test.YthmdndondlffeaaChecked
import GoSem.Claim
import GoSem.ClaimJoined
import GoSem.ClaimMapViews
import Derived.JoinedTies
import Derived.KernelRfl
namespace Go.Proofs.Ythmdndondlffeaa
/- THE CELL 'sum', in the pinned program and in every row, IS THE sha256 OF THE DUMP (.gsa) THAT YthmdndondlffeaaProg.lean LOADS. Nothing in Lean hashes anything: it is a label: what it is worth is what the hold of that sum in a sandbox is worth. -/
noncomputable def Try.pinned : Pinned := { name := "ythmdndondlffeaa", sum := "69171ee7de0037773b2e3cfc0a301a68d5afe3b85b82323046285b2ecb0ab16f", checked := Try.checked }
namespace Rows
def none {H : Type} : Left H := { results := [], args := [] }

/-- 'semigrouplaw04.ExprNormalizes': WHATEVER THE INPUT: true; the input reads as it did. -/
def exprNormalizesSpec : ChangeSpec := { name := "exprNormalizes", fn := fun _ => fun
  | [d] => { results := [.lit (.bool true)], args := [d] }
  | _ => none }
def exprNormalizesRow : OpenClaim := { program := "ythmdndondlffeaa", sum := "69171ee7de0037773b2e3cfc0a301a68d5afe3b85b82323046285b2ecb0ab16f", func := "semigroup/semigrouplaw04.ExprNormalizes", spec := "exprNormalizes", inPlace := ["internal/bytealg.IndexByteString"], unfollowed := true, recurses := true, loops := true, apart := false }
def ExprNormalizesSaid : Prop := exprNormalizesRow.holds Try.pinned (OpenSpec.ofChange exprNormalizesSpec)

/-- ITS FALSE NEIGHBOUR: 'it returns false'. Refute it at one input. -/
def exprNormalizesWrong : ChangeSpec := { name := "exprNormalizes", fn := fun _ => fun
  | [d] => { results := [.lit (.bool false)], args := [d] }
  | _ => none }
def ExprNormalizesWrongFalsely : Prop := exprNormalizesRow.holds Try.pinned (OpenSpec.ofChange exprNormalizesWrong)

/-- 'semigrouplaw04.ExprSettles': WHATEVER THE INPUT: true; the input reads as it did. -/
def exprSettlesSpec : ChangeSpec := { name := "exprSettles", fn := fun _ => fun
  | [d] => { results := [.lit (.bool true)], args := [d] }
  | _ => none }
def exprSettlesRow : OpenClaim := { program := "ythmdndondlffeaa", sum := "69171ee7de0037773b2e3cfc0a301a68d5afe3b85b82323046285b2ecb0ab16f", func := "semigroup/semigrouplaw04.ExprSettles", spec := "exprSettles", inPlace := ["internal/bytealg.IndexByteString"], unfollowed := true, recurses := true, loops := true, apart := false }
def ExprSettlesSaid : Prop := exprSettlesRow.holds Try.pinned (OpenSpec.ofChange exprSettlesSpec)

/-- ITS FALSE NEIGHBOUR: 'it returns false'. Refute it at one input. -/
def exprSettlesWrong : ChangeSpec := { name := "exprSettles", fn := fun _ => fun
  | [d] => { results := [.lit (.bool false)], args := [d] }
  | _ => none }
def ExprSettlesWrongFalsely : Prop := exprSettlesRow.holds Try.pinned (OpenSpec.ofChange exprSettlesWrong)

/-- 'semigrouplaw04.ExprIgnores': WHATEVER THE INPUT: true; the input reads as it did. -/
def exprIgnoresSpec : ChangeSpec := { name := "exprIgnores", fn := fun _ => fun
  | [d1, d2, d3] => { results := [.lit (.bool true)], args := [d1, d2, d3] }
  | _ => none }
def exprIgnoresRow : OpenClaim := { program := "ythmdndondlffeaa", sum := "69171ee7de0037773b2e3cfc0a301a68d5afe3b85b82323046285b2ecb0ab16f", func := "semigroup/semigrouplaw04.ExprIgnores", spec := "exprIgnores", inPlace := ["internal/bytealg.IndexByteString"], unfollowed := true, recurses := true, loops := true, apart := false }
def ExprIgnoresSaid : Prop := exprIgnoresRow.holds Try.pinned (OpenSpec.ofChange exprIgnoresSpec)

/-- ITS FALSE NEIGHBOUR: 'it returns false'. Refute it at one input. -/
def exprIgnoresWrong : ChangeSpec := { name := "exprIgnores", fn := fun _ => fun
  | [d1, d2, d3] => { results := [.lit (.bool false)], args := [d1, d2, d3] }
  | _ => none }
def ExprIgnoresWrongFalsely : Prop := exprIgnoresRow.holds Try.pinned (OpenSpec.ofChange exprIgnoresWrong)

/- THE SECOND FORM. 'bulk': how many values and letters a reading holds, each counted each time it is reached (what is shared counts as often as it is met; a slice's spare places count too). A statement '..UptoSaid' is the law's where the arguments, and the package variables that the reading takes, are together of bulk at most 1048576: NARROWER than '..Said'. Prove '..Said' where nothing that the law and all that it calls make is longer than what came in: it says more and counts as full. Else prove '..UptoSaid'. A law counts once. -/
mutual
def uptoBulk {H : Type} : DataW H → Nat
  | .lit (.string bytes) => bytes.length + 1
  | .lit _ => 1
  | .nil => 1
  | .ptr d => uptoBulk d + 1
  | .slice elems spare => uptoBulkAll elems + uptoBulkAll spare + 1
  | .agg parts => uptoBulkAll parts + 1
  | .iface _ d => uptoBulk d + 1
  | .map entries => uptoBulkEntries entries + 1
  | .held _ => 1
def uptoBulkAll {H : Type} : List (DataW H) → Nat
  | [] => 0
  | d :: r => uptoBulk d + uptoBulkAll r
def uptoBulkEntries {H : Type} : List (Lit × DataW H) → Nat
  | [] => 0
  | x :: r => uptoBulkEntry x + uptoBulkEntries r
def uptoBulkEntry {H : Type} : Lit × DataW H → Nat
  | (.string bytes, d) => bytes.length + uptoBulk d + 1
  | (_, d) => uptoBulk d + 1
 end
def uptoSmall : (H : Type) → List (DataW H) → Bool := fun _ ds => decide (uptoBulkAll ds ≤ 1048576)
def OpenSpec.upto (s : _root_.Go.ChangeSpec) : _root_.Go.OpenSpec := { _root_.Go.OpenSpec.ofChange s with cond := some uptoSmall }

/-- 'semigrouplaw04.ExprNormalizes', WHERE WHAT IT READS IS OF BULK AT MOST 1048576: true; the input reads as it did. -/
def exprNormalizesUptoRow : OpenClaim := { program := "ythmdndondlffeaa", sum := "69171ee7de0037773b2e3cfc0a301a68d5afe3b85b82323046285b2ecb0ab16f", func := "semigroup/semigrouplaw04.ExprNormalizes", spec := "exprNormalizes", inPlace := ["internal/bytealg.IndexByteString"], unfollowed := true, recurses := true, loops := true, apart := false, narrowed := true }
def ExprNormalizesUptoSaid : Prop := exprNormalizesUptoRow.holds Try.pinned (OpenSpec.upto exprNormalizesSpec)

/-- 'semigrouplaw04.ExprSettles', WHERE WHAT IT READS IS OF BULK AT MOST 1048576: true; the input reads as it did. -/
def exprSettlesUptoRow : OpenClaim := { program := "ythmdndondlffeaa", sum := "69171ee7de0037773b2e3cfc0a301a68d5afe3b85b82323046285b2ecb0ab16f", func := "semigroup/semigrouplaw04.ExprSettles", spec := "exprSettles", inPlace := ["internal/bytealg.IndexByteString"], unfollowed := true, recurses := true, loops := true, apart := false, narrowed := true }
def ExprSettlesUptoSaid : Prop := exprSettlesUptoRow.holds Try.pinned (OpenSpec.upto exprSettlesSpec)

/-- 'semigrouplaw04.ExprIgnores', WHERE WHAT IT READS IS OF BULK AT MOST 1048576: true; the input reads as it did. -/
def exprIgnoresUptoRow : OpenClaim := { program := "ythmdndondlffeaa", sum := "69171ee7de0037773b2e3cfc0a301a68d5afe3b85b82323046285b2ecb0ab16f", func := "semigroup/semigrouplaw04.ExprIgnores", spec := "exprIgnores", inPlace := ["internal/bytealg.IndexByteString"], unfollowed := true, recurses := true, loops := true, apart := false, narrowed := true }
def ExprIgnoresUptoSaid : Prop := exprIgnoresUptoRow.holds Try.pinned (OpenSpec.upto exprIgnoresSpec)

end Rows
end Go.Proofs.Ythmdndondlffeaa
