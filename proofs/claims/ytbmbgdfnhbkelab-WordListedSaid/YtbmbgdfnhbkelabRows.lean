/-
  No cell of these rows narrows 'for every input' (looked for: loops, veiled, ifaces, maps, wideKeys, modest, calm, conditions, laid).
  DERIVED. THE GIVEN ROWS OF THIS SEAT. 3 by the template 'for every input the law returns true; each argument reads behind the call as it read before'; 0 by the template 'total and deterministic' (their statements: YtbmbgdfnhbkelabTotals.lean).
  GIVEN WITH THE SEED: the statements are not yours to turn. If you find one false, say at which input.
  Laid BY PROGRAM, IN A SANDBOX (cutbox-rows.mjs): the forced cells as the released guide's own fill.sh prints them over the translation 49b49d1a2df568ee… (all of the seat's roots in one cut). By AI agents, Wed Nov 11 2026. No macro, syntax, notation, axiom, sorry.
-/
import Derived.Test.YtbmbgdfnhbkelabChecked
import GoSem.Claim
import GoSem.ClaimJoined
import GoSem.ClaimMapViews
import Derived.JoinedTies
import Derived.KernelRfl
namespace Go.Proofs.Ytbmbgdfnhbkelab
/- THE CELL 'sum', in the pinned program and in every row, IS THE sha256 OF THE DUMP (.gsa) THAT YtbmbgdfnhbkelabProg.lean LOADS. Nothing in Lean hashes anything: it is a label: what it is worth is what the hold of that sum in a sandbox is worth. -/
noncomputable def Try.pinned : Pinned := { name := "ytbmbgdfnhbkelab", sum := "49b49d1a2df568ee977801f510ddb3895b7c060456a165cf872f6eb894f0156b", checked := Try.checked }
namespace Rows
def none {H : Type} : Left H := { results := [], args := [] }

/-- 'semigrouplaw01.WordSubwords': WHATEVER THE INPUT: true; the input reads as it did. -/
def wordSubwordsSpec : ChangeSpec := { name := "wordSubwords", fn := fun _ => fun
  | [d1, d2] => { results := [.lit (.bool true)], args := [d1, d2] }
  | _ => none }
def wordSubwordsRow : OpenClaim := { program := "ytbmbgdfnhbkelab", sum := "49b49d1a2df568ee977801f510ddb3895b7c060456a165cf872f6eb894f0156b", func := "semigroup/semigrouplaw01.WordSubwords", spec := "wordSubwords", inPlace := ["internal/bytealg.abigen_runtime_cmpstring"], unfollowed := true, recurses := true, apart := false }
def WordSubwordsSaid : Prop := wordSubwordsRow.holds Try.pinned (OpenSpec.ofChange wordSubwordsSpec)

/-- ITS FALSE NEIGHBOUR: 'it returns false'. Refute it at one input. -/
def wordSubwordsWrong : ChangeSpec := { name := "wordSubwords", fn := fun _ => fun
  | [d1, d2] => { results := [.lit (.bool false)], args := [d1, d2] }
  | _ => none }
def WordSubwordsWrongFalsely : Prop := wordSubwordsRow.holds Try.pinned (OpenSpec.ofChange wordSubwordsWrong)

/-- 'semigrouplaw01.WordFactors': WHATEVER THE INPUT: true; the input reads as it did. -/
def wordFactorsSpec : ChangeSpec := { name := "wordFactors", fn := fun _ => fun
  | [d1, d2] => { results := [.lit (.bool true)], args := [d1, d2] }
  | _ => none }
def wordFactorsRow : OpenClaim := { program := "ytbmbgdfnhbkelab", sum := "49b49d1a2df568ee977801f510ddb3895b7c060456a165cf872f6eb894f0156b", func := "semigroup/semigrouplaw01.WordFactors", spec := "wordFactors", unfollowed := true, recurses := true, apart := false }
def WordFactorsSaid : Prop := wordFactorsRow.holds Try.pinned (OpenSpec.ofChange wordFactorsSpec)

/-- ITS FALSE NEIGHBOUR: 'it returns false'. Refute it at one input. -/
def wordFactorsWrong : ChangeSpec := { name := "wordFactors", fn := fun _ => fun
  | [d1, d2] => { results := [.lit (.bool false)], args := [d1, d2] }
  | _ => none }
def WordFactorsWrongFalsely : Prop := wordFactorsRow.holds Try.pinned (OpenSpec.ofChange wordFactorsWrong)

/-- 'semigrouplaw01.WordListed': WHATEVER THE INPUT: true; the input reads as it did. -/
def wordListedSpec : ChangeSpec := { name := "wordListed", fn := fun _ => fun
  | [d1, d2, d3] => { results := [.lit (.bool true)], args := [d1, d2, d3] }
  | _ => none }
def wordListedRow : OpenClaim := { program := "ytbmbgdfnhbkelab", sum := "49b49d1a2df568ee977801f510ddb3895b7c060456a165cf872f6eb894f0156b", func := "semigroup/semigrouplaw01.WordListed", spec := "wordListed", inPlace := ["internal/bytealg.abigen_runtime_cmpstring"], unfollowed := true, recurses := true, apart := false }
def WordListedSaid : Prop := wordListedRow.holds Try.pinned (OpenSpec.ofChange wordListedSpec)

/-- ITS FALSE NEIGHBOUR: 'it returns false'. Refute it at one input. -/
def wordListedWrong : ChangeSpec := { name := "wordListed", fn := fun _ => fun
  | [d1, d2, d3] => { results := [.lit (.bool false)], args := [d1, d2, d3] }
  | _ => none }
def WordListedWrongFalsely : Prop := wordListedRow.holds Try.pinned (OpenSpec.ofChange wordListedWrong)

/- THE SECOND FORM. 'bulk': how many values and letters a reading holds, each counted each time it is reached (what is shared counts as often as it is met; a slice's spare places count too). A statement '..UptoSaid' is the law's where the arguments, and the package variables that the reading takes, are together of bulk at most 1048576: NARROWER than '..Said'. Prove '..Said' where nothing that the law and all that it calls make is longer than what came in: it says more and counts as full. Else prove '..UptoSaid'. A law counts once. -/
mutual
def uptoBulk {H : Type} : DataW H → Nat
  | .lit (.string bytes) => bytes.length + 1
  | .lit _ => 1
  | .nil => 1
  | .ptr d => uptoBulk d + 1
  | .slice elems spare => uptoBulkAll elems + uptoBulkAll spare + 1
  | .agg parts => uptoBulkAll parts + 1
  | .iface _ d => uptoBulk d + 1
  | .map entries => uptoBulkEntries entries + 1
  | .held _ => 1
def uptoBulkAll {H : Type} : List (DataW H) → Nat
  | [] => 0
  | d :: r => uptoBulk d + uptoBulkAll r
def uptoBulkEntries {H : Type} : List (Lit × DataW H) → Nat
  | [] => 0
  | x :: r => uptoBulkEntry x + uptoBulkEntries r
def uptoBulkEntry {H : Type} : Lit × DataW H → Nat
  | (.string bytes, d) => bytes.length + uptoBulk d + 1
  | (_, d) => uptoBulk d + 1
 end
def uptoSmall : (H : Type) → List (DataW H) → Bool := fun _ ds => decide (uptoBulkAll ds ≤ 1048576)
def OpenSpec.upto (s : _root_.Go.ChangeSpec) : _root_.Go.OpenSpec := { _root_.Go.OpenSpec.ofChange s with cond := some uptoSmall }

/-- 'semigrouplaw01.WordSubwords', WHERE WHAT IT READS IS OF BULK AT MOST 1048576: true; the input reads as it did. -/
def wordSubwordsUptoRow : OpenClaim := { program := "ytbmbgdfnhbkelab", sum := "49b49d1a2df568ee977801f510ddb3895b7c060456a165cf872f6eb894f0156b", func := "semigroup/semigrouplaw01.WordSubwords", spec := "wordSubwords", inPlace := ["internal/bytealg.abigen_runtime_cmpstring"], unfollowed := true, recurses := true, apart := false, narrowed := true }
def WordSubwordsUptoSaid : Prop := wordSubwordsUptoRow.holds Try.pinned (OpenSpec.upto wordSubwordsSpec)

/-- 'semigrouplaw01.WordFactors', WHERE WHAT IT READS IS OF BULK AT MOST 1048576: true; the input reads as it did. -/
def wordFactorsUptoRow : OpenClaim := { program := "ytbmbgdfnhbkelab", sum := "49b49d1a2df568ee977801f510ddb3895b7c060456a165cf872f6eb894f0156b", func := "semigroup/semigrouplaw01.WordFactors", spec := "wordFactors", unfollowed := true, recurses := true, apart := false, narrowed := true }
def WordFactorsUptoSaid : Prop := wordFactorsUptoRow.holds Try.pinned (OpenSpec.upto wordFactorsSpec)

/-- 'semigrouplaw01.WordListed', WHERE WHAT IT READS IS OF BULK AT MOST 1048576: true; the input reads as it did. -/
def wordListedUptoRow : OpenClaim := { program := "ytbmbgdfnhbkelab", sum := "49b49d1a2df568ee977801f510ddb3895b7c060456a165cf872f6eb894f0156b", func := "semigroup/semigrouplaw01.WordListed", spec := "wordListed", inPlace := ["internal/bytealg.abigen_runtime_cmpstring"], unfollowed := true, recurses := true, apart := false, narrowed := true }
def WordListedUptoSaid : Prop := wordListedUptoRow.holds Try.pinned (OpenSpec.upto wordListedSpec)

end Rows
end Go.Proofs.Ytbmbgdfnhbkelab
