/-
  No cell of these rows narrows 'for every input' (looked for: loops, veiled, ifaces, maps, wideKeys, modest, calm, conditions, laid).
  DERIVED. THE GIVEN ROWS OF THIS SEAT. 6 by the template 'for every input the law returns true; each argument reads behind the call as it read before'; 0 by the template 'total and deterministic' (their statements: YtohoiebofkmjeaaTotals.lean).
  GIVEN WITH THE SEED: the statements are not yours to turn. If you find one false, say at which input.
  Laid BY PROGRAM, IN A SANDBOX (cutbox-rows.mjs): the forced cells as the released guide's own fill.sh prints them over the translation 98b92af908aa9a8a… (all of the seat's roots in one cut). By AI agents, Wed Nov 11 2026. No macro, syntax, notation, axiom, sorry.
-/
import Derived.Test.YtohoiebofkmjeaaChecked
import GoSem.Claim
import GoSem.ClaimJoined
import GoSem.ClaimMapViews
import Derived.JoinedTies
import Derived.KernelRfl
namespace Go.Proofs.Ytohoiebofkmjeaa
/- THE CELL 'sum', in the pinned program and in every row, IS THE sha256 OF THE DUMP (.gsa) THAT YtohoiebofkmjeaaProg.lean LOADS. Nothing in Lean hashes anything: it is a label: what it is worth is what the hold of that sum in a sandbox is worth. -/
noncomputable def Try.pinned : Pinned := { name := "ytohoiebofkmjeaa", sum := "98b92af908aa9a8adfe3b404d62e48c05d2d27f990fca1cecb85c204801d1170", checked := Try.checked }
namespace Rows
def none {H : Type} : Left H := { results := [], args := [] }

/-- 'semigrouplaw07.DfaValidates': WHATEVER THE INPUT: true; the input reads as it did. -/
def dfaValidatesSpec : ChangeSpec := { name := "dfaValidates", fn := fun _ => fun
  | [d] => { results := [.lit (.bool true)], args := [d] }
  | _ => none }
def dfaValidatesRow : OpenClaim := { program := "ytohoiebofkmjeaa", sum := "98b92af908aa9a8adfe3b404d62e48c05d2d27f990fca1cecb85c204801d1170", func := "semigroup/semigrouplaw07.DfaValidates", spec := "dfaValidates", recurses := true, apart := false }
def DfaValidatesSaid : Prop := dfaValidatesRow.holds Try.pinned (OpenSpec.ofChange dfaValidatesSpec)

/-- ITS FALSE NEIGHBOUR: 'it returns false'. Refute it at one input. -/
def dfaValidatesWrong : ChangeSpec := { name := "dfaValidates", fn := fun _ => fun
  | [d] => { results := [.lit (.bool false)], args := [d] }
  | _ => none }
def DfaValidatesWrongFalsely : Prop := dfaValidatesRow.holds Try.pinned (OpenSpec.ofChange dfaValidatesWrong)

/-- 'semigrouplaw07.DfaRuns': WHATEVER THE INPUT: true; the input reads as it did. -/
def dfaRunsSpec : ChangeSpec := { name := "dfaRuns", fn := fun _ => fun
  | [d1, d2, d3] => { results := [.lit (.bool true)], args := [d1, d2, d3] }
  | _ => none }
def dfaRunsRow : OpenClaim := { program := "ytohoiebofkmjeaa", sum := "98b92af908aa9a8adfe3b404d62e48c05d2d27f990fca1cecb85c204801d1170", func := "semigroup/semigrouplaw07.DfaRuns", spec := "dfaRuns", recurses := true, apart := false }
def DfaRunsSaid : Prop := dfaRunsRow.holds Try.pinned (OpenSpec.ofChange dfaRunsSpec)

/-- ITS FALSE NEIGHBOUR: 'it returns false'. Refute it at one input. -/
def dfaRunsWrong : ChangeSpec := { name := "dfaRuns", fn := fun _ => fun
  | [d1, d2, d3] => { results := [.lit (.bool false)], args := [d1, d2, d3] }
  | _ => none }
def DfaRunsWrongFalsely : Prop := dfaRunsRow.holds Try.pinned (OpenSpec.ofChange dfaRunsWrong)

/-- 'semigrouplaw07.DfaTrims': WHATEVER THE INPUT: true; the input reads as it did. -/
def dfaTrimsSpec : ChangeSpec := { name := "dfaTrims", fn := fun _ => fun
  | [d] => { results := [.lit (.bool true)], args := [d] }
  | _ => none }
def dfaTrimsRow : OpenClaim := { program := "ytohoiebofkmjeaa", sum := "98b92af908aa9a8adfe3b404d62e48c05d2d27f990fca1cecb85c204801d1170", func := "semigroup/semigrouplaw07.DfaTrims", spec := "dfaTrims", unfollowed := true, recurses := true, apart := false }
def DfaTrimsSaid : Prop := dfaTrimsRow.holds Try.pinned (OpenSpec.ofChange dfaTrimsSpec)

/-- ITS FALSE NEIGHBOUR: 'it returns false'. Refute it at one input. -/
def dfaTrimsWrong : ChangeSpec := { name := "dfaTrims", fn := fun _ => fun
  | [d] => { results := [.lit (.bool false)], args := [d] }
  | _ => none }
def DfaTrimsWrongFalsely : Prop := dfaTrimsRow.holds Try.pinned (OpenSpec.ofChange dfaTrimsWrong)

/-- 'semigrouplaw07.DfaReaches': WHATEVER THE INPUT: true; the input reads as it did. -/
def dfaReachesSpec : ChangeSpec := { name := "dfaReaches", fn := fun _ => fun
  | [d1, d2] => { results := [.lit (.bool true)], args := [d1, d2] }
  | _ => none }
def dfaReachesRow : OpenClaim := { program := "ytohoiebofkmjeaa", sum := "98b92af908aa9a8adfe3b404d62e48c05d2d27f990fca1cecb85c204801d1170", func := "semigroup/semigrouplaw07.DfaReaches", spec := "dfaReaches", unfollowed := true, recurses := true, apart := false }
def DfaReachesSaid : Prop := dfaReachesRow.holds Try.pinned (OpenSpec.ofChange dfaReachesSpec)

/-- ITS FALSE NEIGHBOUR: 'it returns false'. Refute it at one input. -/
def dfaReachesWrong : ChangeSpec := { name := "dfaReaches", fn := fun _ => fun
  | [d1, d2] => { results := [.lit (.bool false)], args := [d1, d2] }
  | _ => none }
def DfaReachesWrongFalsely : Prop := dfaReachesRow.holds Try.pinned (OpenSpec.ofChange dfaReachesWrong)

/-- 'semigrouplaw07.DfaSubsets': WHATEVER THE INPUT: true; the input reads as it did. -/
def dfaSubsetsSpec : ChangeSpec := { name := "dfaSubsets", fn := fun _ => fun
  | [d] => { results := [.lit (.bool true)], args := [d] }
  | _ => none }
def dfaSubsetsRow : OpenClaim := { program := "ytohoiebofkmjeaa", sum := "98b92af908aa9a8adfe3b404d62e48c05d2d27f990fca1cecb85c204801d1170", func := "semigroup/semigrouplaw07.DfaSubsets", spec := "dfaSubsets", unfollowed := true, recurses := true, apart := false }
def DfaSubsetsSaid : Prop := dfaSubsetsRow.holds Try.pinned (OpenSpec.ofChange dfaSubsetsSpec)

/-- ITS FALSE NEIGHBOUR: 'it returns false'. Refute it at one input. -/
def dfaSubsetsWrong : ChangeSpec := { name := "dfaSubsets", fn := fun _ => fun
  | [d] => { results := [.lit (.bool false)], args := [d] }
  | _ => none }
def DfaSubsetsWrongFalsely : Prop := dfaSubsetsRow.holds Try.pinned (OpenSpec.ofChange dfaSubsetsWrong)

/-- 'semigrouplaw07.DfaDeterminizes': WHATEVER THE INPUT: true; the input reads as it did. -/
def dfaDeterminizesSpec : ChangeSpec := { name := "dfaDeterminizes", fn := fun _ => fun
  | [d1, d2] => { results := [.lit (.bool true)], args := [d1, d2] }
  | _ => none }
def dfaDeterminizesRow : OpenClaim := { program := "ytohoiebofkmjeaa", sum := "98b92af908aa9a8adfe3b404d62e48c05d2d27f990fca1cecb85c204801d1170", func := "semigroup/semigrouplaw07.DfaDeterminizes", spec := "dfaDeterminizes", unfollowed := true, recurses := true, apart := false }
def DfaDeterminizesSaid : Prop := dfaDeterminizesRow.holds Try.pinned (OpenSpec.ofChange dfaDeterminizesSpec)

/-- ITS FALSE NEIGHBOUR: 'it returns false'. Refute it at one input. -/
def dfaDeterminizesWrong : ChangeSpec := { name := "dfaDeterminizes", fn := fun _ => fun
  | [d1, d2] => { results := [.lit (.bool false)], args := [d1, d2] }
  | _ => none }
def DfaDeterminizesWrongFalsely : Prop := dfaDeterminizesRow.holds Try.pinned (OpenSpec.ofChange dfaDeterminizesWrong)

/- THE SECOND FORM. 'bulk': how many values and letters a reading holds, each counted each time it is reached (what is shared counts as often as it is met; a slice's spare places count too). A statement '..UptoSaid' is the law's where the arguments, and the package variables that the reading takes, are together of bulk at most 1048576: NARROWER than '..Said'. Prove '..Said' where nothing that the law and all that it calls make is longer than what came in: it says more and counts as full. Else prove '..UptoSaid'. A law counts once. -/
mutual
def uptoBulk {H : Type} : DataW H → Nat
  | .lit (.string bytes) => bytes.length + 1
  | .lit _ => 1
  | .nil => 1
  | .ptr d => uptoBulk d + 1
  | .slice elems spare => uptoBulkAll elems + uptoBulkAll spare + 1
  | .agg parts => uptoBulkAll parts + 1
  | .iface _ d => uptoBulk d + 1
  | .map entries => uptoBulkEntries entries + 1
  | .held _ => 1
def uptoBulkAll {H : Type} : List (DataW H) → Nat
  | [] => 0
  | d :: r => uptoBulk d + uptoBulkAll r
def uptoBulkEntries {H : Type} : List (Lit × DataW H) → Nat
  | [] => 0
  | x :: r => uptoBulkEntry x + uptoBulkEntries r
def uptoBulkEntry {H : Type} : Lit × DataW H → Nat
  | (.string bytes, d) => bytes.length + uptoBulk d + 1
  | (_, d) => uptoBulk d + 1
 end
def uptoSmall : (H : Type) → List (DataW H) → Bool := fun _ ds => decide (uptoBulkAll ds ≤ 1048576)
def OpenSpec.upto (s : _root_.Go.ChangeSpec) : _root_.Go.OpenSpec := { _root_.Go.OpenSpec.ofChange s with cond := some uptoSmall }

/-- 'semigrouplaw07.DfaValidates', WHERE WHAT IT READS IS OF BULK AT MOST 1048576: true; the input reads as it did. -/
def dfaValidatesUptoRow : OpenClaim := { program := "ytohoiebofkmjeaa", sum := "98b92af908aa9a8adfe3b404d62e48c05d2d27f990fca1cecb85c204801d1170", func := "semigroup/semigrouplaw07.DfaValidates", spec := "dfaValidates", recurses := true, apart := false, narrowed := true }
def DfaValidatesUptoSaid : Prop := dfaValidatesUptoRow.holds Try.pinned (OpenSpec.upto dfaValidatesSpec)

/-- 'semigrouplaw07.DfaRuns', WHERE WHAT IT READS IS OF BULK AT MOST 1048576: true; the input reads as it did. -/
def dfaRunsUptoRow : OpenClaim := { program := "ytohoiebofkmjeaa", sum := "98b92af908aa9a8adfe3b404d62e48c05d2d27f990fca1cecb85c204801d1170", func := "semigroup/semigrouplaw07.DfaRuns", spec := "dfaRuns", recurses := true, apart := false, narrowed := true }
def DfaRunsUptoSaid : Prop := dfaRunsUptoRow.holds Try.pinned (OpenSpec.upto dfaRunsSpec)

/-- 'semigrouplaw07.DfaTrims', WHERE WHAT IT READS IS OF BULK AT MOST 1048576: true; the input reads as it did. -/
def dfaTrimsUptoRow : OpenClaim := { program := "ytohoiebofkmjeaa", sum := "98b92af908aa9a8adfe3b404d62e48c05d2d27f990fca1cecb85c204801d1170", func := "semigroup/semigrouplaw07.DfaTrims", spec := "dfaTrims", unfollowed := true, recurses := true, apart := false, narrowed := true }
def DfaTrimsUptoSaid : Prop := dfaTrimsUptoRow.holds Try.pinned (OpenSpec.upto dfaTrimsSpec)

/-- 'semigrouplaw07.DfaReaches', WHERE WHAT IT READS IS OF BULK AT MOST 1048576: true; the input reads as it did. -/
def dfaReachesUptoRow : OpenClaim := { program := "ytohoiebofkmjeaa", sum := "98b92af908aa9a8adfe3b404d62e48c05d2d27f990fca1cecb85c204801d1170", func := "semigroup/semigrouplaw07.DfaReaches", spec := "dfaReaches", unfollowed := true, recurses := true, apart := false, narrowed := true }
def DfaReachesUptoSaid : Prop := dfaReachesUptoRow.holds Try.pinned (OpenSpec.upto dfaReachesSpec)

/-- 'semigrouplaw07.DfaSubsets', WHERE WHAT IT READS IS OF BULK AT MOST 1048576: true; the input reads as it did. -/
def dfaSubsetsUptoRow : OpenClaim := { program := "ytohoiebofkmjeaa", sum := "98b92af908aa9a8adfe3b404d62e48c05d2d27f990fca1cecb85c204801d1170", func := "semigroup/semigrouplaw07.DfaSubsets", spec := "dfaSubsets", unfollowed := true, recurses := true, apart := false, narrowed := true }
def DfaSubsetsUptoSaid : Prop := dfaSubsetsUptoRow.holds Try.pinned (OpenSpec.upto dfaSubsetsSpec)

/-- 'semigrouplaw07.DfaDeterminizes', WHERE WHAT IT READS IS OF BULK AT MOST 1048576: true; the input reads as it did. -/
def dfaDeterminizesUptoRow : OpenClaim := { program := "ytohoiebofkmjeaa", sum := "98b92af908aa9a8adfe3b404d62e48c05d2d27f990fca1cecb85c204801d1170", func := "semigroup/semigrouplaw07.DfaDeterminizes", spec := "dfaDeterminizes", unfollowed := true, recurses := true, apart := false, narrowed := true }
def DfaDeterminizesUptoSaid : Prop := dfaDeterminizesUptoRow.holds Try.pinned (OpenSpec.upto dfaDeterminizesSpec)

end Rows
end Go.Proofs.Ytohoiebofkmjeaa
