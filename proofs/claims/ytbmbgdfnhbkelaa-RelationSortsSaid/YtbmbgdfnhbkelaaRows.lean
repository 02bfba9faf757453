/-
  No cell of these rows narrows 'for every input' (looked for: loops, veiled, ifaces, maps, wideKeys, modest, calm, conditions, laid).
  DERIVED. THE GIVEN ROWS OF THIS SEAT. 10 by the template 'for every input the law returns true; each argument reads behind the call as it read before'; 0 by the template 'total and deterministic' (their statements: YtbmbgdfnhbkelaaTotals.lean).
  GIVEN WITH THE SEED: the statements are not yours to turn. If you find one false, say at which input.
  Laid BY PROGRAM, IN A SANDBOX (cutbox-rows.mjs): the forced cells as the released guide's own fill.sh prints them over the translation 17fb79bb40afac53… (all of the seat's roots in one cut). By AI agents, Wed Nov 11 2026. No macro, syntax, notation, axiom, sorry.
-/
import Derived.Test.YtbmbgdfnhbkelaaChecked
import GoSem.Claim
import GoSem.ClaimJoined
import GoSem.ClaimMapViews
import Derived.JoinedTies
import Derived.KernelRfl
namespace Go.Proofs.Ytbmbgdfnhbkelaa
/- THE CELL 'sum', in the pinned program and in every row, IS THE sha256 OF THE DUMP (.gsa) THAT YtbmbgdfnhbkelaaProg.lean LOADS. Nothing in Lean hashes anything: it is a label: what it is worth is what the hold of that sum in a sandbox is worth. -/
noncomputable def Try.pinned : Pinned := { name := "ytbmbgdfnhbkelaa", sum := "17fb79bb40afac53b59ba2850f6e8609d0785b71230d3b4acb7372c5446093bf", checked := Try.checked }
namespace Rows
def none {H : Type} : Left H := { results := [], args := [] }

/-- 'semigrouplaw02.RelationValid': WHATEVER THE INPUT: true; the input reads as it did. -/
def relationValidSpec : ChangeSpec := { name := "relationValid", fn := fun _ => fun
  | [d1, d2] => { results := [.lit (.bool true)], args := [d1, d2] }
  | _ => none }
def relationValidRow : OpenClaim := { program := "ytbmbgdfnhbkelaa", sum := "17fb79bb40afac53b59ba2850f6e8609d0785b71230d3b4acb7372c5446093bf", func := "semigroup/semigrouplaw02.RelationValid", spec := "relationValid", apart := false }
def RelationValidSaid : Prop := relationValidRow.holds Try.pinned (OpenSpec.ofChange relationValidSpec)

/-- ITS FALSE NEIGHBOUR: 'it returns false'. Refute it at one input. -/
def relationValidWrong : ChangeSpec := { name := "relationValid", fn := fun _ => fun
  | [d1, d2] => { results := [.lit (.bool false)], args := [d1, d2] }
  | _ => none }
def RelationValidWrongFalsely : Prop := relationValidRow.holds Try.pinned (OpenSpec.ofChange relationValidWrong)

/-- 'semigrouplaw02.RelationComposes': WHATEVER THE INPUT: true; the input reads as it did. -/
def relationComposesSpec : ChangeSpec := { name := "relationComposes", fn := fun _ => fun
  | [d1, d2] => { results := [.lit (.bool true)], args := [d1, d2] }
  | _ => none }
def relationComposesRow : OpenClaim := { program := "ytbmbgdfnhbkelaa", sum := "17fb79bb40afac53b59ba2850f6e8609d0785b71230d3b4acb7372c5446093bf", func := "semigroup/semigrouplaw02.RelationComposes", spec := "relationComposes", apart := false }
def RelationComposesSaid : Prop := relationComposesRow.holds Try.pinned (OpenSpec.ofChange relationComposesSpec)

/-- ITS FALSE NEIGHBOUR: 'it returns false'. Refute it at one input. -/
def relationComposesWrong : ChangeSpec := { name := "relationComposes", fn := fun _ => fun
  | [d1, d2] => { results := [.lit (.bool false)], args := [d1, d2] }
  | _ => none }
def RelationComposesWrongFalsely : Prop := relationComposesRow.holds Try.pinned (OpenSpec.ofChange relationComposesWrong)

/-- 'semigrouplaw02.RelationAssociates': WHATEVER THE INPUT: true; the input reads as it did. -/
def relationAssociatesSpec : ChangeSpec := { name := "relationAssociates", fn := fun _ => fun
  | [d1, d2, d3] => { results := [.lit (.bool true)], args := [d1, d2, d3] }
  | _ => none }
def relationAssociatesRow : OpenClaim := { program := "ytbmbgdfnhbkelaa", sum := "17fb79bb40afac53b59ba2850f6e8609d0785b71230d3b4acb7372c5446093bf", func := "semigroup/semigrouplaw02.RelationAssociates", spec := "relationAssociates", apart := false }
def RelationAssociatesSaid : Prop := relationAssociatesRow.holds Try.pinned (OpenSpec.ofChange relationAssociatesSpec)

/-- ITS FALSE NEIGHBOUR: 'it returns false'. Refute it at one input. -/
def relationAssociatesWrong : ChangeSpec := { name := "relationAssociates", fn := fun _ => fun
  | [d1, d2, d3] => { results := [.lit (.bool false)], args := [d1, d2, d3] }
  | _ => none }
def RelationAssociatesWrongFalsely : Prop := relationAssociatesRow.holds Try.pinned (OpenSpec.ofChange relationAssociatesWrong)

/-- 'semigrouplaw02.RelationCombines': WHATEVER THE INPUT: true; the input reads as it did. -/
def relationCombinesSpec : ChangeSpec := { name := "relationCombines", fn := fun _ => fun
  | [d1, d2] => { results := [.lit (.bool true)], args := [d1, d2] }
  | _ => none }
def relationCombinesRow : OpenClaim := { program := "ytbmbgdfnhbkelaa", sum := "17fb79bb40afac53b59ba2850f6e8609d0785b71230d3b4acb7372c5446093bf", func := "semigroup/semigrouplaw02.RelationCombines", spec := "relationCombines", apart := false }
def RelationCombinesSaid : Prop := relationCombinesRow.holds Try.pinned (OpenSpec.ofChange relationCombinesSpec)

/-- ITS FALSE NEIGHBOUR: 'it returns false'. Refute it at one input. -/
def relationCombinesWrong : ChangeSpec := { name := "relationCombines", fn := fun _ => fun
  | [d1, d2] => { results := [.lit (.bool false)], args := [d1, d2] }
  | _ => none }
def RelationCombinesWrongFalsely : Prop := relationCombinesRow.holds Try.pinned (OpenSpec.ofChange relationCombinesWrong)

/-- 'semigrouplaw02.RelationDistributes': WHATEVER THE INPUT: true; the input reads as it did. -/
def relationDistributesSpec : ChangeSpec := { name := "relationDistributes", fn := fun _ => fun
  | [d1, d2, d3] => { results := [.lit (.bool true)], args := [d1, d2, d3] }
  | _ => none }
def relationDistributesRow : OpenClaim := { program := "ytbmbgdfnhbkelaa", sum := "17fb79bb40afac53b59ba2850f6e8609d0785b71230d3b4acb7372c5446093bf", func := "semigroup/semigrouplaw02.RelationDistributes", spec := "relationDistributes", apart := false }
def RelationDistributesSaid : Prop := relationDistributesRow.holds Try.pinned (OpenSpec.ofChange relationDistributesSpec)

/-- ITS FALSE NEIGHBOUR: 'it returns false'. Refute it at one input. -/
def relationDistributesWrong : ChangeSpec := { name := "relationDistributes", fn := fun _ => fun
  | [d1, d2, d3] => { results := [.lit (.bool false)], args := [d1, d2, d3] }
  | _ => none }
def RelationDistributesWrongFalsely : Prop := relationDistributesRow.holds Try.pinned (OpenSpec.ofChange relationDistributesWrong)

/-- 'semigrouplaw02.RelationCloses': WHATEVER THE INPUT: true; the input reads as it did. -/
def relationClosesSpec : ChangeSpec := { name := "relationCloses", fn := fun _ => fun
  | [d] => { results := [.lit (.bool true)], args := [d] }
  | _ => none }
def relationClosesRow : OpenClaim := { program := "ytbmbgdfnhbkelaa", sum := "17fb79bb40afac53b59ba2850f6e8609d0785b71230d3b4acb7372c5446093bf", func := "semigroup/semigrouplaw02.RelationCloses", spec := "relationCloses", apart := false }
def RelationClosesSaid : Prop := relationClosesRow.holds Try.pinned (OpenSpec.ofChange relationClosesSpec)

/-- ITS FALSE NEIGHBOUR: 'it returns false'. Refute it at one input. -/
def relationClosesWrong : ChangeSpec := { name := "relationCloses", fn := fun _ => fun
  | [d] => { results := [.lit (.bool false)], args := [d] }
  | _ => none }
def RelationClosesWrongFalsely : Prop := relationClosesRow.holds Try.pinned (OpenSpec.ofChange relationClosesWrong)

/-- 'semigrouplaw02.RelationLeast': WHATEVER THE INPUT: true; the input reads as it did. -/
def relationLeastSpec : ChangeSpec := { name := "relationLeast", fn := fun _ => fun
  | [d1, d2] => { results := [.lit (.bool true)], args := [d1, d2] }
  | _ => none }
def relationLeastRow : OpenClaim := { program := "ytbmbgdfnhbkelaa", sum := "17fb79bb40afac53b59ba2850f6e8609d0785b71230d3b4acb7372c5446093bf", func := "semigroup/semigrouplaw02.RelationLeast", spec := "relationLeast", apart := false }
def RelationLeastSaid : Prop := relationLeastRow.holds Try.pinned (OpenSpec.ofChange relationLeastSpec)

/-- ITS FALSE NEIGHBOUR: 'it returns false'. Refute it at one input. -/
def relationLeastWrong : ChangeSpec := { name := "relationLeast", fn := fun _ => fun
  | [d1, d2] => { results := [.lit (.bool false)], args := [d1, d2] }
  | _ => none }
def RelationLeastWrongFalsely : Prop := relationLeastRow.holds Try.pinned (OpenSpec.ofChange relationLeastWrong)

/-- 'semigrouplaw02.RelationImages': WHATEVER THE INPUT: true; the input reads as it did. -/
def relationImagesSpec : ChangeSpec := { name := "relationImages", fn := fun _ => fun
  | [d1, d2] => { results := [.lit (.bool true)], args := [d1, d2] }
  | _ => none }
def relationImagesRow : OpenClaim := { program := "ytbmbgdfnhbkelaa", sum := "17fb79bb40afac53b59ba2850f6e8609d0785b71230d3b4acb7372c5446093bf", func := "semigroup/semigrouplaw02.RelationImages", spec := "relationImages", apart := false }
def RelationImagesSaid : Prop := relationImagesRow.holds Try.pinned (OpenSpec.ofChange relationImagesSpec)

/-- ITS FALSE NEIGHBOUR: 'it returns false'. Refute it at one input. -/
def relationImagesWrong : ChangeSpec := { name := "relationImages", fn := fun _ => fun
  | [d1, d2] => { results := [.lit (.bool false)], args := [d1, d2] }
  | _ => none }
def RelationImagesWrongFalsely : Prop := relationImagesRow.holds Try.pinned (OpenSpec.ofChange relationImagesWrong)

/-- 'semigrouplaw02.RelationSteps': WHATEVER THE INPUT: true; the input reads as it did. -/
def relationStepsSpec : ChangeSpec := { name := "relationSteps", fn := fun _ => fun
  | [d1, d2, d3, d4] => { results := [.lit (.bool true)], args := [d1, d2, d3, d4] }
  | _ => none }
def relationStepsRow : OpenClaim := { program := "ytbmbgdfnhbkelaa", sum := "17fb79bb40afac53b59ba2850f6e8609d0785b71230d3b4acb7372c5446093bf", func := "semigroup/semigrouplaw02.RelationSteps", spec := "relationSteps", apart := false }
def RelationStepsSaid : Prop := relationStepsRow.holds Try.pinned (OpenSpec.ofChange relationStepsSpec)

/-- ITS FALSE NEIGHBOUR: 'it returns false'. Refute it at one input. -/
def relationStepsWrong : ChangeSpec := { name := "relationSteps", fn := fun _ => fun
  | [d1, d2, d3, d4] => { results := [.lit (.bool false)], args := [d1, d2, d3, d4] }
  | _ => none }
def RelationStepsWrongFalsely : Prop := relationStepsRow.holds Try.pinned (OpenSpec.ofChange relationStepsWrong)

/-- 'semigrouplaw02.RelationSorts': WHATEVER THE INPUT: true; the input reads as it did. -/
def relationSortsSpec : ChangeSpec := { name := "relationSorts", fn := fun _ => fun
  | [d] => { results := [.lit (.bool true)], args := [d] }
  | _ => none }
def relationSortsRow : OpenClaim := { program := "ytbmbgdfnhbkelaa", sum := "17fb79bb40afac53b59ba2850f6e8609d0785b71230d3b4acb7372c5446093bf", func := "semigroup/semigrouplaw02.RelationSorts", spec := "relationSorts", apart := false }
def RelationSortsSaid : Prop := relationSortsRow.holds Try.pinned (OpenSpec.ofChange relationSortsSpec)

/-- ITS FALSE NEIGHBOUR: 'it returns false'. Refute it at one input. -/
def relationSortsWrong : ChangeSpec := { name := "relationSorts", fn := fun _ => fun
  | [d] => { results := [.lit (.bool false)], args := [d] }
  | _ => none }
def RelationSortsWrongFalsely : Prop := relationSortsRow.holds Try.pinned (OpenSpec.ofChange relationSortsWrong)

/- THE SECOND FORM. 'bulk': how many values and letters a reading holds, each counted each time it is reached (what is shared counts as often as it is met; a slice's spare places count too). A statement '..UptoSaid' is the law's where the arguments, and the package variables that the reading takes, are together of bulk at most 1048576: NARROWER than '..Said'. Prove '..Said' where nothing that the law and all that it calls make is longer than what came in: it says more and counts as full. Else prove '..UptoSaid'. A law counts once. -/
mutual
def uptoBulk {H : Type} : DataW H → Nat
  | .lit (.string bytes) => bytes.length + 1
  | .lit _ => 1
  | .nil => 1
  | .ptr d => uptoBulk d + 1
  | .slice elems spare => uptoBulkAll elems + uptoBulkAll spare + 1
  | .agg parts => uptoBulkAll parts + 1
  | .iface _ d => uptoBulk d + 1
  | .map entries => uptoBulkEntries entries + 1
  | .held _ => 1
def uptoBulkAll {H : Type} : List (DataW H) → Nat
  | [] => 0
  | d :: r => uptoBulk d + uptoBulkAll r
def uptoBulkEntries {H : Type} : List (Lit × DataW H) → Nat
  | [] => 0
  | x :: r => uptoBulkEntry x + uptoBulkEntries r
def uptoBulkEntry {H : Type} : Lit × DataW H → Nat
  | (.string bytes, d) => bytes.length + uptoBulk d + 1
  | (_, d) => uptoBulk d + 1
 end
def uptoSmall : (H : Type) → List (DataW H) → Bool := fun _ ds => decide (uptoBulkAll ds ≤ 1048576)
def OpenSpec.upto (s : _root_.Go.ChangeSpec) : _root_.Go.OpenSpec := { _root_.Go.OpenSpec.ofChange s with cond := some uptoSmall }

/-- 'semigrouplaw02.RelationValid', WHERE WHAT IT READS IS OF BULK AT MOST 1048576: true; the input reads as it did. -/
def relationValidUptoRow : OpenClaim := { program := "ytbmbgdfnhbkelaa", sum := "17fb79bb40afac53b59ba2850f6e8609d0785b71230d3b4acb7372c5446093bf", func := "semigroup/semigrouplaw02.RelationValid", spec := "relationValid", apart := false, narrowed := true }
def RelationValidUptoSaid : Prop := relationValidUptoRow.holds Try.pinned (OpenSpec.upto relationValidSpec)

/-- 'semigrouplaw02.RelationComposes', WHERE WHAT IT READS IS OF BULK AT MOST 1048576: true; the input reads as it did. -/
def relationComposesUptoRow : OpenClaim := { program := "ytbmbgdfnhbkelaa", sum := "17fb79bb40afac53b59ba2850f6e8609d0785b71230d3b4acb7372c5446093bf", func := "semigroup/semigrouplaw02.RelationComposes", spec := "relationComposes", apart := false, narrowed := true }
def RelationComposesUptoSaid : Prop := relationComposesUptoRow.holds Try.pinned (OpenSpec.upto relationComposesSpec)

/-- 'semigrouplaw02.RelationAssociates', WHERE WHAT IT READS IS OF BULK AT MOST 1048576: true; the input reads as it did. -/
def relationAssociatesUptoRow : OpenClaim := { program := "ytbmbgdfnhbkelaa", sum := "17fb79bb40afac53b59ba2850f6e8609d0785b71230d3b4acb7372c5446093bf", func := "semigroup/semigrouplaw02.RelationAssociates", spec := "relationAssociates", apart := false, narrowed := true }
def RelationAssociatesUptoSaid : Prop := relationAssociatesUptoRow.holds Try.pinned (OpenSpec.upto relationAssociatesSpec)

/-- 'semigrouplaw02.RelationCombines', WHERE WHAT IT READS IS OF BULK AT MOST 1048576: true; the input reads as it did. -/
def relationCombinesUptoRow : OpenClaim := { program := "ytbmbgdfnhbkelaa", sum := "17fb79bb40afac53b59ba2850f6e8609d0785b71230d3b4acb7372c5446093bf", func := "semigroup/semigrouplaw02.RelationCombines", spec := "relationCombines", apart := false, narrowed := true }
def RelationCombinesUptoSaid : Prop := relationCombinesUptoRow.holds Try.pinned (OpenSpec.upto relationCombinesSpec)

/-- 'semigrouplaw02.RelationDistributes', WHERE WHAT IT READS IS OF BULK AT MOST 1048576: true; the input reads as it did. -/
def relationDistributesUptoRow : OpenClaim := { program := "ytbmbgdfnhbkelaa", sum := "17fb79bb40afac53b59ba2850f6e8609d0785b71230d3b4acb7372c5446093bf", func := "semigroup/semigrouplaw02.RelationDistributes", spec := "relationDistributes", apart := false, narrowed := true }
def RelationDistributesUptoSaid : Prop := relationDistributesUptoRow.holds Try.pinned (OpenSpec.upto relationDistributesSpec)

/-- 'semigrouplaw02.RelationCloses', WHERE WHAT IT READS IS OF BULK AT MOST 1048576: true; the input reads as it did. -/
def relationClosesUptoRow : OpenClaim := { program := "ytbmbgdfnhbkelaa", sum := "17fb79bb40afac53b59ba2850f6e8609d0785b71230d3b4acb7372c5446093bf", func := "semigroup/semigrouplaw02.RelationCloses", spec := "relationCloses", apart := false, narrowed := true }
def RelationClosesUptoSaid : Prop := relationClosesUptoRow.holds Try.pinned (OpenSpec.upto relationClosesSpec)

/-- 'semigrouplaw02.RelationLeast', WHERE WHAT IT READS IS OF BULK AT MOST 1048576: true; the input reads as it did. -/
def relationLeastUptoRow : OpenClaim := { program := "ytbmbgdfnhbkelaa", sum := "17fb79bb40afac53b59ba2850f6e8609d0785b71230d3b4acb7372c5446093bf", func := "semigroup/semigrouplaw02.RelationLeast", spec := "relationLeast", apart := false, narrowed := true }
def RelationLeastUptoSaid : Prop := relationLeastUptoRow.holds Try.pinned (OpenSpec.upto relationLeastSpec)

/-- 'semigrouplaw02.RelationImages', WHERE WHAT IT READS IS OF BULK AT MOST 1048576: true; the input reads as it did. -/
def relationImagesUptoRow : OpenClaim := { program := "ytbmbgdfnhbkelaa", sum := "17fb79bb40afac53b59ba2850f6e8609d0785b71230d3b4acb7372c5446093bf", func := "semigroup/semigrouplaw02.RelationImages", spec := "relationImages", apart := false, narrowed := true }
def RelationImagesUptoSaid : Prop := relationImagesUptoRow.holds Try.pinned (OpenSpec.upto relationImagesSpec)

/-- 'semigrouplaw02.RelationSteps', WHERE WHAT IT READS IS OF BULK AT MOST 1048576: true; the input reads as it did. -/
def relationStepsUptoRow : OpenClaim := { program := "ytbmbgdfnhbkelaa", sum := "17fb79bb40afac53b59ba2850f6e8609d0785b71230d3b4acb7372c5446093bf", func := "semigroup/semigrouplaw02.RelationSteps", spec := "relationSteps", apart := false, narrowed := true }
def RelationStepsUptoSaid : Prop := relationStepsUptoRow.holds Try.pinned (OpenSpec.upto relationStepsSpec)

/-- 'semigrouplaw02.RelationSorts', WHERE WHAT IT READS IS OF BULK AT MOST 1048576: true; the input reads as it did. -/
def relationSortsUptoRow : OpenClaim := { program := "ytbmbgdfnhbkelaa", sum := "17fb79bb40afac53b59ba2850f6e8609d0785b71230d3b4acb7372c5446093bf", func := "semigroup/semigrouplaw02.RelationSorts", spec := "relationSorts", apart := false, narrowed := true }
def RelationSortsUptoSaid : Prop := relationSortsUptoRow.holds Try.pinned (OpenSpec.upto relationSortsSpec)

end Rows
end Go.Proofs.Ytbmbgdfnhbkelaa
