/-
  No cell of these rows narrows 'for every input' (looked for: loops, veiled, ifaces, maps, wideKeys, modest, calm, conditions, laid).
  DERIVED. THE GIVEN ROWS OF THIS SEAT. 3 by the template 'for every input the law returns true; each argument reads behind the call as it read before'; 0 by the template 'total and deterministic' (their statements: YtohoiebofkmjeacTotals.lean).
  GIVEN WITH THE SEED: the statements are not yours to turn. If you find one false, say at which input.
  Laid BY PROGRAM, IN A SANDBOX (cutbox-rows.mjs): the forced cells as the released guide's own fill.sh prints them over the translation 26856b5d8919f625… (all of the seat's roots in one cut). By AI agents, Wed Nov 11 2026. No macro, syntax, notation, axiom, sorry.
-/
import Derived.Test.YtohoiebofkmjeacChecked
import GoSem.Claim
import GoSem.ClaimJoined
import GoSem.ClaimMapViews
import Derived.JoinedTies
import Derived.KernelRfl
namespace Go.Proofs.Ytohoiebofkmjeac
/- THE CELL 'sum', in the pinned program and in every row, IS THE sha256 OF THE DUMP (.gsa) THAT YtohoiebofkmjeacProg.lean LOADS. Nothing in Lean hashes anything: it is a label: what it is worth is what the hold of that sum in a sandbox is worth. -/
noncomputable def Try.pinned : Pinned := { name := "ytohoiebofkmjeac", sum := "26856b5d8919f6251ac686ac6e3cdb10b5413896ab9122d1f83074c6067edb9b", checked := Try.checked }
namespace Rows
def none {H : Type} : Left H := { results := [], args := [] }

/-- 'semigrouplaw07.DfaEnumerates': WHATEVER THE INPUT: true; the input reads as it did. -/
def dfaEnumeratesSpec : ChangeSpec := { name := "dfaEnumerates", fn := fun _ => fun
  | [d1, d2] => { results := [.lit (.bool true)], args := [d1, d2] }
  | _ => none }
def dfaEnumeratesRow : OpenClaim := { program := "ytohoiebofkmjeac", sum := "26856b5d8919f6251ac686ac6e3cdb10b5413896ab9122d1f83074c6067edb9b", func := "semigroup/semigrouplaw07.DfaEnumerates", spec := "dfaEnumerates", recurses := true, apart := false }
def DfaEnumeratesSaid : Prop := dfaEnumeratesRow.holds Try.pinned (OpenSpec.ofChange dfaEnumeratesSpec)

/-- ITS FALSE NEIGHBOUR: 'it returns false'. Refute it at one input. -/
def dfaEnumeratesWrong : ChangeSpec := { name := "dfaEnumerates", fn := fun _ => fun
  | [d1, d2] => { results := [.lit (.bool false)], args := [d1, d2] }
  | _ => none }
def DfaEnumeratesWrongFalsely : Prop := dfaEnumeratesRow.holds Try.pinned (OpenSpec.ofChange dfaEnumeratesWrong)

/-- 'semigrouplaw07.DfaInfinite': WHATEVER THE INPUT: true; the input reads as it did. -/
def dfaInfiniteSpec : ChangeSpec := { name := "dfaInfinite", fn := fun _ => fun
  | [d] => { results := [.lit (.bool true)], args := [d] }
  | _ => none }
def dfaInfiniteRow : OpenClaim := { program := "ytohoiebofkmjeac", sum := "26856b5d8919f6251ac686ac6e3cdb10b5413896ab9122d1f83074c6067edb9b", func := "semigroup/semigrouplaw07.DfaInfinite", spec := "dfaInfinite", recurses := true, apart := false }
def DfaInfiniteSaid : Prop := dfaInfiniteRow.holds Try.pinned (OpenSpec.ofChange dfaInfiniteSpec)

/-- ITS FALSE NEIGHBOUR: 'it returns false'. Refute it at one input. -/
def dfaInfiniteWrong : ChangeSpec := { name := "dfaInfinite", fn := fun _ => fun
  | [d] => { results := [.lit (.bool false)], args := [d] }
  | _ => none }
def DfaInfiniteWrongFalsely : Prop := dfaInfiniteRow.holds Try.pinned (OpenSpec.ofChange dfaInfiniteWrong)

/-- 'semigrouplaw07.DfaConverts': WHATEVER THE INPUT: true; the input reads as it did. -/
def dfaConvertsSpec : ChangeSpec := { name := "dfaConverts", fn := fun _ => fun
  | [d] => { results := [.lit (.bool true)], args := [d] }
  | _ => none }
def dfaConvertsRow : OpenClaim := { program := "ytohoiebofkmjeac", sum := "26856b5d8919f6251ac686ac6e3cdb10b5413896ab9122d1f83074c6067edb9b", func := "semigroup/semigrouplaw07.DfaConverts", spec := "dfaConverts", unfollowed := true, recurses := true, apart := false }
def DfaConvertsSaid : Prop := dfaConvertsRow.holds Try.pinned (OpenSpec.ofChange dfaConvertsSpec)

/-- ITS FALSE NEIGHBOUR: 'it returns false'. Refute it at one input. -/
def dfaConvertsWrong : ChangeSpec := { name := "dfaConverts", fn := fun _ => fun
  | [d] => { results := [.lit (.bool false)], args := [d] }
  | _ => none }
def DfaConvertsWrongFalsely : Prop := dfaConvertsRow.holds Try.pinned (OpenSpec.ofChange dfaConvertsWrong)

/- THE SECOND FORM. 'bulk': how many values and letters a reading holds, each counted each time it is reached (what is shared counts as often as it is met; a slice's spare places count too). A statement '..UptoSaid' is the law's where the arguments, and the package variables that the reading takes, are together of bulk at most 1048576: NARROWER than '..Said'. Prove '..Said' where nothing that the law and all that it calls make is longer than what came in: it says more and counts as full. Else prove '..UptoSaid'. A law counts once. -/
mutual
def uptoBulk {H : Type} : DataW H → Nat
  | .lit (.string bytes) => bytes.length + 1
  | .lit _ => 1
  | .nil => 1
  | .ptr d => uptoBulk d + 1
  | .slice elems spare => uptoBulkAll elems + uptoBulkAll spare + 1
  | .agg parts => uptoBulkAll parts + 1
  | .iface _ d => uptoBulk d + 1
  | .map entries => uptoBulkEntries entries + 1
  | .held _ => 1
def uptoBulkAll {H : Type} : List (DataW H) → Nat
  | [] => 0
  | d :: r => uptoBulk d + uptoBulkAll r
def uptoBulkEntries {H : Type} : List (Lit × DataW H) → Nat
  | [] => 0
  | x :: r => uptoBulkEntry x + uptoBulkEntries r
def uptoBulkEntry {H : Type} : Lit × DataW H → Nat
  | (.string bytes, d) => bytes.length + uptoBulk d + 1
  | (_, d) => uptoBulk d + 1
 end
def uptoSmall : (H : Type) → List (DataW H) → Bool := fun _ ds => decide (uptoBulkAll ds ≤ 1048576)
def OpenSpec.upto (s : _root_.Go.ChangeSpec) : _root_.Go.OpenSpec := { _root_.Go.OpenSpec.ofChange s with cond := some uptoSmall }

/-- 'semigrouplaw07.DfaEnumerates', WHERE WHAT IT READS IS OF BULK AT MOST 1048576: true; the input reads as it did. -/
def dfaEnumeratesUptoRow : OpenClaim := { program := "ytohoiebofkmjeac", sum := "26856b5d8919f6251ac686ac6e3cdb10b5413896ab9122d1f83074c6067edb9b", func := "semigroup/semigrouplaw07.DfaEnumerates", spec := "dfaEnumerates", recurses := true, apart := false, narrowed := true }
def DfaEnumeratesUptoSaid : Prop := dfaEnumeratesUptoRow.holds Try.pinned (OpenSpec.upto dfaEnumeratesSpec)

/-- 'semigrouplaw07.DfaInfinite', WHERE WHAT IT READS IS OF BULK AT MOST 1048576: true; the input reads as it did. -/
def dfaInfiniteUptoRow : OpenClaim := { program := "ytohoiebofkmjeac", sum := "26856b5d8919f6251ac686ac6e3cdb10b5413896ab9122d1f83074c6067edb9b", func := "semigroup/semigrouplaw07.DfaInfinite", spec := "dfaInfinite", recurses := true, apart := false, narrowed := true }
def DfaInfiniteUptoSaid : Prop := dfaInfiniteUptoRow.holds Try.pinned (OpenSpec.upto dfaInfiniteSpec)

/-- 'semigrouplaw07.DfaConverts', WHERE WHAT IT READS IS OF BULK AT MOST 1048576: true; the input reads as it did. -/
def dfaConvertsUptoRow : OpenClaim := { program := "ytohoiebofkmjeac", sum := "26856b5d8919f6251ac686ac6e3cdb10b5413896ab9122d1f83074c6067edb9b", func := "semigroup/semigrouplaw07.DfaConverts", spec := "dfaConverts", unfollowed := true, recurses := true, apart := false, narrowed := true }
def DfaConvertsUptoSaid : Prop := dfaConvertsUptoRow.holds Try.pinned (OpenSpec.upto dfaConvertsSpec)

end Rows
end Go.Proofs.Ytohoiebofkmjeac
