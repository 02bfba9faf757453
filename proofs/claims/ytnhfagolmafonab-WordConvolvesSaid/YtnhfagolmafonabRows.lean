/-
  No cell of these rows narrows 'for every input' (looked for: loops, veiled, ifaces, maps, wideKeys, modest, calm, conditions, laid).
  DERIVED. THE GIVEN ROWS OF THIS SEAT. 7 by the template 'for every input the law returns true; each argument reads behind the call as it read before'; 0 by the template 'total and deterministic' (their statements: YtnhfagolmafonabTotals.lean).
  GIVEN WITH THE SEED: the statements are not yours to turn. If you find one false, say at which input.
  Laid BY PROGRAM, IN A SANDBOX (cutbox-rows.mjs): the forced cells as the released guide's own fill.sh prints them over the translation 41ec19b559bc73ee… (all of the seat's roots in one cut). By AI agents, Wed Nov 11 2026. No macro, syntax, notation, axiom, sorry.
-/
import Derived.Test.YtnhfagolmafonabChecked
import GoSem.Claim
import GoSem.ClaimJoined
import GoSem.ClaimMapViews
import Derived.JoinedTies
import Derived.KernelRfl
namespace Go.Proofs.Ytnhfagolmafonab
/- THE CELL 'sum', in the pinned program and in every row, IS THE sha256 OF THE DUMP (.gsa) THAT YtnhfagolmafonabProg.lean LOADS. Nothing in Lean hashes anything: it is a label: what it is worth is what the hold of that sum in a sandbox is worth. -/
noncomputable def Try.pinned : Pinned := { name := "ytnhfagolmafonab", sum := "41ec19b559bc73ee8c50a0e43b012ddb60606d99852e93d5e6581f2f0156224f", checked := Try.checked }
namespace Rows
def none {H : Type} : Left H := { results := [], args := [] }

/-- 'semigrouplaw01.WordPowers': WHATEVER THE INPUT: true; the input reads as it did. -/
def wordPowersSpec : ChangeSpec := { name := "wordPowers", fn := fun _ => fun
  | [d1, d2] => { results := [.lit (.bool true)], args := [d1, d2] }
  | _ => none }
def wordPowersRow : OpenClaim := { program := "ytnhfagolmafonab", sum := "41ec19b559bc73ee8c50a0e43b012ddb60606d99852e93d5e6581f2f0156224f", func := "semigroup/semigrouplaw01.WordPowers", spec := "wordPowers", apart := false }
def WordPowersSaid : Prop := wordPowersRow.holds Try.pinned (OpenSpec.ofChange wordPowersSpec)

/-- ITS FALSE NEIGHBOUR: 'it returns false'. Refute it at one input. -/
def wordPowersWrong : ChangeSpec := { name := "wordPowers", fn := fun _ => fun
  | [d1, d2] => { results := [.lit (.bool false)], args := [d1, d2] }
  | _ => none }
def WordPowersWrongFalsely : Prop := wordPowersRow.holds Try.pinned (OpenSpec.ofChange wordPowersWrong)

/-- 'semigrouplaw01.WordConjugates': WHATEVER THE INPUT: true; the input reads as it did. -/
def wordConjugatesSpec : ChangeSpec := { name := "wordConjugates", fn := fun _ => fun
  | [d1, d2, d3, d4] => { results := [.lit (.bool true)], args := [d1, d2, d3, d4] }
  | _ => none }
def wordConjugatesRow : OpenClaim := { program := "ytnhfagolmafonab", sum := "41ec19b559bc73ee8c50a0e43b012ddb60606d99852e93d5e6581f2f0156224f", func := "semigroup/semigrouplaw01.WordConjugates", spec := "wordConjugates", inPlace := ["internal/bytealg.IndexByteString", "internal/bytealg.IndexString"], named := ["internal/bytealg.MaxLen"], apart := false }
def WordConjugatesSaid : Prop := wordConjugatesRow.holds Try.pinned (OpenSpec.ofChange wordConjugatesSpec)

/-- ITS FALSE NEIGHBOUR: 'it returns false'. Refute it at one input. -/
def wordConjugatesWrong : ChangeSpec := { name := "wordConjugates", fn := fun _ => fun
  | [d1, d2, d3, d4] => { results := [.lit (.bool false)], args := [d1, d2, d3, d4] }
  | _ => none }
def WordConjugatesWrongFalsely : Prop := wordConjugatesRow.holds Try.pinned (OpenSpec.ofChange wordConjugatesWrong)

/-- 'semigrouplaw01.WordOccurrences': WHATEVER THE INPUT: true; the input reads as it did. -/
def wordOccurrencesSpec : ChangeSpec := { name := "wordOccurrences", fn := fun _ => fun
  | [d1, d2, d3] => { results := [.lit (.bool true)], args := [d1, d2, d3] }
  | _ => none }
def wordOccurrencesRow : OpenClaim := { program := "ytnhfagolmafonab", sum := "41ec19b559bc73ee8c50a0e43b012ddb60606d99852e93d5e6581f2f0156224f", func := "semigroup/semigrouplaw01.WordOccurrences", spec := "wordOccurrences", apart := false }
def WordOccurrencesSaid : Prop := wordOccurrencesRow.holds Try.pinned (OpenSpec.ofChange wordOccurrencesSpec)

/-- ITS FALSE NEIGHBOUR: 'it returns false'. Refute it at one input. -/
def wordOccurrencesWrong : ChangeSpec := { name := "wordOccurrences", fn := fun _ => fun
  | [d1, d2, d3] => { results := [.lit (.bool false)], args := [d1, d2, d3] }
  | _ => none }
def WordOccurrencesWrongFalsely : Prop := wordOccurrencesRow.holds Try.pinned (OpenSpec.ofChange wordOccurrencesWrong)

/-- 'semigrouplaw01.WordPascal': WHATEVER THE INPUT: true; the input reads as it did. -/
def wordPascalSpec : ChangeSpec := { name := "wordPascal", fn := fun _ => fun
  | [d1, d2, d3, d4, d5] => { results := [.lit (.bool true)], args := [d1, d2, d3, d4, d5] }
  | _ => none }
def wordPascalRow : OpenClaim := { program := "ytnhfagolmafonab", sum := "41ec19b559bc73ee8c50a0e43b012ddb60606d99852e93d5e6581f2f0156224f", func := "semigroup/semigrouplaw01.WordPascal", spec := "wordPascal", apart := false }
def WordPascalSaid : Prop := wordPascalRow.holds Try.pinned (OpenSpec.ofChange wordPascalSpec)

/-- ITS FALSE NEIGHBOUR: 'it returns false'. Refute it at one input. -/
def wordPascalWrong : ChangeSpec := { name := "wordPascal", fn := fun _ => fun
  | [d1, d2, d3, d4, d5] => { results := [.lit (.bool false)], args := [d1, d2, d3, d4, d5] }
  | _ => none }
def WordPascalWrongFalsely : Prop := wordPascalRow.holds Try.pinned (OpenSpec.ofChange wordPascalWrong)

/-- 'semigrouplaw01.WordConvolves': WHATEVER THE INPUT: true; the input reads as it did. -/
def wordConvolvesSpec : ChangeSpec := { name := "wordConvolves", fn := fun _ => fun
  | [d1, d2, d3, d4] => { results := [.lit (.bool true)], args := [d1, d2, d3, d4] }
  | _ => none }
def wordConvolvesRow : OpenClaim := { program := "ytnhfagolmafonab", sum := "41ec19b559bc73ee8c50a0e43b012ddb60606d99852e93d5e6581f2f0156224f", func := "semigroup/semigrouplaw01.WordConvolves", spec := "wordConvolves", apart := false }
def WordConvolvesSaid : Prop := wordConvolvesRow.holds Try.pinned (OpenSpec.ofChange wordConvolvesSpec)

/-- ITS FALSE NEIGHBOUR: 'it returns false'. Refute it at one input. -/
def wordConvolvesWrong : ChangeSpec := { name := "wordConvolves", fn := fun _ => fun
  | [d1, d2, d3, d4] => { results := [.lit (.bool false)], args := [d1, d2, d3, d4] }
  | _ => none }
def WordConvolvesWrongFalsely : Prop := wordConvolvesRow.holds Try.pinned (OpenSpec.ofChange wordConvolvesWrong)

/-- 'semigrouplaw01.WordBorders': WHATEVER THE INPUT: true; the input reads as it did. -/
def wordBordersSpec : ChangeSpec := { name := "wordBorders", fn := fun _ => fun
  | [d] => { results := [.lit (.bool true)], args := [d] }
  | _ => none }
def wordBordersRow : OpenClaim := { program := "ytnhfagolmafonab", sum := "41ec19b559bc73ee8c50a0e43b012ddb60606d99852e93d5e6581f2f0156224f", func := "semigroup/semigrouplaw01.WordBorders", spec := "wordBorders", apart := false }
def WordBordersSaid : Prop := wordBordersRow.holds Try.pinned (OpenSpec.ofChange wordBordersSpec)

/-- ITS FALSE NEIGHBOUR: 'it returns false'. Refute it at one input. -/
def wordBordersWrong : ChangeSpec := { name := "wordBorders", fn := fun _ => fun
  | [d] => { results := [.lit (.bool false)], args := [d] }
  | _ => none }
def WordBordersWrongFalsely : Prop := wordBordersRow.holds Try.pinned (OpenSpec.ofChange wordBordersWrong)

/-- 'semigrouplaw01.WordPeriods': WHATEVER THE INPUT: true; the input reads as it did. -/
def wordPeriodsSpec : ChangeSpec := { name := "wordPeriods", fn := fun _ => fun
  | [d] => { results := [.lit (.bool true)], args := [d] }
  | _ => none }
def wordPeriodsRow : OpenClaim := { program := "ytnhfagolmafonab", sum := "41ec19b559bc73ee8c50a0e43b012ddb60606d99852e93d5e6581f2f0156224f", func := "semigroup/semigrouplaw01.WordPeriods", spec := "wordPeriods", apart := false }
def WordPeriodsSaid : Prop := wordPeriodsRow.holds Try.pinned (OpenSpec.ofChange wordPeriodsSpec)

/-- ITS FALSE NEIGHBOUR: 'it returns false'. Refute it at one input. -/
def wordPeriodsWrong : ChangeSpec := { name := "wordPeriods", fn := fun _ => fun
  | [d] => { results := [.lit (.bool false)], args := [d] }
  | _ => none }
def WordPeriodsWrongFalsely : Prop := wordPeriodsRow.holds Try.pinned (OpenSpec.ofChange wordPeriodsWrong)

/- THE SECOND FORM. 'bulk': how many values and letters a reading holds, each counted each time it is reached (what is shared counts as often as it is met; a slice's spare places count too). A statement '..UptoSaid' is the law's where the arguments, and the package variables that the reading takes, are together of bulk at most 1048576: NARROWER than '..Said'. Prove '..Said' where nothing that the law and all that it calls make is longer than what came in: it says more and counts as full. Else prove '..UptoSaid'. A law counts once. -/
mutual
def uptoBulk {H : Type} : DataW H → Nat
  | .lit (.string bytes) => bytes.length + 1
  | .lit _ => 1
  | .nil => 1
  | .ptr d => uptoBulk d + 1
  | .slice elems spare => uptoBulkAll elems + uptoBulkAll spare + 1
  | .agg parts => uptoBulkAll parts + 1
  | .iface _ d => uptoBulk d + 1
  | .map entries => uptoBulkEntries entries + 1
  | .held _ => 1
def uptoBulkAll {H : Type} : List (DataW H) → Nat
  | [] => 0
  | d :: r => uptoBulk d + uptoBulkAll r
def uptoBulkEntries {H : Type} : List (Lit × DataW H) → Nat
  | [] => 0
  | x :: r => uptoBulkEntry x + uptoBulkEntries r
def uptoBulkEntry {H : Type} : Lit × DataW H → Nat
  | (.string bytes, d) => bytes.length + uptoBulk d + 1
  | (_, d) => uptoBulk d + 1
 end
def uptoSmall : (H : Type) → List (DataW H) → Bool := fun _ ds => decide (uptoBulkAll ds ≤ 1048576)
def OpenSpec.upto (s : _root_.Go.ChangeSpec) : _root_.Go.OpenSpec := { _root_.Go.OpenSpec.ofChange s with cond := some uptoSmall }

/-- 'semigrouplaw01.WordPowers', WHERE WHAT IT READS IS OF BULK AT MOST 1048576: true; the input reads as it did. -/
def wordPowersUptoRow : OpenClaim := { program := "ytnhfagolmafonab", sum := "41ec19b559bc73ee8c50a0e43b012ddb60606d99852e93d5e6581f2f0156224f", func := "semigroup/semigrouplaw01.WordPowers", spec := "wordPowers", apart := false, narrowed := true }
def WordPowersUptoSaid : Prop := wordPowersUptoRow.holds Try.pinned (OpenSpec.upto wordPowersSpec)

/-- 'semigrouplaw01.WordConjugates', WHERE WHAT IT READS IS OF BULK AT MOST 1048576: true; the input reads as it did. -/
def wordConjugatesUptoRow : OpenClaim := { program := "ytnhfagolmafonab", sum := "41ec19b559bc73ee8c50a0e43b012ddb60606d99852e93d5e6581f2f0156224f", func := "semigroup/semigrouplaw01.WordConjugates", spec := "wordConjugates", inPlace := ["internal/bytealg.IndexByteString", "internal/bytealg.IndexString"], named := ["internal/bytealg.MaxLen"], apart := false, narrowed := true }
def WordConjugatesUptoSaid : Prop := wordConjugatesUptoRow.holds Try.pinned (OpenSpec.upto wordConjugatesSpec)

/-- 'semigrouplaw01.WordOccurrences', WHERE WHAT IT READS IS OF BULK AT MOST 1048576: true; the input reads as it did. -/
def wordOccurrencesUptoRow : OpenClaim := { program := "ytnhfagolmafonab", sum := "41ec19b559bc73ee8c50a0e43b012ddb60606d99852e93d5e6581f2f0156224f", func := "semigroup/semigrouplaw01.WordOccurrences", spec := "wordOccurrences", apart := false, narrowed := true }
def WordOccurrencesUptoSaid : Prop := wordOccurrencesUptoRow.holds Try.pinned (OpenSpec.upto wordOccurrencesSpec)

/-- 'semigrouplaw01.WordPascal', WHERE WHAT IT READS IS OF BULK AT MOST 1048576: true; the input reads as it did. -/
def wordPascalUptoRow : OpenClaim := { program := "ytnhfagolmafonab", sum := "41ec19b559bc73ee8c50a0e43b012ddb60606d99852e93d5e6581f2f0156224f", func := "semigroup/semigrouplaw01.WordPascal", spec := "wordPascal", apart := false, narrowed := true }
def WordPascalUptoSaid : Prop := wordPascalUptoRow.holds Try.pinned (OpenSpec.upto wordPascalSpec)

/-- 'semigrouplaw01.WordConvolves', WHERE WHAT IT READS IS OF BULK AT MOST 1048576: true; the input reads as it did. -/
def wordConvolvesUptoRow : OpenClaim := { program := "ytnhfagolmafonab", sum := "41ec19b559bc73ee8c50a0e43b012ddb60606d99852e93d5e6581f2f0156224f", func := "semigroup/semigrouplaw01.WordConvolves", spec := "wordConvolves", apart := false, narrowed := true }
def WordConvolvesUptoSaid : Prop := wordConvolvesUptoRow.holds Try.pinned (OpenSpec.upto wordConvolvesSpec)

/-- 'semigrouplaw01.WordBorders', WHERE WHAT IT READS IS OF BULK AT MOST 1048576: true; the input reads as it did. -/
def wordBordersUptoRow : OpenClaim := { program := "ytnhfagolmafonab", sum := "41ec19b559bc73ee8c50a0e43b012ddb60606d99852e93d5e6581f2f0156224f", func := "semigroup/semigrouplaw01.WordBorders", spec := "wordBorders", apart := false, narrowed := true }
def WordBordersUptoSaid : Prop := wordBordersUptoRow.holds Try.pinned (OpenSpec.upto wordBordersSpec)

/-- 'semigrouplaw01.WordPeriods', WHERE WHAT IT READS IS OF BULK AT MOST 1048576: true; the input reads as it did. -/
def wordPeriodsUptoRow : OpenClaim := { program := "ytnhfagolmafonab", sum := "41ec19b559bc73ee8c50a0e43b012ddb60606d99852e93d5e6581f2f0156224f", func := "semigroup/semigrouplaw01.WordPeriods", spec := "wordPeriods", apart := false, narrowed := true }
def WordPeriodsUptoSaid : Prop := wordPeriodsUptoRow.holds Try.pinned (OpenSpec.upto wordPeriodsSpec)

end Rows
end Go.Proofs.Ytnhfagolmafonab
