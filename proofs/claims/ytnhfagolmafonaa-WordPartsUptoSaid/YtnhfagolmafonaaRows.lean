/-
  No cell of these rows narrows 'for every input' (looked for: loops, veiled, ifaces, maps, wideKeys, modest, calm, conditions, laid).
  DERIVED. THE GIVEN ROWS OF THIS SEAT. 12 by the template 'for every input the law returns true; each argument reads behind the call as it read before'; 0 by the template 'total and deterministic' (their statements: YtnhfagolmafonaaTotals.lean).
  GIVEN WITH THE SEED: the statements are not yours to turn. If you find one false, say at which input.
  Laid BY PROGRAM, IN A SANDBOX (cutbox-rows.mjs): the forced cells as the released guide's own fill.sh prints them over the translation 6b2f390a88a92b4c… (all of the seat's roots in one cut). By AI agents, Wed Nov 11 2026. No macro, syntax, notation, axiom, sorry.
-/
import Derived.Test.YtnhfagolmafonaaChecked
import GoSem.Claim
import GoSem.ClaimJoined
import GoSem.ClaimMapViews
import Derived.JoinedTies
import Derived.KernelRfl
namespace Go.Proofs.Ytnhfagolmafonaa
/- THE CELL 'sum', in the pinned program and in every row, IS THE sha256 OF THE DUMP (.gsa) THAT YtnhfagolmafonaaProg.lean LOADS. Nothing in Lean hashes anything: it is a label: what it is worth is what the hold of that sum in a sandbox is worth. -/
noncomputable def Try.pinned : Pinned := { name := "ytnhfagolmafonaa", sum := "6b2f390a88a92b4cac0ddd7e904b64166cd92824ccd094e890fd431c1632951a", checked := Try.checked }
namespace Rows
def none {H : Type} : Left H := { results := [], args := [] }

/-- 'semigrouplaw01.WordValid': WHATEVER THE INPUT: true; the input reads as it did. -/
def wordValidSpec : ChangeSpec := { name := "wordValid", fn := fun _ => fun
  | [d1, d2] => { results := [.lit (.bool true)], args := [d1, d2] }
  | _ => none }
def wordValidRow : OpenClaim := { program := "ytnhfagolmafonaa", sum := "6b2f390a88a92b4cac0ddd7e904b64166cd92824ccd094e890fd431c1632951a", func := "semigroup/semigrouplaw01.WordValid", spec := "wordValid", apart := false }
def WordValidSaid : Prop := wordValidRow.holds Try.pinned (OpenSpec.ofChange wordValidSpec)

/-- ITS FALSE NEIGHBOUR: 'it returns false'. Refute it at one input. -/
def wordValidWrong : ChangeSpec := { name := "wordValid", fn := fun _ => fun
  | [d1, d2] => { results := [.lit (.bool false)], args := [d1, d2] }
  | _ => none }
def WordValidWrongFalsely : Prop := wordValidRow.holds Try.pinned (OpenSpec.ofChange wordValidWrong)

/-- 'semigrouplaw01.WordCompares': WHATEVER THE INPUT: true; the input reads as it did. -/
def wordComparesSpec : ChangeSpec := { name := "wordCompares", fn := fun _ => fun
  | [d1, d2] => { results := [.lit (.bool true)], args := [d1, d2] }
  | _ => none }
def wordComparesRow : OpenClaim := { program := "ytnhfagolmafonaa", sum := "6b2f390a88a92b4cac0ddd7e904b64166cd92824ccd094e890fd431c1632951a", func := "semigroup/semigrouplaw01.WordCompares", spec := "wordCompares", inPlace := ["internal/bytealg.abigen_runtime_cmpstring"], apart := false }
def WordComparesSaid : Prop := wordComparesRow.holds Try.pinned (OpenSpec.ofChange wordComparesSpec)

/-- ITS FALSE NEIGHBOUR: 'it returns false'. Refute it at one input. -/
def wordComparesWrong : ChangeSpec := { name := "wordCompares", fn := fun _ => fun
  | [d1, d2] => { results := [.lit (.bool false)], args := [d1, d2] }
  | _ => none }
def WordComparesWrongFalsely : Prop := wordComparesRow.holds Try.pinned (OpenSpec.ofChange wordComparesWrong)

/-- 'semigrouplaw01.WordChains': WHATEVER THE INPUT: true; the input reads as it did. -/
def wordChainsSpec : ChangeSpec := { name := "wordChains", fn := fun _ => fun
  | [d1, d2, d3] => { results := [.lit (.bool true)], args := [d1, d2, d3] }
  | _ => none }
def wordChainsRow : OpenClaim := { program := "ytnhfagolmafonaa", sum := "6b2f390a88a92b4cac0ddd7e904b64166cd92824ccd094e890fd431c1632951a", func := "semigroup/semigrouplaw01.WordChains", spec := "wordChains", inPlace := ["internal/bytealg.abigen_runtime_cmpstring"], apart := false }
def WordChainsSaid : Prop := wordChainsRow.holds Try.pinned (OpenSpec.ofChange wordChainsSpec)

/-- ITS FALSE NEIGHBOUR: 'it returns false'. Refute it at one input. -/
def wordChainsWrong : ChangeSpec := { name := "wordChains", fn := fun _ => fun
  | [d1, d2, d3] => { results := [.lit (.bool false)], args := [d1, d2, d3] }
  | _ => none }
def WordChainsWrongFalsely : Prop := wordChainsRow.holds Try.pinned (OpenSpec.ofChange wordChainsWrong)

/-- 'semigrouplaw01.WordRanks': WHATEVER THE INPUT: true; the input reads as it did. -/
def wordRanksSpec : ChangeSpec := { name := "wordRanks", fn := fun _ => fun
  | [d1, d2] => { results := [.lit (.bool true)], args := [d1, d2] }
  | _ => none }
def wordRanksRow : OpenClaim := { program := "ytnhfagolmafonaa", sum := "6b2f390a88a92b4cac0ddd7e904b64166cd92824ccd094e890fd431c1632951a", func := "semigroup/semigrouplaw01.WordRanks", spec := "wordRanks", apart := false }
def WordRanksSaid : Prop := wordRanksRow.holds Try.pinned (OpenSpec.ofChange wordRanksSpec)

/-- ITS FALSE NEIGHBOUR: 'it returns false'. Refute it at one input. -/
def wordRanksWrong : ChangeSpec := { name := "wordRanks", fn := fun _ => fun
  | [d1, d2] => { results := [.lit (.bool false)], args := [d1, d2] }
  | _ => none }
def WordRanksWrongFalsely : Prop := wordRanksRow.holds Try.pinned (OpenSpec.ofChange wordRanksWrong)

/-- 'semigrouplaw01.WordUnranks': WHATEVER THE INPUT: true; the input reads as it did. -/
def wordUnranksSpec : ChangeSpec := { name := "wordUnranks", fn := fun _ => fun
  | [d1, d2] => { results := [.lit (.bool true)], args := [d1, d2] }
  | _ => none }
def wordUnranksRow : OpenClaim := { program := "ytnhfagolmafonaa", sum := "6b2f390a88a92b4cac0ddd7e904b64166cd92824ccd094e890fd431c1632951a", func := "semigroup/semigrouplaw01.WordUnranks", spec := "wordUnranks", apart := false }
def WordUnranksSaid : Prop := wordUnranksRow.holds Try.pinned (OpenSpec.ofChange wordUnranksSpec)

/-- ITS FALSE NEIGHBOUR: 'it returns false'. Refute it at one input. -/
def wordUnranksWrong : ChangeSpec := { name := "wordUnranks", fn := fun _ => fun
  | [d1, d2] => { results := [.lit (.bool false)], args := [d1, d2] }
  | _ => none }
def WordUnranksWrongFalsely : Prop := wordUnranksRow.holds Try.pinned (OpenSpec.ofChange wordUnranksWrong)

/-- 'semigrouplaw01.WordSuccessors': WHATEVER THE INPUT: true; the input reads as it did. -/
def wordSuccessorsSpec : ChangeSpec := { name := "wordSuccessors", fn := fun _ => fun
  | [d1, d2, d3] => { results := [.lit (.bool true)], args := [d1, d2, d3] }
  | _ => none }
def wordSuccessorsRow : OpenClaim := { program := "ytnhfagolmafonaa", sum := "6b2f390a88a92b4cac0ddd7e904b64166cd92824ccd094e890fd431c1632951a", func := "semigroup/semigrouplaw01.WordSuccessors", spec := "wordSuccessors", inPlace := ["internal/bytealg.abigen_runtime_cmpstring"], apart := false }
def WordSuccessorsSaid : Prop := wordSuccessorsRow.holds Try.pinned (OpenSpec.ofChange wordSuccessorsSpec)

/-- ITS FALSE NEIGHBOUR: 'it returns false'. Refute it at one input. -/
def wordSuccessorsWrong : ChangeSpec := { name := "wordSuccessors", fn := fun _ => fun
  | [d1, d2, d3] => { results := [.lit (.bool false)], args := [d1, d2, d3] }
  | _ => none }
def WordSuccessorsWrongFalsely : Prop := wordSuccessorsRow.holds Try.pinned (OpenSpec.ofChange wordSuccessorsWrong)

/-- 'semigrouplaw01.WordParts': WHATEVER THE INPUT: true; the input reads as it did. -/
def wordPartsSpec : ChangeSpec := { name := "wordParts", fn := fun _ => fun
  | [d1, d2] => { results := [.lit (.bool true)], args := [d1, d2] }
  | _ => none }
def wordPartsRow : OpenClaim := { program := "ytnhfagolmafonaa", sum := "6b2f390a88a92b4cac0ddd7e904b64166cd92824ccd094e890fd431c1632951a", func := "semigroup/semigrouplaw01.WordParts", spec := "wordParts", inPlace := ["internal/bytealg.IndexByteString", "internal/bytealg.IndexString"], named := ["internal/bytealg.MaxLen"], apart := false }
def WordPartsSaid : Prop := wordPartsRow.holds Try.pinned (OpenSpec.ofChange wordPartsSpec)

/-- ITS FALSE NEIGHBOUR: 'it returns false'. Refute it at one input. -/
def wordPartsWrong : ChangeSpec := { name := "wordParts", fn := fun _ => fun
  | [d1, d2] => { results := [.lit (.bool false)], args := [d1, d2] }
  | _ => none }
def WordPartsWrongFalsely : Prop := wordPartsRow.holds Try.pinned (OpenSpec.ofChange wordPartsWrong)

/-- 'semigrouplaw01.WordDeletes': WHATEVER THE INPUT: true; the input reads as it did. -/
def wordDeletesSpec : ChangeSpec := { name := "wordDeletes", fn := fun _ => fun
  | [d1, d2, d3, d4] => { results := [.lit (.bool true)], args := [d1, d2, d3, d4] }
  | _ => none }
def wordDeletesRow : OpenClaim := { program := "ytnhfagolmafonaa", sum := "6b2f390a88a92b4cac0ddd7e904b64166cd92824ccd094e890fd431c1632951a", func := "semigroup/semigrouplaw01.WordDeletes", spec := "wordDeletes", inPlace := ["internal/bytealg.IndexByteString", "internal/bytealg.IndexString"], named := ["internal/bytealg.MaxLen"], apart := false }
def WordDeletesSaid : Prop := wordDeletesRow.holds Try.pinned (OpenSpec.ofChange wordDeletesSpec)

/-- ITS FALSE NEIGHBOUR: 'it returns false'. Refute it at one input. -/
def wordDeletesWrong : ChangeSpec := { name := "wordDeletes", fn := fun _ => fun
  | [d1, d2, d3, d4] => { results := [.lit (.bool false)], args := [d1, d2, d3, d4] }
  | _ => none }
def WordDeletesWrongFalsely : Prop := wordDeletesRow.holds Try.pinned (OpenSpec.ofChange wordDeletesWrong)

/-- 'semigrouplaw01.WordSubwords': WHATEVER THE INPUT: true; the input reads as it did. -/
def wordSubwordsSpec : ChangeSpec := { name := "wordSubwords", fn := fun _ => fun
  | [d1, d2] => { results := [.lit (.bool true)], args := [d1, d2] }
  | _ => none }
def wordSubwordsRow : OpenClaim := { program := "ytnhfagolmafonaa", sum := "6b2f390a88a92b4cac0ddd7e904b64166cd92824ccd094e890fd431c1632951a", func := "semigroup/semigrouplaw01.WordSubwords", spec := "wordSubwords", inPlace := ["internal/bytealg.abigen_runtime_cmpstring"], unfollowed := true, recurses := true, apart := false }
def WordSubwordsSaid : Prop := wordSubwordsRow.holds Try.pinned (OpenSpec.ofChange wordSubwordsSpec)

/-- ITS FALSE NEIGHBOUR: 'it returns false'. Refute it at one input. -/
def wordSubwordsWrong : ChangeSpec := { name := "wordSubwords", fn := fun _ => fun
  | [d1, d2] => { results := [.lit (.bool false)], args := [d1, d2] }
  | _ => none }
def WordSubwordsWrongFalsely : Prop := wordSubwordsRow.holds Try.pinned (OpenSpec.ofChange wordSubwordsWrong)

/-- 'semigrouplaw01.WordFactors': WHATEVER THE INPUT: true; the input reads as it did. -/
def wordFactorsSpec : ChangeSpec := { name := "wordFactors", fn := fun _ => fun
  | [d1, d2] => { results := [.lit (.bool true)], args := [d1, d2] }
  | _ => none }
def wordFactorsRow : OpenClaim := { program := "ytnhfagolmafonaa", sum := "6b2f390a88a92b4cac0ddd7e904b64166cd92824ccd094e890fd431c1632951a", func := "semigroup/semigrouplaw01.WordFactors", spec := "wordFactors", unfollowed := true, recurses := true, apart := false }
def WordFactorsSaid : Prop := wordFactorsRow.holds Try.pinned (OpenSpec.ofChange wordFactorsSpec)

/-- ITS FALSE NEIGHBOUR: 'it returns false'. Refute it at one input. -/
def wordFactorsWrong : ChangeSpec := { name := "wordFactors", fn := fun _ => fun
  | [d1, d2] => { results := [.lit (.bool false)], args := [d1, d2] }
  | _ => none }
def WordFactorsWrongFalsely : Prop := wordFactorsRow.holds Try.pinned (OpenSpec.ofChange wordFactorsWrong)

/-- 'semigrouplaw01.WordListed': WHATEVER THE INPUT: true; the input reads as it did. -/
def wordListedSpec : ChangeSpec := { name := "wordListed", fn := fun _ => fun
  | [d1, d2, d3] => { results := [.lit (.bool true)], args := [d1, d2, d3] }
  | _ => none }
def wordListedRow : OpenClaim := { program := "ytnhfagolmafonaa", sum := "6b2f390a88a92b4cac0ddd7e904b64166cd92824ccd094e890fd431c1632951a", func := "semigroup/semigrouplaw01.WordListed", spec := "wordListed", inPlace := ["internal/bytealg.abigen_runtime_cmpstring"], unfollowed := true, recurses := true, apart := false }
def WordListedSaid : Prop := wordListedRow.holds Try.pinned (OpenSpec.ofChange wordListedSpec)

/-- ITS FALSE NEIGHBOUR: 'it returns false'. Refute it at one input. -/
def wordListedWrong : ChangeSpec := { name := "wordListed", fn := fun _ => fun
  | [d1, d2, d3] => { results := [.lit (.bool false)], args := [d1, d2, d3] }
  | _ => none }
def WordListedWrongFalsely : Prop := wordListedRow.holds Try.pinned (OpenSpec.ofChange wordListedWrong)

/-- 'semigrouplaw01.WordRoots': WHATEVER THE INPUT: true; the input reads as it did. -/
def wordRootsSpec : ChangeSpec := { name := "wordRoots", fn := fun _ => fun
  | [d] => { results := [.lit (.bool true)], args := [d] }
  | _ => none }
def wordRootsRow : OpenClaim := { program := "ytnhfagolmafonaa", sum := "6b2f390a88a92b4cac0ddd7e904b64166cd92824ccd094e890fd431c1632951a", func := "semigroup/semigrouplaw01.WordRoots", spec := "wordRoots", apart := false }
def WordRootsSaid : Prop := wordRootsRow.holds Try.pinned (OpenSpec.ofChange wordRootsSpec)

/-- ITS FALSE NEIGHBOUR: 'it returns false'. Refute it at one input. -/
def wordRootsWrong : ChangeSpec := { name := "wordRoots", fn := fun _ => fun
  | [d] => { results := [.lit (.bool false)], args := [d] }
  | _ => none }
def WordRootsWrongFalsely : Prop := wordRootsRow.holds Try.pinned (OpenSpec.ofChange wordRootsWrong)

/- THE SECOND FORM. 'bulk': how many values and letters a reading holds, each counted each time it is reached (what is shared counts as often as it is met; a slice's spare places count too). A statement '..UptoSaid' is the law's where the arguments, and the package variables that the reading takes, are together of bulk at most 1048576: NARROWER than '..Said'. Prove '..Said' where nothing that the law and all that it calls make is longer than what came in: it says more and counts as full. Else prove '..UptoSaid'. A law counts once. -/
mutual
def uptoBulk {H : Type} : DataW H → Nat
  | .lit (.string bytes) => bytes.length + 1
  | .lit _ => 1
  | .nil => 1
  | .ptr d => uptoBulk d + 1
  | .slice elems spare => uptoBulkAll elems + uptoBulkAll spare + 1
  | .agg parts => uptoBulkAll parts + 1
  | .iface _ d => uptoBulk d + 1
  | .map entries => uptoBulkEntries entries + 1
  | .held _ => 1
def uptoBulkAll {H : Type} : List (DataW H) → Nat
  | [] => 0
  | d :: r => uptoBulk d + uptoBulkAll r
def uptoBulkEntries {H : Type} : List (Lit × DataW H) → Nat
  | [] => 0
  | x :: r => uptoBulkEntry x + uptoBulkEntries r
def uptoBulkEntry {H : Type} : Lit × DataW H → Nat
  | (.string bytes, d) => bytes.length + uptoBulk d + 1
  | (_, d) => uptoBulk d + 1
 end
def uptoSmall : (H : Type) → List (DataW H) → Bool := fun _ ds => decide (uptoBulkAll ds ≤ 1048576)
def OpenSpec.upto (s : _root_.Go.ChangeSpec) : _root_.Go.OpenSpec := { _root_.Go.OpenSpec.ofChange s with cond := some uptoSmall }

/-- 'semigrouplaw01.WordValid', WHERE WHAT IT READS IS OF BULK AT MOST 1048576: true; the input reads as it did. -/
def wordValidUptoRow : OpenClaim := { program := "ytnhfagolmafonaa", sum := "6b2f390a88a92b4cac0ddd7e904b64166cd92824ccd094e890fd431c1632951a", func := "semigroup/semigrouplaw01.WordValid", spec := "wordValid", apart := false, narrowed := true }
def WordValidUptoSaid : Prop := wordValidUptoRow.holds Try.pinned (OpenSpec.upto wordValidSpec)

/-- 'semigrouplaw01.WordCompares', WHERE WHAT IT READS IS OF BULK AT MOST 1048576: true; the input reads as it did. -/
def wordComparesUptoRow : OpenClaim := { program := "ytnhfagolmafonaa", sum := "6b2f390a88a92b4cac0ddd7e904b64166cd92824ccd094e890fd431c1632951a", func := "semigroup/semigrouplaw01.WordCompares", spec := "wordCompares", inPlace := ["internal/bytealg.abigen_runtime_cmpstring"], apart := false, narrowed := true }
def WordComparesUptoSaid : Prop := wordComparesUptoRow.holds Try.pinned (OpenSpec.upto wordComparesSpec)

/-- 'semigrouplaw01.WordChains', WHERE WHAT IT READS IS OF BULK AT MOST 1048576: true; the input reads as it did. -/
def wordChainsUptoRow : OpenClaim := { program := "ytnhfagolmafonaa", sum := "6b2f390a88a92b4cac0ddd7e904b64166cd92824ccd094e890fd431c1632951a", func := "semigroup/semigrouplaw01.WordChains", spec := "wordChains", inPlace := ["internal/bytealg.abigen_runtime_cmpstring"], apart := false, narrowed := true }
def WordChainsUptoSaid : Prop := wordChainsUptoRow.holds Try.pinned (OpenSpec.upto wordChainsSpec)

/-- 'semigrouplaw01.WordRanks', WHERE WHAT IT READS IS OF BULK AT MOST 1048576: true; the input reads as it did. -/
def wordRanksUptoRow : OpenClaim := { program := "ytnhfagolmafonaa", sum := "6b2f390a88a92b4cac0ddd7e904b64166cd92824ccd094e890fd431c1632951a", func := "semigroup/semigrouplaw01.WordRanks", spec := "wordRanks", apart := false, narrowed := true }
def WordRanksUptoSaid : Prop := wordRanksUptoRow.holds Try.pinned (OpenSpec.upto wordRanksSpec)

/-- 'semigrouplaw01.WordUnranks', WHERE WHAT IT READS IS OF BULK AT MOST 1048576: true; the input reads as it did. -/
def wordUnranksUptoRow : OpenClaim := { program := "ytnhfagolmafonaa", sum := "6b2f390a88a92b4cac0ddd7e904b64166cd92824ccd094e890fd431c1632951a", func := "semigroup/semigrouplaw01.WordUnranks", spec := "wordUnranks", apart := false, narrowed := true }
def WordUnranksUptoSaid : Prop := wordUnranksUptoRow.holds Try.pinned (OpenSpec.upto wordUnranksSpec)

/-- 'semigrouplaw01.WordSuccessors', WHERE WHAT IT READS IS OF BULK AT MOST 1048576: true; the input reads as it did. -/
def wordSuccessorsUptoRow : OpenClaim := { program := "ytnhfagolmafonaa", sum := "6b2f390a88a92b4cac0ddd7e904b64166cd92824ccd094e890fd431c1632951a", func := "semigroup/semigrouplaw01.WordSuccessors", spec := "wordSuccessors", inPlace := ["internal/bytealg.abigen_runtime_cmpstring"], apart := false, narrowed := true }
def WordSuccessorsUptoSaid : Prop := wordSuccessorsUptoRow.holds Try.pinned (OpenSpec.upto wordSuccessorsSpec)

/-- 'semigrouplaw01.WordParts', WHERE WHAT IT READS IS OF BULK AT MOST 1048576: true; the input reads as it did. -/
def wordPartsUptoRow : OpenClaim := { program := "ytnhfagolmafonaa", sum := "6b2f390a88a92b4cac0ddd7e904b64166cd92824ccd094e890fd431c1632951a", func := "semigroup/semigrouplaw01.WordParts", spec := "wordParts", inPlace := ["internal/bytealg.IndexByteString", "internal/bytealg.IndexString"], named := ["internal/bytealg.MaxLen"], apart := false, narrowed := true }
def WordPartsUptoSaid : Prop := wordPartsUptoRow.holds Try.pinned (OpenSpec.upto wordPartsSpec)

/-- 'semigrouplaw01.WordDeletes', WHERE WHAT IT READS IS OF BULK AT MOST 1048576: true; the input reads as it did. -/
def wordDeletesUptoRow : OpenClaim := { program := "ytnhfagolmafonaa", sum := "6b2f390a88a92b4cac0ddd7e904b64166cd92824ccd094e890fd431c1632951a", func := "semigroup/semigrouplaw01.WordDeletes", spec := "wordDeletes", inPlace := ["internal/bytealg.IndexByteString", "internal/bytealg.IndexString"], named := ["internal/bytealg.MaxLen"], apart := false, narrowed := true }
def WordDeletesUptoSaid : Prop := wordDeletesUptoRow.holds Try.pinned (OpenSpec.upto wordDeletesSpec)

/-- 'semigrouplaw01.WordSubwords', WHERE WHAT IT READS IS OF BULK AT MOST 1048576: true; the input reads as it did. -/
def wordSubwordsUptoRow : OpenClaim := { program := "ytnhfagolmafonaa", sum := "6b2f390a88a92b4cac0ddd7e904b64166cd92824ccd094e890fd431c1632951a", func := "semigroup/semigrouplaw01.WordSubwords", spec := "wordSubwords", inPlace := ["internal/bytealg.abigen_runtime_cmpstring"], unfollowed := true, recurses := true, apart := false, narrowed := true }
def WordSubwordsUptoSaid : Prop := wordSubwordsUptoRow.holds Try.pinned (OpenSpec.upto wordSubwordsSpec)

/-- 'semigrouplaw01.WordFactors', WHERE WHAT IT READS IS OF BULK AT MOST 1048576: true; the input reads as it did. -/
def wordFactorsUptoRow : OpenClaim := { program := "ytnhfagolmafonaa", sum := "6b2f390a88a92b4cac0ddd7e904b64166cd92824ccd094e890fd431c1632951a", func := "semigroup/semigrouplaw01.WordFactors", spec := "wordFactors", unfollowed := true, recurses := true, apart := false, narrowed := true }
def WordFactorsUptoSaid : Prop := wordFactorsUptoRow.holds Try.pinned (OpenSpec.upto wordFactorsSpec)

/-- 'semigrouplaw01.WordListed', WHERE WHAT IT READS IS OF BULK AT MOST 1048576: true; the input reads as it did. -/
def wordListedUptoRow : OpenClaim := { program := "ytnhfagolmafonaa", sum := "6b2f390a88a92b4cac0ddd7e904b64166cd92824ccd094e890fd431c1632951a", func := "semigroup/semigrouplaw01.WordListed", spec := "wordListed", inPlace := ["internal/bytealg.abigen_runtime_cmpstring"], unfollowed := true, recurses := true, apart := false, narrowed := true }
def WordListedUptoSaid : Prop := wordListedUptoRow.holds Try.pinned (OpenSpec.upto wordListedSpec)

/-- 'semigrouplaw01.WordRoots', WHERE WHAT IT READS IS OF BULK AT MOST 1048576: true; the input reads as it did. -/
def wordRootsUptoRow : OpenClaim := { program := "ytnhfagolmafonaa", sum := "6b2f390a88a92b4cac0ddd7e904b64166cd92824ccd094e890fd431c1632951a", func := "semigroup/semigrouplaw01.WordRoots", spec := "wordRoots", apart := false, narrowed := true }
def WordRootsUptoSaid : Prop := wordRootsUptoRow.holds Try.pinned (OpenSpec.upto wordRootsSpec)

end Rows
end Go.Proofs.Ytnhfagolmafonaa
