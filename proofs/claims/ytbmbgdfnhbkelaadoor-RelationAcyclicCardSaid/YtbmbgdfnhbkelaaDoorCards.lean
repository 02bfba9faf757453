/-
  DERIVED. GIVEN WITH THE SEED: THE CARDS: each row of YtbmbgdfnhbkelaaDoorRows.lean that lists a variable, with what it lists TIED to the program's text (the seventh form; the later family's looks); each row that meets fmt, with fmt's text TOLD by the authors' own Lean function (tested against real Go, not proved from fmt's source: count such statements apart). THE CARD IS WHAT COUNTS. Prove the row's statement (the work); the ties are given (YtbmbgdfnhbkelaaDoorTie.lean); close each card by the builder's one call (the guide's Derived/Test/ToyasCard.lean, 'card_holds'). Laid BY PROGRAM, IN A SANDBOX (cutbox-door.mjs). By AI agents, Wed Nov 11 2026. No macro, syntax, notation, axiom, sorry.
-/
import Derived.Test.YtbmbgdfnhbkelaaDoorRows
import GoSem.ClaimSeven
namespace Go.Proofs.YtbmbgdfnhbkelaaDoor
namespace Rows

/-- THE TIED CARD OF 'semigrouplaw02.RelationComponents'. -/
def relationComponentsCard : Claim7 := { stood := { row := relationComponentsRow, standIns := [], harness := (true, "a441c88420722738c081f754c06b46a318136868dd0b13f276ce7325970c49ff"), looks := false }, kinds := [], alts := [], laidByText := true, laidKinds := [.data], laidTests := true, laidLooks := .later }
def RelationComponentsCardSaid : Prop := Claim7.holds Tryd.pinned (.plain (OpenSpec.ofChange relationComponentsSpec)) relationComponentsCard

/-- THE TIED CARD OF 'semigrouplaw02.RelationCondenses'. -/
def relationCondensesCard : Claim7 := { stood := { row := relationCondensesRow, standIns := [], harness := (true, "a441c88420722738c081f754c06b46a318136868dd0b13f276ce7325970c49ff"), looks := false }, kinds := [], alts := [], laidByText := true, laidKinds := [.data], laidTests := true, laidLooks := .later }
def RelationCondensesCardSaid : Prop := Claim7.holds Tryd.pinned (.plain (OpenSpec.ofChange relationCondensesSpec)) relationCondensesCard

/-- THE TIED CARD OF 'semigrouplaw02.RelationAcyclic'. -/
def relationAcyclicCard : Claim7 := { stood := { row := relationAcyclicRow, standIns := [], harness := (true, "a441c88420722738c081f754c06b46a318136868dd0b13f276ce7325970c49ff"), looks := false }, kinds := [], alts := [], laidByText := true, laidKinds := [.data], laidTests := true, laidLooks := .later }
def RelationAcyclicCardSaid : Prop := Claim7.holds Tryd.pinned (.plain (OpenSpec.ofChange relationAcyclicSpec)) relationAcyclicCard

/-- THE SECOND FORM's CARD OF 'semigrouplaw02.RelationComponents'. -/
def relationComponentsUptoCard : Claim7 := { stood := { row := relationComponentsUptoRow, standIns := [], harness := (true, "a441c88420722738c081f754c06b46a318136868dd0b13f276ce7325970c49ff"), looks := false }, kinds := [], alts := [], laidByText := true, laidKinds := [.data], laidTests := true, laidLooks := .later }
def RelationComponentsUptoCardSaid : Prop := Claim7.holds Tryd.pinned (.plain (OpenSpec.upto relationComponentsSpec)) relationComponentsUptoCard

/-- THE SECOND FORM's CARD OF 'semigrouplaw02.RelationCondenses'. -/
def relationCondensesUptoCard : Claim7 := { stood := { row := relationCondensesUptoRow, standIns := [], harness := (true, "a441c88420722738c081f754c06b46a318136868dd0b13f276ce7325970c49ff"), looks := false }, kinds := [], alts := [], laidByText := true, laidKinds := [.data], laidTests := true, laidLooks := .later }
def RelationCondensesUptoCardSaid : Prop := Claim7.holds Tryd.pinned (.plain (OpenSpec.upto relationCondensesSpec)) relationCondensesUptoCard

/-- THE SECOND FORM's CARD OF 'semigrouplaw02.RelationAcyclic'. -/
def relationAcyclicUptoCard : Claim7 := { stood := { row := relationAcyclicUptoRow, standIns := [], harness := (true, "a441c88420722738c081f754c06b46a318136868dd0b13f276ce7325970c49ff"), looks := false }, kinds := [], alts := [], laidByText := true, laidKinds := [.data], laidTests := true, laidLooks := .later }
def RelationAcyclicUptoCardSaid : Prop := Claim7.holds Tryd.pinned (.plain (OpenSpec.upto relationAcyclicSpec)) relationAcyclicUptoCard
end Rows
end Go.Proofs.YtbmbgdfnhbkelaaDoor
