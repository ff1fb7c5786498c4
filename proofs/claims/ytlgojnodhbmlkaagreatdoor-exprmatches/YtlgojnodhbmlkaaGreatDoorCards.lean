/-
  DERIVED. GIVEN WITH THE SEED: THE CARDS: each row of YtlgojnodhbmlkaaGreatDoorRows.lean that lists a variable, with what it lists TIED to the program's text (the seventh form; the later family's looks); each row that meets fmt, with fmt's text TOLD by the authors' own Lean function (tested against real Go, not proved from fmt's source: count such statements apart). THE CARD IS WHAT COUNTS. Prove the row's statement (the work); the ties are given (YtlgojnodhbmlkaaGreatDoorTie.lean); close each card by the builder's one call (the guide's Derived/Test/ToyasCard.lean, 'card_holds'). Laid BY PROGRAM, IN A SANDBOX (cutbox-door.mjs). By AI agents, Wed Nov 11 2026. No macro, syntax, notation, axiom, sorry.
-/
import Derived.Test.YtlgojnodhbmlkaaGreatDoorRows
import GoSem.ClaimSeven
namespace Go.Proofs.YtlgojnodhbmlkaaGreatDoor
namespace Rows

/-- THE TIED CARD OF 'graftlaw2.ExprMatches'. -/
def exprMatchesCard : Claim7 := { stood := { row := exprMatchesRow, standIns := [], harness := (true, "e82393abda2ed3a23024f758274d3bb4dcd0fd244cda2115aca8fe3663621200"), looks := false }, kinds := [], alts := [], laidByText := true, laidKinds := [.data, .data, .data], laidTests := true, laidLooks := .later }
def ExprMatchesCardSaid : Prop := Claim7.holds Tryz.pinned (.plain (OpenSpec.ofChange exprMatchesSpec)) exprMatchesCard

/-- THE SECOND FORM's CARD OF 'graftlaw2.ExprMatches'. -/
def exprMatchesUptoCard : Claim7 := { stood := { row := exprMatchesUptoRow, standIns := [], harness := (true, "e82393abda2ed3a23024f758274d3bb4dcd0fd244cda2115aca8fe3663621200"), looks := false }, kinds := [], alts := [], laidByText := true, laidKinds := [.data, .data, .data], laidTests := true, laidLooks := .later }
def ExprMatchesUptoCardSaid : Prop := Claim7.holds Tryz.pinned (.plain (OpenSpec.upto exprMatchesSpec)) exprMatchesUptoCard
end Rows
end Go.Proofs.YtlgojnodhbmlkaaGreatDoor
