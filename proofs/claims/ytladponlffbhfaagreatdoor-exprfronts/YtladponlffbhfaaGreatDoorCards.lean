/-
  DERIVED. GIVEN WITH THE SEED: THE CARDS: each row of YtladponlffbhfaaGreatDoorRows.lean that lists a variable, with what it lists TIED to the program's text (the seventh form; the later family's looks); each row that meets fmt, with fmt's text TOLD by the authors' own Lean function (tested against real Go, not proved from fmt's source: count such statements apart). THE CARD IS WHAT COUNTS. Prove the row's statement (the work); the ties are given (YtladponlffbhfaaGreatDoorTie.lean); close each card by the builder's one call (the guide's Derived/Test/ToyasCard.lean, 'card_holds'). Laid BY PROGRAM, IN A SANDBOX (cutbox-door.mjs). By AI agents, Wed Nov 11 2026. No macro, syntax, notation, axiom, sorry.
-/
import Derived.Test.YtladponlffbhfaaGreatDoorRows
import GoSem.ClaimSeven
namespace Go.Proofs.YtladponlffbhfaaGreatDoor
namespace Rows

/-- THE TIED CARD OF 'graftlaw2.ExprFronts'. -/
def exprFrontsCard : Claim7 := { stood := { row := exprFrontsRow, standIns := [], harness := (true, "99cc1200fb3908255f1f19784de640ddbdcc8cb1026aadb42da515859c2d4633"), looks := false }, kinds := [], alts := [], laidByText := true, laidKinds := [.data, .data, .data], laidTests := true, laidLooks := .later }
def ExprFrontsCardSaid : Prop := Claim7.holds Tryz.pinned (.plain (OpenSpec.ofChange exprFrontsSpec)) exprFrontsCard

/-- THE SECOND FORM's CARD OF 'graftlaw2.ExprFronts'. -/
def exprFrontsUptoCard : Claim7 := { stood := { row := exprFrontsUptoRow, standIns := [], harness := (true, "99cc1200fb3908255f1f19784de640ddbdcc8cb1026aadb42da515859c2d4633"), looks := false }, kinds := [], alts := [], laidByText := true, laidKinds := [.data, .data, .data], laidTests := true, laidLooks := .later }
def ExprFrontsUptoCardSaid : Prop := Claim7.holds Tryz.pinned (.plain (OpenSpec.upto exprFrontsSpec)) exprFrontsUptoCard
end Rows
end Go.Proofs.YtladponlffbhfaaGreatDoor
