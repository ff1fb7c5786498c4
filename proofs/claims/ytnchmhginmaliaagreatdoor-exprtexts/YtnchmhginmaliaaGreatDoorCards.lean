/-
  DERIVED. GIVEN WITH THE SEED: THE CARDS: each row of YtnchmhginmaliaaGreatDoorRows.lean that lists a variable, with what it lists TIED to the program's text (the seventh form; the later family's looks); each row that meets fmt, with fmt's text TOLD by the authors' own Lean function (tested against real Go, not proved from fmt's source: count such statements apart). THE CARD IS WHAT COUNTS. Prove the row's statement (the work); the ties are given (YtnchmhginmaliaaGreatDoorTie.lean); close each card by the builder's one call (the guide's Derived/Test/ToyasCard.lean, 'card_holds'). Laid BY PROGRAM, IN A SANDBOX (cutbox-door.mjs). By AI agents, Wed Nov 11 2026. No macro, syntax, notation, axiom, sorry.
-/
import Derived.Test.YtnchmhginmaliaaGreatDoorRows
import GoSem.ClaimSeven
namespace Go.Proofs.YtnchmhginmaliaaGreatDoor
namespace Rows

/-- THE TIED CARD OF 'graftlaw2.ExprTexts'. -/
def exprTextsCard : Claim7 := { stood := { row := exprTextsRow, standIns := [], harness := (true, "6ff2234b5fbc38b3d4f719d5ce4cfd05c0bf9bdc344a8b70fbb9ce4cab84b3f9"), looks := false }, kinds := [], alts := [], laidByText := true, laidKinds := [.data, .data, .data], laidTests := true, laidLooks := .later }
def ExprTextsCardSaid : Prop := Claim7.holds Tryz.pinned (.plain (OpenSpec.ofChange exprTextsSpec)) exprTextsCard

/-- THE SECOND FORM's CARD OF 'graftlaw2.ExprTexts'. -/
def exprTextsUptoCard : Claim7 := { stood := { row := exprTextsUptoRow, standIns := [], harness := (true, "6ff2234b5fbc38b3d4f719d5ce4cfd05c0bf9bdc344a8b70fbb9ce4cab84b3f9"), looks := false }, kinds := [], alts := [], laidByText := true, laidKinds := [.data, .data, .data], laidTests := true, laidLooks := .later }
def ExprTextsUptoCardSaid : Prop := Claim7.holds Tryz.pinned (.plain (OpenSpec.upto exprTextsSpec)) exprTextsUptoCard
end Rows
end Go.Proofs.YtnchmhginmaliaaGreatDoor
