/-
  DERIVED. GIVEN WITH THE SEED: THE CARDS: each row of YtkkdhlngmjcolaaGreatDoorRows.lean that lists a variable, with what it lists TIED to the program's text (the seventh form; the later family's looks); each row that meets fmt, with fmt's text TOLD by the authors' own Lean function (tested against real Go, not proved from fmt's source: count such statements apart). THE CARD IS WHAT COUNTS. Prove the row's statement (the work); the ties are given (YtkkdhlngmjcolaaGreatDoorTie.lean); close each card by the builder's one call (the guide's Derived/Test/ToyasCard.lean, 'card_holds'). Laid BY PROGRAM, IN A SANDBOX (cutbox-door.mjs). By AI agents, Wed Nov 11 2026. No macro, syntax, notation, axiom, sorry.
-/
import Derived.Test.YtkkdhlngmjcolaaGreatDoorRows
import GoSem.ClaimSeven
namespace Go.Proofs.YtkkdhlngmjcolaaGreatDoor
namespace Rows

/-- THE TIED CARD OF 'graftlaw2.ExprShorts'. -/
def exprShortsCard : Claim7 := { stood := { row := exprShortsRow, standIns := [], harness := (true, "88685dfd31153c42f4167e4965fe6824d206a08dac99bfe8b80c8f2592f1da1a"), looks := false }, kinds := [], alts := [], laidByText := true, laidKinds := [.data, .data, .data], laidTests := true, laidLooks := .later }
def ExprShortsCardSaid : Prop := Claim7.holds Tryz.pinned (.plain (OpenSpec.ofChange exprShortsSpec)) exprShortsCard

/-- THE SECOND FORM's CARD OF 'graftlaw2.ExprShorts'. -/
def exprShortsUptoCard : Claim7 := { stood := { row := exprShortsUptoRow, standIns := [], harness := (true, "88685dfd31153c42f4167e4965fe6824d206a08dac99bfe8b80c8f2592f1da1a"), looks := false }, kinds := [], alts := [], laidByText := true, laidKinds := [.data, .data, .data], laidTests := true, laidLooks := .later }
def ExprShortsUptoCardSaid : Prop := Claim7.holds Tryz.pinned (.plain (OpenSpec.upto exprShortsSpec)) exprShortsUptoCard
end Rows
end Go.Proofs.YtkkdhlngmjcolaaGreatDoor
