/-
  DERIVED. GIVEN WITH THE SEED: THE CARDS: each row of YtfajoknacfjedaaGreatDoorRows.lean that lists a variable, with what it lists TIED to the program's text (the seventh form; the later family's looks); each row that meets fmt, with fmt's text TOLD by the authors' own Lean function (tested against real Go, not proved from fmt's source: count such statements apart). THE CARD IS WHAT COUNTS. Prove the row's statement (the work); the ties are given (YtfajoknacfjedaaGreatDoorTie.lean); close each card by the builder's one call (the guide's Derived/Test/ToyasCard.lean, 'card_holds'). Laid BY PROGRAM, IN A SANDBOX (cutbox-door.mjs). By AI agents, Wed Nov 11 2026. No macro, syntax, notation, axiom, sorry.
-/
import Derived.Test.YtfajoknacfjedaaGreatDoorRows
import GoSem.ClaimSeven
namespace Go.Proofs.YtfajoknacfjedaaGreatDoor
namespace Rows

/-- THE TIED CARD OF 'graftlaw2.ExprOwn'. -/
def exprOwnCard : Claim7 := { stood := { row := exprOwnRow, standIns := [], harness := (true, "facc822ac52d19e4993f1498e7125d0909354b3ed1b28de5616a8f33d1a4a62e"), looks := false }, kinds := [], alts := [], laidByText := true, laidKinds := [.data, .data, .data], laidTests := true, laidLooks := .later }
def ExprOwnCardSaid : Prop := Claim7.holds Tryz.pinned (.plain (OpenSpec.ofChange exprOwnSpec)) exprOwnCard

/-- THE SECOND FORM's CARD OF 'graftlaw2.ExprOwn'. -/
def exprOwnUptoCard : Claim7 := { stood := { row := exprOwnUptoRow, standIns := [], harness := (true, "facc822ac52d19e4993f1498e7125d0909354b3ed1b28de5616a8f33d1a4a62e"), looks := false }, kinds := [], alts := [], laidByText := true, laidKinds := [.data, .data, .data], laidTests := true, laidLooks := .later }
def ExprOwnUptoCardSaid : Prop := Claim7.holds Tryz.pinned (.plain (OpenSpec.upto exprOwnSpec)) exprOwnUptoCard
end Rows
end Go.Proofs.YtfajoknacfjedaaGreatDoor
