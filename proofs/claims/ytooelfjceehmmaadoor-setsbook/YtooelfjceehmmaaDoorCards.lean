/-
  DERIVED. GIVEN WITH THE SEED: THE CARDS: each row of YtooelfjceehmmaaDoorRows.lean that lists a variable, with what it lists TIED to the program's text (the seventh form; the later family's looks); each row that meets fmt, with fmt's text TOLD by the authors' own Lean function (tested against real Go, not proved from fmt's source: count such statements apart). THE CARD IS WHAT COUNTS. Prove the row's statement (the work); the ties are given (YtooelfjceehmmaaDoorTie.lean); close each card by the builder's one call (the guide's Derived/Test/ToyasCard.lean, 'card_holds'). Laid BY PROGRAM, IN A SANDBOX (cutbox-door.mjs). By AI agents, Wed Nov 11 2026. No macro, syntax, notation, axiom, sorry.
-/
import Derived.Test.YtooelfjceehmmaaDoorRows
import GoSem.ClaimSeven
namespace Go.Proofs.YtooelfjceehmmaaDoor
namespace Rows

/-- THE TIED CARD OF 'graftlaw7.SetsBook'. -/
def setsBookCard : Claim7 := { stood := { row := setsBookRow, standIns := [], harness := (true, "69274bf7a0c9bbfbb4aa568bdac7987495d4218a47f724e4864d7e4d6ac681c7"), looks := false }, kinds := [], alts := [], laidByText := true, laidKinds := [.data], laidTests := true, laidLooks := .later }
def SetsBookCardSaid : Prop := Claim7.holds Tryd.pinned (.plain (OpenSpec.ofChange setsBookSpec)) setsBookCard

/-- THE TIED CARD OF 'graftlaw7.SetsHeads'. -/
def setsHeadsCard : Claim7 := { stood := { row := setsHeadsRow, standIns := [], harness := (true, "69274bf7a0c9bbfbb4aa568bdac7987495d4218a47f724e4864d7e4d6ac681c7"), looks := false }, kinds := [], alts := [], laidByText := true, laidKinds := [.data], laidTests := true, laidLooks := .later }
def SetsHeadsCardSaid : Prop := Claim7.holds Tryd.pinned (.plain (OpenSpec.ofChange setsHeadsSpec)) setsHeadsCard

/-- THE SECOND FORM's CARD OF 'graftlaw7.SetsBook'. -/
def setsBookUptoCard : Claim7 := { stood := { row := setsBookUptoRow, standIns := [], harness := (true, "69274bf7a0c9bbfbb4aa568bdac7987495d4218a47f724e4864d7e4d6ac681c7"), looks := false }, kinds := [], alts := [], laidByText := true, laidKinds := [.data], laidTests := true, laidLooks := .later }
def SetsBookUptoCardSaid : Prop := Claim7.holds Tryd.pinned (.plain (OpenSpec.upto setsBookSpec)) setsBookUptoCard

/-- THE SECOND FORM's CARD OF 'graftlaw7.SetsHeads'. -/
def setsHeadsUptoCard : Claim7 := { stood := { row := setsHeadsUptoRow, standIns := [], harness := (true, "69274bf7a0c9bbfbb4aa568bdac7987495d4218a47f724e4864d7e4d6ac681c7"), looks := false }, kinds := [], alts := [], laidByText := true, laidKinds := [.data], laidTests := true, laidLooks := .later }
def SetsHeadsUptoCardSaid : Prop := Claim7.holds Tryd.pinned (.plain (OpenSpec.upto setsHeadsSpec)) setsHeadsUptoCard
end Rows
end Go.Proofs.YtooelfjceehmmaaDoor
