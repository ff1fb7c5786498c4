/-
  DERIVED. GIVEN WITH THE SEED: THE CARDS: each row of YtbnchnlogikecaaGreatDoorRows.lean that lists a variable, with what it lists TIED to the program's text (the seventh form; the later family's looks); each row that meets fmt, with fmt's text TOLD by the authors' own Lean function (tested against real Go, not proved from fmt's source: count such statements apart). THE CARD IS WHAT COUNTS. Prove the row's statement (the work); the ties are given (YtbnchnlogikecaaGreatDoorTie.lean); close each card by the builder's one call (the guide's Derived/Test/ToyasCard.lean, 'card_holds'). Laid BY PROGRAM, IN A SANDBOX (cutbox-door.mjs). By AI agents, Wed Nov 11 2026. No macro, syntax, notation, axiom, sorry.
-/
import Derived.Test.YtbnchnlogikecaaGreatDoorRows
import GoSem.ClaimSeven
namespace Go.Proofs.YtbnchnlogikecaaGreatDoor
namespace Rows

/-- THE TIED CARD OF 'graftlaw6.SpecCut'. -/
def specCutCard : Claim7 := { stood := { row := specCutRow, standIns := [], harness := (true, "e67ca47c93e591d7af285f664ee7062d915a95b2ce2730eecc9746adc94c72b5"), looks := true }, kinds := [], alts := [], laidByText := true, laidKinds := [.data, .data, .data], laidTests := true, laidLooks := .later }
def SpecCutCardSaid : Prop := Claim7.holds Tryz.pinned (.plain (OpenSpec.ofChange specCutSpec)) specCutCard

/-- THE TIED CARD OF 'graftlaw6.SpecRound'. -/
def specRoundCard : Claim7 := { stood := { row := specRoundRow, standIns := [], harness := (true, "e67ca47c93e591d7af285f664ee7062d915a95b2ce2730eecc9746adc94c72b5"), looks := true }, kinds := [], alts := [], laidByText := true, laidKinds := [.data, .data, .data], laidTests := true, laidLooks := .later }
def SpecRoundCardSaid : Prop := Claim7.holds Tryz.pinned (.plain (OpenSpec.ofChange specRoundSpec)) specRoundCard

/-- THE TIED CARD OF 'graftlaw6.SpecAgain'. -/
def specAgainCard : Claim7 := { stood := { row := specAgainRow, standIns := [], harness := (true, "e67ca47c93e591d7af285f664ee7062d915a95b2ce2730eecc9746adc94c72b5"), looks := true }, kinds := [], alts := [], laidByText := true, laidKinds := [.data, .data, .data], laidTests := true, laidLooks := .later }
def SpecAgainCardSaid : Prop := Claim7.holds Tryz.pinned (.plain (OpenSpec.ofChange specAgainSpec)) specAgainCard

/-- THE TIED CARD OF 'graftlaw6.SpecLists'. -/
def specListsCard : Claim7 := { stood := { row := specListsRow, standIns := [], harness := (true, "e67ca47c93e591d7af285f664ee7062d915a95b2ce2730eecc9746adc94c72b5"), looks := true }, kinds := [], alts := [], laidByText := true, laidKinds := [.data, .data, .data], laidTests := true, laidLooks := .later }
def SpecListsCardSaid : Prop := Claim7.holds Tryz.pinned (.plain (OpenSpec.ofChange specListsSpec)) specListsCard

/-- THE TIED CARD OF 'graftlaw6.SpecBlanks'. -/
def specBlanksCard : Claim7 := { stood := { row := specBlanksRow, standIns := [], harness := (true, "e67ca47c93e591d7af285f664ee7062d915a95b2ce2730eecc9746adc94c72b5"), looks := true }, kinds := [], alts := [], laidByText := true, laidKinds := [.data, .data, .data], laidTests := true, laidLooks := .later }
def SpecBlanksCardSaid : Prop := Claim7.holds Tryz.pinned (.plain (OpenSpec.ofChange specBlanksSpec)) specBlanksCard

/-- THE TIED CARD OF 'graftlaw6.SpecBook'. -/
def specBookCard : Claim7 := { stood := { row := specBookRow, standIns := [], harness := (true, "e67ca47c93e591d7af285f664ee7062d915a95b2ce2730eecc9746adc94c72b5"), looks := true }, kinds := [], alts := [], laidByText := true, laidKinds := [.data, .data, .data], laidTests := true, laidLooks := .later }
def SpecBookCardSaid : Prop := Claim7.holds Tryz.pinned (.plain (OpenSpec.ofChange specBookSpec)) specBookCard

/-- THE SECOND FORM's CARD OF 'graftlaw6.SpecCut'. -/
def specCutUptoCard : Claim7 := { stood := { row := specCutUptoRow, standIns := [], harness := (true, "e67ca47c93e591d7af285f664ee7062d915a95b2ce2730eecc9746adc94c72b5"), looks := true }, kinds := [], alts := [], laidByText := true, laidKinds := [.data, .data, .data], laidTests := true, laidLooks := .later }
def SpecCutUptoCardSaid : Prop := Claim7.holds Tryz.pinned (.plain (OpenSpec.upto specCutSpec)) specCutUptoCard

/-- THE SECOND FORM's CARD OF 'graftlaw6.SpecRound'. -/
def specRoundUptoCard : Claim7 := { stood := { row := specRoundUptoRow, standIns := [], harness := (true, "e67ca47c93e591d7af285f664ee7062d915a95b2ce2730eecc9746adc94c72b5"), looks := true }, kinds := [], alts := [], laidByText := true, laidKinds := [.data, .data, .data], laidTests := true, laidLooks := .later }
def SpecRoundUptoCardSaid : Prop := Claim7.holds Tryz.pinned (.plain (OpenSpec.upto specRoundSpec)) specRoundUptoCard

/-- THE SECOND FORM's CARD OF 'graftlaw6.SpecAgain'. -/
def specAgainUptoCard : Claim7 := { stood := { row := specAgainUptoRow, standIns := [], harness := (true, "e67ca47c93e591d7af285f664ee7062d915a95b2ce2730eecc9746adc94c72b5"), looks := true }, kinds := [], alts := [], laidByText := true, laidKinds := [.data, .data, .data], laidTests := true, laidLooks := .later }
def SpecAgainUptoCardSaid : Prop := Claim7.holds Tryz.pinned (.plain (OpenSpec.upto specAgainSpec)) specAgainUptoCard

/-- THE SECOND FORM's CARD OF 'graftlaw6.SpecLists'. -/
def specListsUptoCard : Claim7 := { stood := { row := specListsUptoRow, standIns := [], harness := (true, "e67ca47c93e591d7af285f664ee7062d915a95b2ce2730eecc9746adc94c72b5"), looks := true }, kinds := [], alts := [], laidByText := true, laidKinds := [.data, .data, .data], laidTests := true, laidLooks := .later }
def SpecListsUptoCardSaid : Prop := Claim7.holds Tryz.pinned (.plain (OpenSpec.upto specListsSpec)) specListsUptoCard

/-- THE SECOND FORM's CARD OF 'graftlaw6.SpecBlanks'. -/
def specBlanksUptoCard : Claim7 := { stood := { row := specBlanksUptoRow, standIns := [], harness := (true, "e67ca47c93e591d7af285f664ee7062d915a95b2ce2730eecc9746adc94c72b5"), looks := true }, kinds := [], alts := [], laidByText := true, laidKinds := [.data, .data, .data], laidTests := true, laidLooks := .later }
def SpecBlanksUptoCardSaid : Prop := Claim7.holds Tryz.pinned (.plain (OpenSpec.upto specBlanksSpec)) specBlanksUptoCard

/-- THE SECOND FORM's CARD OF 'graftlaw6.SpecBook'. -/
def specBookUptoCard : Claim7 := { stood := { row := specBookUptoRow, standIns := [], harness := (true, "e67ca47c93e591d7af285f664ee7062d915a95b2ce2730eecc9746adc94c72b5"), looks := true }, kinds := [], alts := [], laidByText := true, laidKinds := [.data, .data, .data], laidTests := true, laidLooks := .later }
def SpecBookUptoCardSaid : Prop := Claim7.holds Tryz.pinned (.plain (OpenSpec.upto specBookSpec)) specBookUptoCard
end Rows
end Go.Proofs.YtbnchnlogikecaaGreatDoor
