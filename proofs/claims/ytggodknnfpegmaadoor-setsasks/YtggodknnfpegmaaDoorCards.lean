/-
  DERIVED. GIVEN WITH THE SEED: THE CARDS: each row of YtggodknnfpegmaaDoorRows.lean that lists a variable, with what it lists TIED to the program's text (the seventh form; the later family's looks); each row that meets fmt, with fmt's text TOLD by the authors' own Lean function (tested against real Go, not proved from fmt's source: count such statements apart). THE CARD IS WHAT COUNTS. Prove the row's statement (the work); the ties are given (YtggodknnfpegmaaDoorTie.lean); close each card by the builder's one call (the guide's Derived/Test/ToyasCard.lean, 'card_holds'). Laid BY PROGRAM, IN A SANDBOX (cutbox-door.mjs). By AI agents, Wed Nov 11 2026. No macro, syntax, notation, axiom, sorry.
-/
import Derived.Test.YtggodknnfpegmaaDoorRows
import GoSem.ClaimSeven
namespace Go.Proofs.YtggodknnfpegmaaDoor
namespace Rows

/-- THE TIED CARD OF 'graftlaw7.SetsBook'. -/
def setsBookCard : Claim7 := { stood := { row := setsBookRow, standIns := [], harness := (true, "9ff8381862645fbe71fe5cde2c62615d5b4adc548f6713cf3185faf5e5ee77b3"), looks := false }, kinds := [], alts := [], laidByText := true, laidKinds := [.data], laidTests := true, laidLooks := .later }
def SetsBookCardSaid : Prop := Claim7.holds Tryd.pinned (.plain (OpenSpec.ofChange setsBookSpec)) setsBookCard

/-- THE TIED CARD OF 'graftlaw7.SetsChecks'. -/
def setsChecksCard : Claim7 := { stood := { row := setsChecksRow, standIns := [], harness := (true, "9ff8381862645fbe71fe5cde2c62615d5b4adc548f6713cf3185faf5e5ee77b3"), looks := false }, kinds := [], alts := [], laidByText := true, laidKinds := [.data], laidTests := true, laidLooks := .later }
def SetsChecksCardSaid : Prop := Claim7.holds Tryd.pinned (.plain (OpenSpec.ofChange setsChecksSpec)) setsChecksCard

/-- THE TIED CARD OF 'graftlaw7.SetsHeads'. -/
def setsHeadsCard : Claim7 := { stood := { row := setsHeadsRow, standIns := [], harness := (true, "9ff8381862645fbe71fe5cde2c62615d5b4adc548f6713cf3185faf5e5ee77b3"), looks := false }, kinds := [], alts := [], laidByText := true, laidKinds := [.data], laidTests := true, laidLooks := .later }
def SetsHeadsCardSaid : Prop := Claim7.holds Tryd.pinned (.plain (OpenSpec.ofChange setsHeadsSpec)) setsHeadsCard

/-- THE TIED CARD OF 'graftlaw7.SetsAsks'. -/
def setsAsksCard : Claim7 := { stood := { row := setsAsksRow, standIns := [], harness := (true, "9ff8381862645fbe71fe5cde2c62615d5b4adc548f6713cf3185faf5e5ee77b3"), looks := false }, kinds := [], alts := [], laidByText := true, laidKinds := [.data], laidTests := true, laidLooks := .later }
def SetsAsksCardSaid : Prop := Claim7.holds Tryd.pinned (.plain (OpenSpec.ofChange setsAsksSpec)) setsAsksCard

/-- THE SECOND FORM's CARD OF 'graftlaw7.SetsBook'. -/
def setsBookUptoCard : Claim7 := { stood := { row := setsBookUptoRow, standIns := [], harness := (true, "9ff8381862645fbe71fe5cde2c62615d5b4adc548f6713cf3185faf5e5ee77b3"), looks := false }, kinds := [], alts := [], laidByText := true, laidKinds := [.data], laidTests := true, laidLooks := .later }
def SetsBookUptoCardSaid : Prop := Claim7.holds Tryd.pinned (.plain (OpenSpec.upto setsBookSpec)) setsBookUptoCard

/-- THE SECOND FORM's CARD OF 'graftlaw7.SetsChecks'. -/
def setsChecksUptoCard : Claim7 := { stood := { row := setsChecksUptoRow, standIns := [], harness := (true, "9ff8381862645fbe71fe5cde2c62615d5b4adc548f6713cf3185faf5e5ee77b3"), looks := false }, kinds := [], alts := [], laidByText := true, laidKinds := [.data], laidTests := true, laidLooks := .later }
def SetsChecksUptoCardSaid : Prop := Claim7.holds Tryd.pinned (.plain (OpenSpec.upto setsChecksSpec)) setsChecksUptoCard

/-- THE SECOND FORM's CARD OF 'graftlaw7.SetsHeads'. -/
def setsHeadsUptoCard : Claim7 := { stood := { row := setsHeadsUptoRow, standIns := [], harness := (true, "9ff8381862645fbe71fe5cde2c62615d5b4adc548f6713cf3185faf5e5ee77b3"), looks := false }, kinds := [], alts := [], laidByText := true, laidKinds := [.data], laidTests := true, laidLooks := .later }
def SetsHeadsUptoCardSaid : Prop := Claim7.holds Tryd.pinned (.plain (OpenSpec.upto setsHeadsSpec)) setsHeadsUptoCard

/-- THE SECOND FORM's CARD OF 'graftlaw7.SetsAsks'. -/
def setsAsksUptoCard : Claim7 := { stood := { row := setsAsksUptoRow, standIns := [], harness := (true, "9ff8381862645fbe71fe5cde2c62615d5b4adc548f6713cf3185faf5e5ee77b3"), looks := false }, kinds := [], alts := [], laidByText := true, laidKinds := [.data], laidTests := true, laidLooks := .later }
def SetsAsksUptoCardSaid : Prop := Claim7.holds Tryd.pinned (.plain (OpenSpec.upto setsAsksSpec)) setsAsksUptoCard
end Rows
end Go.Proofs.YtggodknnfpegmaaDoor
