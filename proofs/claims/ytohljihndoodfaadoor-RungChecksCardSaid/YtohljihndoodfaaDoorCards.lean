/-
  DERIVED. GIVEN WITH THE SEED: THE CARDS: each row of YtohljihndoodfaaDoorRows.lean that lists a variable, with what it lists TIED to the program's text (the seventh form; the later family's looks); each row that meets fmt, with fmt's text TOLD by the authors' own Lean function (tested against real Go, not proved from fmt's source: count such statements apart). THE CARD IS WHAT COUNTS. Prove the row's statement (the work); the ties are given (YtohljihndoodfaaDoorTie.lean); close each card by the builder's one call (the guide's Derived/Test/ToyasCard.lean, 'card_holds'). Laid BY PROGRAM, IN A SANDBOX (cutbox-door.mjs). By AI agents, Wed Nov 11 2026. No macro, syntax, notation, axiom, sorry.
-/
import Derived.Test.YtohljihndoodfaaDoorRows
import GoSem.ClaimSeven
namespace Go.Proofs.YtohljihndoodfaaDoor
namespace Rows

/-- THE TIED CARD OF 'malthouselaw09.RungChecks'. -/
def rungChecksCard : Claim7 := { stood := { row := rungChecksRow, standIns := [], harness := (true, "37b51b56d3ec3b395f75c8d20cfe11cd7be26d36e0bb8007c930599e8b89af91"), looks := false }, kinds := [], alts := [], laidByText := true, laidKinds := [.data, .data], laidTests := true, laidLooks := .later }
def RungChecksCardSaid : Prop := Claim7.holds Tryd.pinned (.plain (OpenSpec.ofChange rungChecksSpec)) rungChecksCard

/-- THE TIED CARD OF 'malthouselaw09.RungHolds'. -/
def rungHoldsCard : Claim7 := { stood := { row := rungHoldsRow, standIns := [], harness := (true, "37b51b56d3ec3b395f75c8d20cfe11cd7be26d36e0bb8007c930599e8b89af91"), looks := false }, kinds := [], alts := [], laidByText := true, laidKinds := [.data, .data], laidTests := true, laidLooks := .later }
def RungHoldsCardSaid : Prop := Claim7.holds Tryd.pinned (.plain (OpenSpec.ofChange rungHoldsSpec)) rungHoldsCard

/-- THE TIED CARD OF 'malthouselaw09.RungTurns'. -/
def rungTurnsCard : Claim7 := { stood := { row := rungTurnsRow, standIns := [], harness := (true, "37b51b56d3ec3b395f75c8d20cfe11cd7be26d36e0bb8007c930599e8b89af91"), looks := false }, kinds := [], alts := [], laidByText := true, laidKinds := [.data, .data], laidTests := true, laidLooks := .later }
def RungTurnsCardSaid : Prop := Claim7.holds Tryd.pinned (.plain (OpenSpec.ofChange rungTurnsSpec)) rungTurnsCard

/-- THE TIED CARD OF 'malthouselaw09.RungBehind'. -/
def rungBehindCard : Claim7 := { stood := { row := rungBehindRow, standIns := [], harness := (true, "37b51b56d3ec3b395f75c8d20cfe11cd7be26d36e0bb8007c930599e8b89af91"), looks := false }, kinds := [], alts := [], laidByText := true, laidKinds := [.data, .data], laidTests := true, laidLooks := .later }
def RungBehindCardSaid : Prop := Claim7.holds Tryd.pinned (.plain (OpenSpec.ofChange rungBehindSpec)) rungBehindCard

/-- THE TIED CARD OF 'malthouselaw09.RungRises'. -/
def rungRisesCard : Claim7 := { stood := { row := rungRisesRow, standIns := [], harness := (true, "37b51b56d3ec3b395f75c8d20cfe11cd7be26d36e0bb8007c930599e8b89af91"), looks := false }, kinds := [], alts := [], laidByText := true, laidKinds := [.data, .data], laidTests := true, laidLooks := .later }
def RungRisesCardSaid : Prop := Claim7.holds Tryd.pinned (.plain (OpenSpec.ofChange rungRisesSpec)) rungRisesCard

/-- THE SECOND FORM's CARD OF 'malthouselaw09.RungChecks'. -/
def rungChecksUptoCard : Claim7 := { stood := { row := rungChecksUptoRow, standIns := [], harness := (true, "37b51b56d3ec3b395f75c8d20cfe11cd7be26d36e0bb8007c930599e8b89af91"), looks := false }, kinds := [], alts := [], laidByText := true, laidKinds := [.data, .data], laidTests := true, laidLooks := .later }
def RungChecksUptoCardSaid : Prop := Claim7.holds Tryd.pinned (.plain (OpenSpec.upto rungChecksSpec)) rungChecksUptoCard

/-- THE SECOND FORM's CARD OF 'malthouselaw09.RungHolds'. -/
def rungHoldsUptoCard : Claim7 := { stood := { row := rungHoldsUptoRow, standIns := [], harness := (true, "37b51b56d3ec3b395f75c8d20cfe11cd7be26d36e0bb8007c930599e8b89af91"), looks := false }, kinds := [], alts := [], laidByText := true, laidKinds := [.data, .data], laidTests := true, laidLooks := .later }
def RungHoldsUptoCardSaid : Prop := Claim7.holds Tryd.pinned (.plain (OpenSpec.upto rungHoldsSpec)) rungHoldsUptoCard

/-- THE SECOND FORM's CARD OF 'malthouselaw09.RungTurns'. -/
def rungTurnsUptoCard : Claim7 := { stood := { row := rungTurnsUptoRow, standIns := [], harness := (true, "37b51b56d3ec3b395f75c8d20cfe11cd7be26d36e0bb8007c930599e8b89af91"), looks := false }, kinds := [], alts := [], laidByText := true, laidKinds := [.data, .data], laidTests := true, laidLooks := .later }
def RungTurnsUptoCardSaid : Prop := Claim7.holds Tryd.pinned (.plain (OpenSpec.upto rungTurnsSpec)) rungTurnsUptoCard

/-- THE SECOND FORM's CARD OF 'malthouselaw09.RungBehind'. -/
def rungBehindUptoCard : Claim7 := { stood := { row := rungBehindUptoRow, standIns := [], harness := (true, "37b51b56d3ec3b395f75c8d20cfe11cd7be26d36e0bb8007c930599e8b89af91"), looks := false }, kinds := [], alts := [], laidByText := true, laidKinds := [.data, .data], laidTests := true, laidLooks := .later }
def RungBehindUptoCardSaid : Prop := Claim7.holds Tryd.pinned (.plain (OpenSpec.upto rungBehindSpec)) rungBehindUptoCard

/-- THE SECOND FORM's CARD OF 'malthouselaw09.RungRises'. -/
def rungRisesUptoCard : Claim7 := { stood := { row := rungRisesUptoRow, standIns := [], harness := (true, "37b51b56d3ec3b395f75c8d20cfe11cd7be26d36e0bb8007c930599e8b89af91"), looks := false }, kinds := [], alts := [], laidByText := true, laidKinds := [.data, .data], laidTests := true, laidLooks := .later }
def RungRisesUptoCardSaid : Prop := Claim7.holds Tryd.pinned (.plain (OpenSpec.upto rungRisesSpec)) rungRisesUptoCard
end Rows
end Go.Proofs.YtohljihndoodfaaDoor
