/-
  DERIVED. GIVEN WITH THE SEED: THE CARDS: each row of YtnfoaggiaogkbaaDoorRows.lean that lists a variable, with what it lists TIED to the program's text (the seventh form; the later family's looks); each row that meets fmt, with fmt's text TOLD by the authors' own Lean function (tested against real Go, not proved from fmt's source: count such statements apart). THE CARD IS WHAT COUNTS. Prove the row's statement (the work); the ties are given (YtnfoaggiaogkbaaDoorTie.lean); close each card by the builder's one call (the guide's Derived/Test/ToyasCard.lean, 'card_holds'). Laid BY PROGRAM, IN A SANDBOX (cutbox-door.mjs). By AI agents, Wed Nov 11 2026. No macro, syntax, notation, axiom, sorry.
-/
import Derived.Test.YtnfoaggiaogkbaaDoorRows
import GoSem.ClaimSeven
namespace Go.Proofs.YtnfoaggiaogkbaaDoor
namespace Rows

/-- THE TIED CARD OF 'malthouselaw09.RungChecks'. -/
def rungChecksCard : Claim7 := { stood := { row := rungChecksRow, standIns := [], harness := (true, "025a1e9640e8b3f76834d77fba0d9d556751a7550dca81c813a3bd227041cc1f"), looks := false }, kinds := [], alts := [], laidByText := true, laidKinds := [.data, .data], laidTests := true, laidLooks := .later }
def RungChecksCardSaid : Prop := Claim7.holds Tryd.pinned (.plain (OpenSpec.ofChange rungChecksSpec)) rungChecksCard

/-- THE TIED CARD OF 'malthouselaw09.RungHolds'. -/
def rungHoldsCard : Claim7 := { stood := { row := rungHoldsRow, standIns := [], harness := (true, "025a1e9640e8b3f76834d77fba0d9d556751a7550dca81c813a3bd227041cc1f"), looks := false }, kinds := [], alts := [], laidByText := true, laidKinds := [.data, .data], laidTests := true, laidLooks := .later }
def RungHoldsCardSaid : Prop := Claim7.holds Tryd.pinned (.plain (OpenSpec.ofChange rungHoldsSpec)) rungHoldsCard

/-- THE TIED CARD OF 'malthouselaw09.RungTurns'. -/
def rungTurnsCard : Claim7 := { stood := { row := rungTurnsRow, standIns := [], harness := (true, "025a1e9640e8b3f76834d77fba0d9d556751a7550dca81c813a3bd227041cc1f"), looks := false }, kinds := [], alts := [], laidByText := true, laidKinds := [.data, .data], laidTests := true, laidLooks := .later }
def RungTurnsCardSaid : Prop := Claim7.holds Tryd.pinned (.plain (OpenSpec.ofChange rungTurnsSpec)) rungTurnsCard

/-- THE TIED CARD OF 'malthouselaw09.RungBehind'. -/
def rungBehindCard : Claim7 := { stood := { row := rungBehindRow, standIns := [], harness := (true, "025a1e9640e8b3f76834d77fba0d9d556751a7550dca81c813a3bd227041cc1f"), looks := false }, kinds := [], alts := [], laidByText := true, laidKinds := [.data, .data], laidTests := true, laidLooks := .later }
def RungBehindCardSaid : Prop := Claim7.holds Tryd.pinned (.plain (OpenSpec.ofChange rungBehindSpec)) rungBehindCard

/-- THE TIED CARD OF 'malthouselaw09.RungRises'. -/
def rungRisesCard : Claim7 := { stood := { row := rungRisesRow, standIns := [], harness := (true, "025a1e9640e8b3f76834d77fba0d9d556751a7550dca81c813a3bd227041cc1f"), looks := false }, kinds := [], alts := [], laidByText := true, laidKinds := [.data, .data], laidTests := true, laidLooks := .later }
def RungRisesCardSaid : Prop := Claim7.holds Tryd.pinned (.plain (OpenSpec.ofChange rungRisesSpec)) rungRisesCard

/-- THE TIED CARD OF 'malthouselaw09.RungLatches'. -/
def rungLatchesCard : Claim7 := { stood := { row := rungLatchesRow, standIns := [], harness := (true, "025a1e9640e8b3f76834d77fba0d9d556751a7550dca81c813a3bd227041cc1f"), looks := false }, kinds := [], alts := [], laidByText := true, laidKinds := [.data, .data], laidTests := true, laidLooks := .later }
def RungLatchesCardSaid : Prop := Claim7.holds Tryd.pinned (.plain (OpenSpec.ofChange rungLatchesSpec)) rungLatchesCard

/-- THE SECOND FORM's CARD OF 'malthouselaw09.RungChecks'. -/
def rungChecksUptoCard : Claim7 := { stood := { row := rungChecksUptoRow, standIns := [], harness := (true, "025a1e9640e8b3f76834d77fba0d9d556751a7550dca81c813a3bd227041cc1f"), looks := false }, kinds := [], alts := [], laidByText := true, laidKinds := [.data, .data], laidTests := true, laidLooks := .later }
def RungChecksUptoCardSaid : Prop := Claim7.holds Tryd.pinned (.plain (OpenSpec.upto rungChecksSpec)) rungChecksUptoCard

/-- THE SECOND FORM's CARD OF 'malthouselaw09.RungHolds'. -/
def rungHoldsUptoCard : Claim7 := { stood := { row := rungHoldsUptoRow, standIns := [], harness := (true, "025a1e9640e8b3f76834d77fba0d9d556751a7550dca81c813a3bd227041cc1f"), looks := false }, kinds := [], alts := [], laidByText := true, laidKinds := [.data, .data], laidTests := true, laidLooks := .later }
def RungHoldsUptoCardSaid : Prop := Claim7.holds Tryd.pinned (.plain (OpenSpec.upto rungHoldsSpec)) rungHoldsUptoCard

/-- THE SECOND FORM's CARD OF 'malthouselaw09.RungTurns'. -/
def rungTurnsUptoCard : Claim7 := { stood := { row := rungTurnsUptoRow, standIns := [], harness := (true, "025a1e9640e8b3f76834d77fba0d9d556751a7550dca81c813a3bd227041cc1f"), looks := false }, kinds := [], alts := [], laidByText := true, laidKinds := [.data, .data], laidTests := true, laidLooks := .later }
def RungTurnsUptoCardSaid : Prop := Claim7.holds Tryd.pinned (.plain (OpenSpec.upto rungTurnsSpec)) rungTurnsUptoCard

/-- THE SECOND FORM's CARD OF 'malthouselaw09.RungBehind'. -/
def rungBehindUptoCard : Claim7 := { stood := { row := rungBehindUptoRow, standIns := [], harness := (true, "025a1e9640e8b3f76834d77fba0d9d556751a7550dca81c813a3bd227041cc1f"), looks := false }, kinds := [], alts := [], laidByText := true, laidKinds := [.data, .data], laidTests := true, laidLooks := .later }
def RungBehindUptoCardSaid : Prop := Claim7.holds Tryd.pinned (.plain (OpenSpec.upto rungBehindSpec)) rungBehindUptoCard

/-- THE SECOND FORM's CARD OF 'malthouselaw09.RungRises'. -/
def rungRisesUptoCard : Claim7 := { stood := { row := rungRisesUptoRow, standIns := [], harness := (true, "025a1e9640e8b3f76834d77fba0d9d556751a7550dca81c813a3bd227041cc1f"), looks := false }, kinds := [], alts := [], laidByText := true, laidKinds := [.data, .data], laidTests := true, laidLooks := .later }
def RungRisesUptoCardSaid : Prop := Claim7.holds Tryd.pinned (.plain (OpenSpec.upto rungRisesSpec)) rungRisesUptoCard

/-- THE SECOND FORM's CARD OF 'malthouselaw09.RungLatches'. -/
def rungLatchesUptoCard : Claim7 := { stood := { row := rungLatchesUptoRow, standIns := [], harness := (true, "025a1e9640e8b3f76834d77fba0d9d556751a7550dca81c813a3bd227041cc1f"), looks := false }, kinds := [], alts := [], laidByText := true, laidKinds := [.data, .data], laidTests := true, laidLooks := .later }
def RungLatchesUptoCardSaid : Prop := Claim7.holds Tryd.pinned (.plain (OpenSpec.upto rungLatchesSpec)) rungLatchesUptoCard
end Rows
end Go.Proofs.YtnfoaggiaogkbaaDoor
