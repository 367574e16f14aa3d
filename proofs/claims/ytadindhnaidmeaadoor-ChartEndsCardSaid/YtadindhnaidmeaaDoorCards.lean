/-
  DERIVED. GIVEN WITH THE SEED: THE CARDS: each row of YtadindhnaidmeaaDoorRows.lean that lists a variable, with what it lists TIED to the program's text (the seventh form; the later family's looks); each row that meets fmt, with fmt's text TOLD by the authors' own Lean function (tested against real Go, not proved from fmt's source: count such statements apart). THE CARD IS WHAT COUNTS. Prove the row's statement (the work); the ties are given (YtadindhnaidmeaaDoorTie.lean); close each card by the builder's one call (the guide's Derived/Test/ToyasCard.lean, 'card_holds'). Laid BY PROGRAM, IN A SANDBOX (cutbox-door.mjs). By AI agents, Wed Nov 11 2026. No macro, syntax, notation, axiom, sorry.
-/
import Derived.Test.YtadindhnaidmeaaDoorRows
import GoSem.ClaimSeven
namespace Go.Proofs.YtadindhnaidmeaaDoor
namespace Rows

/-- THE TIED CARD OF 'malthouselaw10.ChartLeads'. -/
def chartLeadsCard : Claim7 := { stood := { row := chartLeadsRow, standIns := [], harness := (true, "73ab274996bf162782e94f620fa8751f234533f741006f68862dab8f0a314432"), looks := false }, kinds := [], alts := [], laidByText := true, laidKinds := [.wider, .data, .data, .data], laidTests := true, laidLooks := .later }
def ChartLeadsCardSaid : Prop := Claim7.holds Tryd.pinned (.plain (OpenSpec.ofChange chartLeadsSpec)) chartLeadsCard

/-- THE TIED CARD OF 'malthouselaw10.ChartRolls'. -/
def chartRollsCard : Claim7 := { stood := { row := chartRollsRow, standIns := [], harness := (true, "73ab274996bf162782e94f620fa8751f234533f741006f68862dab8f0a314432"), looks := false }, kinds := [], alts := [], laidByText := true, laidKinds := [.wider, .data, .data], laidTests := true, laidLooks := .later }
def ChartRollsCardSaid : Prop := Claim7.holds Tryd.pinned (.plain (OpenSpec.ofChange chartRollsSpec)) chartRollsCard

/-- THE TIED CARD OF 'malthouselaw10.ChartWords'. -/
def chartWordsCard : Claim7 := { stood := { row := chartWordsRow, standIns := [], harness := (true, "73ab274996bf162782e94f620fa8751f234533f741006f68862dab8f0a314432"), looks := false }, kinds := [], alts := [], laidByText := true, laidKinds := [.wider, .data, .data, .data], laidTests := true, laidLooks := .later }
def ChartWordsCardSaid : Prop := Claim7.holds Tryd.pinned (.plain (OpenSpec.ofChange chartWordsSpec)) chartWordsCard

/-- THE TIED CARD OF 'malthouselaw10.ChartEnds'. -/
def chartEndsCard : Claim7 := { stood := { row := chartEndsRow, standIns := [], harness := (true, "73ab274996bf162782e94f620fa8751f234533f741006f68862dab8f0a314432"), looks := false }, kinds := [], alts := [], laidByText := true, laidKinds := [.wider, .data, .data, .data], laidTests := true, laidLooks := .later }
def ChartEndsCardSaid : Prop := Claim7.holds Tryd.pinned (.plain (OpenSpec.ofChange chartEndsSpec)) chartEndsCard

/-- THE TIED CARD OF 'malthouselaw10.ChartColds'. -/
def chartColdsCard : Claim7 := { stood := { row := chartColdsRow, standIns := [], harness := (true, "73ab274996bf162782e94f620fa8751f234533f741006f68862dab8f0a314432"), looks := false }, kinds := [], alts := [], laidByText := true, laidKinds := [.wider, .data, .data, .data], laidTests := true, laidLooks := .later }
def ChartColdsCardSaid : Prop := Claim7.holds Tryd.pinned (.plain (OpenSpec.ofChange chartColdsSpec)) chartColdsCard

/-- THE TIED CARD OF 'malthouselaw10.ChartTogether'. -/
def chartTogetherCard : Claim7 := { stood := { row := chartTogetherRow, standIns := [], harness := (true, "73ab274996bf162782e94f620fa8751f234533f741006f68862dab8f0a314432"), looks := false }, kinds := [], alts := [], laidByText := true, laidKinds := [.wider, .data, .data], laidTests := true, laidLooks := .later }
def ChartTogetherCardSaid : Prop := Claim7.holds Tryd.pinned (.plain (OpenSpec.ofChange chartTogetherSpec)) chartTogetherCard

/-- THE SECOND FORM's CARD OF 'malthouselaw10.ChartLeads'. -/
def chartLeadsUptoCard : Claim7 := { stood := { row := chartLeadsUptoRow, standIns := [], harness := (true, "73ab274996bf162782e94f620fa8751f234533f741006f68862dab8f0a314432"), looks := false }, kinds := [], alts := [], laidByText := true, laidKinds := [.wider, .data, .data, .data], laidTests := true, laidLooks := .later }
def ChartLeadsUptoCardSaid : Prop := Claim7.holds Tryd.pinned (.plain (OpenSpec.upto chartLeadsSpec)) chartLeadsUptoCard

/-- THE SECOND FORM's CARD OF 'malthouselaw10.ChartRolls'. -/
def chartRollsUptoCard : Claim7 := { stood := { row := chartRollsUptoRow, standIns := [], harness := (true, "73ab274996bf162782e94f620fa8751f234533f741006f68862dab8f0a314432"), looks := false }, kinds := [], alts := [], laidByText := true, laidKinds := [.wider, .data, .data], laidTests := true, laidLooks := .later }
def ChartRollsUptoCardSaid : Prop := Claim7.holds Tryd.pinned (.plain (OpenSpec.upto chartRollsSpec)) chartRollsUptoCard

/-- THE SECOND FORM's CARD OF 'malthouselaw10.ChartWords'. -/
def chartWordsUptoCard : Claim7 := { stood := { row := chartWordsUptoRow, standIns := [], harness := (true, "73ab274996bf162782e94f620fa8751f234533f741006f68862dab8f0a314432"), looks := false }, kinds := [], alts := [], laidByText := true, laidKinds := [.wider, .data, .data, .data], laidTests := true, laidLooks := .later }
def ChartWordsUptoCardSaid : Prop := Claim7.holds Tryd.pinned (.plain (OpenSpec.upto chartWordsSpec)) chartWordsUptoCard

/-- THE SECOND FORM's CARD OF 'malthouselaw10.ChartEnds'. -/
def chartEndsUptoCard : Claim7 := { stood := { row := chartEndsUptoRow, standIns := [], harness := (true, "73ab274996bf162782e94f620fa8751f234533f741006f68862dab8f0a314432"), looks := false }, kinds := [], alts := [], laidByText := true, laidKinds := [.wider, .data, .data, .data], laidTests := true, laidLooks := .later }
def ChartEndsUptoCardSaid : Prop := Claim7.holds Tryd.pinned (.plain (OpenSpec.upto chartEndsSpec)) chartEndsUptoCard

/-- THE SECOND FORM's CARD OF 'malthouselaw10.ChartColds'. -/
def chartColdsUptoCard : Claim7 := { stood := { row := chartColdsUptoRow, standIns := [], harness := (true, "73ab274996bf162782e94f620fa8751f234533f741006f68862dab8f0a314432"), looks := false }, kinds := [], alts := [], laidByText := true, laidKinds := [.wider, .data, .data, .data], laidTests := true, laidLooks := .later }
def ChartColdsUptoCardSaid : Prop := Claim7.holds Tryd.pinned (.plain (OpenSpec.upto chartColdsSpec)) chartColdsUptoCard

/-- THE SECOND FORM's CARD OF 'malthouselaw10.ChartTogether'. -/
def chartTogetherUptoCard : Claim7 := { stood := { row := chartTogetherUptoRow, standIns := [], harness := (true, "73ab274996bf162782e94f620fa8751f234533f741006f68862dab8f0a314432"), looks := false }, kinds := [], alts := [], laidByText := true, laidKinds := [.wider, .data, .data], laidTests := true, laidLooks := .later }
def ChartTogetherUptoCardSaid : Prop := Claim7.holds Tryd.pinned (.plain (OpenSpec.upto chartTogetherSpec)) chartTogetherUptoCard
end Rows
end Go.Proofs.YtadindhnaidmeaaDoor
