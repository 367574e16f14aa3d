/-
  DERIVED. GIVEN WITH THE SEED: THE PROGRAM's TIES (one call each: nine closed facts by the kernel) AND EACH ROW's TIE, after the 31st guide's Derived/Test/Toyas{Tie, Card}.lean. No idea stands in it: it is a product of the set-up. Laid BY PROGRAM, IN A SANDBOX (cutbox-door.mjs). By AI agents, Wed Nov 11 2026. No macro, syntax, notation, axiom, sorry.
-/
import Derived.Test.YtadindhnaidmeaaDoorRows
import Derived.LaidByTextLater
import Derived.SevenTiedAt
import Derived.LaidSub
import Derived.LaidOnce
namespace Go.Proofs.YtadindhnaidmeaaDoor
open Go
set_option maxRecDepth 100000
theorem seatTie1 : Tryd.prog.laidByTextLater [("malthouse/chart.targets", Rows.laid_malthouse_chart_targets), ("malthouse/chart.ends", Rows.laid_malthouse_chart_ends), ("malthouse/chart.priority", Rows.laid_malthouse_chart_priority), ("malthouse/chart.names", Rows.laid_malthouse_chart_names), ("malthouse/chart.words", Rows.laid_malthouse_chart_words)] [.wider, .data, .data, .data, .data] true :=
  Program.laidByTextLater_by_one 42 8 17 (by kernel_rfl) (by kernel_rfl) (by kernel_rfl) (by kernel_rfl) (by kernel_rfl) (by kernel_rfl) (fun _ _ => by kernel_rfl)
theorem noOwnUnsafe : Tryd.pinned.checked.prog.headLifts.contains "ownunsafe" = false := by kernel_rfl
theorem tie : Tryd.prog.laidByTextLater [("malthouse/chart.targets", Rows.laid_malthouse_chart_targets), ("malthouse/chart.ends", Rows.laid_malthouse_chart_ends), ("malthouse/chart.priority", Rows.laid_malthouse_chart_priority), ("malthouse/chart.names", Rows.laid_malthouse_chart_names)] [.wider, .data, .data, .data] true :=
  Program.laidByTextLater.sub seatTie1 ["malthouse/chart.targets", "malthouse/chart.ends", "malthouse/chart.priority", "malthouse/chart.names"] (by kernel_rfl) (by kernel_rfl)
theorem chartLeads_row_tie : Rows.chartLeadsRow.laidByTextAt .later Tryd.pinned [.wider, .data, .data, .data] true :=
  OpenClaim.laidByTextAt_later rfl rfl tie noOwnUnsafe
theorem chartEnds_row_tie : Rows.chartEndsRow.laidByTextAt .later Tryd.pinned [.wider, .data, .data, .data] true :=
  OpenClaim.laidByTextAt_later rfl rfl tie noOwnUnsafe
theorem chartColds_row_tie : Rows.chartColdsRow.laidByTextAt .later Tryd.pinned [.wider, .data, .data, .data] true :=
  OpenClaim.laidByTextAt_later rfl rfl tie noOwnUnsafe
theorem tie2 : Tryd.prog.laidByTextLater [("malthouse/chart.targets", Rows.laid_malthouse_chart_targets), ("malthouse/chart.priority", Rows.laid_malthouse_chart_priority), ("malthouse/chart.names", Rows.laid_malthouse_chart_names)] [.wider, .data, .data] true :=
  Program.laidByTextLater.sub seatTie1 ["malthouse/chart.targets", "malthouse/chart.priority", "malthouse/chart.names"] (by kernel_rfl) (by kernel_rfl)
theorem chartRolls_row_tie : Rows.chartRollsRow.laidByTextAt .later Tryd.pinned [.wider, .data, .data] true :=
  OpenClaim.laidByTextAt_later rfl rfl tie2 noOwnUnsafe
theorem chartTogether_row_tie : Rows.chartTogetherRow.laidByTextAt .later Tryd.pinned [.wider, .data, .data] true :=
  OpenClaim.laidByTextAt_later rfl rfl tie2 noOwnUnsafe
theorem tie3 : Tryd.prog.laidByTextLater [("malthouse/chart.targets", Rows.laid_malthouse_chart_targets), ("malthouse/chart.priority", Rows.laid_malthouse_chart_priority), ("malthouse/chart.names", Rows.laid_malthouse_chart_names), ("malthouse/chart.words", Rows.laid_malthouse_chart_words)] [.wider, .data, .data, .data] true :=
  Program.laidByTextLater.sub seatTie1 ["malthouse/chart.targets", "malthouse/chart.priority", "malthouse/chart.names", "malthouse/chart.words"] (by kernel_rfl) (by kernel_rfl)
theorem chartWords_row_tie : Rows.chartWordsRow.laidByTextAt .later Tryd.pinned [.wider, .data, .data, .data] true :=
  OpenClaim.laidByTextAt_later rfl rfl tie3 noOwnUnsafe
theorem chartLeadsUpto_row_tie : Rows.chartLeadsUptoRow.laidByTextAt .later Tryd.pinned [.wider, .data, .data, .data] true :=
  OpenClaim.laidByTextAt_later rfl rfl tie noOwnUnsafe
theorem chartRollsUpto_row_tie : Rows.chartRollsUptoRow.laidByTextAt .later Tryd.pinned [.wider, .data, .data] true :=
  OpenClaim.laidByTextAt_later rfl rfl tie2 noOwnUnsafe
theorem chartWordsUpto_row_tie : Rows.chartWordsUptoRow.laidByTextAt .later Tryd.pinned [.wider, .data, .data, .data] true :=
  OpenClaim.laidByTextAt_later rfl rfl tie3 noOwnUnsafe
theorem chartEndsUpto_row_tie : Rows.chartEndsUptoRow.laidByTextAt .later Tryd.pinned [.wider, .data, .data, .data] true :=
  OpenClaim.laidByTextAt_later rfl rfl tie noOwnUnsafe
theorem chartColdsUpto_row_tie : Rows.chartColdsUptoRow.laidByTextAt .later Tryd.pinned [.wider, .data, .data, .data] true :=
  OpenClaim.laidByTextAt_later rfl rfl tie noOwnUnsafe
theorem chartTogetherUpto_row_tie : Rows.chartTogetherUptoRow.laidByTextAt .later Tryd.pinned [.wider, .data, .data] true :=
  OpenClaim.laidByTextAt_later rfl rfl tie2 noOwnUnsafe
end Go.Proofs.YtadindhnaidmeaaDoor
