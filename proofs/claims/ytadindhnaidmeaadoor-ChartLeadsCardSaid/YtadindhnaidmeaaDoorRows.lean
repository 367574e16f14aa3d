/-
  NARROWER THAN 'FOR EVERY INPUT', by the rows' own cells (each row's printed sentence says how): ChartLeads: laid · ChartRolls: laid · ChartWords: laid · ChartEnds: laid · ChartColds: laid · ChartTogether: laid.
  DERIVED. THE GIVEN ROWS OF THIS SEAT. 6 by the template 'for every input the law returns true; each argument reads behind the call as it read before'; 0 by the template 'total and deterministic' (their statements: YtadindhnaidmeaaDoorTotals.lean).
  GIVEN WITH THE SEED: the statements are not yours to turn. If you find one false, say at which input.
  Laid BY PROGRAM, IN A SANDBOX (cutbox-rows.mjs): the forced cells as the released guide's own fill.sh prints them over the translation 1a0de53acf51a647… (all of the seat's roots in one cut). By AI agents, Wed Nov 11 2026. No macro, syntax, notation, axiom, sorry.
-/
import Derived.Test.YtadindhnaidmeaaDoorChecked
import GoSem.Claim
import GoSem.ClaimJoined
import GoSem.ClaimMapViews
import Derived.JoinedTies
import Derived.KernelRfl
namespace Go.Proofs.YtadindhnaidmeaaDoor
/- THE CELL 'sum', in the pinned program and in every row, IS THE sha256 OF THE DUMP (.gsa) THAT YtadindhnaidmeaaDoorProg.lean LOADS. Nothing in Lean hashes anything: it is a label: what it is worth is what the hold of that sum in a sandbox is worth. -/
noncomputable def Tryd.pinned : Pinned := { name := "ytadindhnaidmeaadoor", sum := "1a0de53acf51a64704f7239d7bb3cd88ace770ad7063d70505817d53a686e10e", checked := Tryd.checked }
namespace Rows
def none {H : Type} : Left H := { results := [], args := [] }

/- WHAT THE LISTED PACKAGE-LEVEL VARIABLES READ AS WHEN THE CALL BEGINS. Each datum BY PROGRAM (the guide's laid-datum.mjs) off the statement by which the dump's own 'gosem.cut.vars' lays the variable. In a bare row this is a premise. The card (YtadindhnaidmeaaDoorCards.lean) ties it to the program's text. -/
def laid_malthouse_chart_targets {H : Type} : DataW H := .agg [.agg [.lit (.int .i64 1), .lit (.int .u16 1)], .agg [.lit (.int .i64 2), .lit (.int .u16 2)], .agg [.lit (.int .i64 1), .lit (.int .u16 8)], .agg [.lit (.int .i64 4), .lit (.int .u16 78)], .agg [.lit (.int .i64 6), .lit (.int .u16 32)], .agg [.lit (.int .i64 7), .lit (.int .u16 126)], .agg [.lit (.int .i64 9), .lit (.int .u16 254)], .agg [.lit (.int .i64 0), .lit (.int .u16 3328)]]
def laid_malthouse_chart_ends {H : Type} : DataW H := .agg [.lit (.int .i64 0), .lit (.int .i64 11), .lit (.int .i64 3), .lit (.int .i64 0), .lit (.int .i64 5), .lit (.int .i64 0), .lit (.int .i64 1), .lit (.int .i64 8), .lit (.int .i64 0), .lit (.int .i64 10), .lit (.int .i64 0), .lit (.int .i64 0)]
def laid_malthouse_chart_priority {H : Type} : DataW H := .agg [.lit (.int .i64 6), .lit (.int .i64 5), .lit (.int .i64 3), .lit (.int .i64 1), .lit (.int .i64 4), .lit (.int .i64 2), .lit (.int .i64 0), .lit (.int .i64 7)]
def laid_malthouse_chart_names {H : Type} : DataW H := .agg [.lit (.string [105, 100, 108, 101]), .lit (.string [114, 117, 110, 110, 105, 110, 103]), .lit (.string [112, 97, 117, 115, 105, 110, 103]), .lit (.string [112, 97, 117, 115, 101, 100]), .lit (.string [104, 111, 108, 100, 105, 110, 103]), .lit (.string [104, 101, 108, 100]), .lit (.string [114, 101, 115, 116, 97, 114, 116, 105, 110, 103]), .lit (.string [115, 116, 111, 112, 112, 105, 110, 103]), .lit (.string [115, 116, 111, 112, 112, 101, 100]), .lit (.string [97, 98, 111, 114, 116, 105, 110, 103]), .lit (.string [97, 98, 111, 114, 116, 101, 100]), .lit (.string [99, 111, 109, 112, 108, 101, 116, 101])]
def laid_malthouse_chart_words {H : Type} : DataW H := .agg [.lit (.string [115, 116, 97, 114, 116]), .lit (.string [112, 97, 117, 115, 101]), .lit (.string [114, 101, 115, 117, 109, 101]), .lit (.string [104, 111, 108, 100]), .lit (.string [114, 101, 115, 116, 97, 114, 116]), .lit (.string [115, 116, 111, 112]), .lit (.string [97, 98, 111, 114, 116]), .lit (.string [114, 101, 115, 101, 116])]

/-- 'malthouselaw10.ChartLeads': WHATEVER THE INPUT: true; the input reads as it did. -/
def chartLeadsSpec : ChangeSpec := { name := "chartLeads", fn := fun _ => fun
  | [d1, d2, d3] => { results := [.lit (.bool true)], args := [d1, d2, d3] }
  | _ => none }
def chartLeadsRow : OpenClaim := { program := "ytadindhnaidmeaadoor", sum := "1a0de53acf51a64704f7239d7bb3cd88ace770ad7063d70505817d53a686e10e", func := "malthouse/malthouselaw10.ChartLeads", spec := "chartLeads", named := ["malthouse/chart.targets", "malthouse/chart.priority", "malthouse/chart.names", "malthouse/chart.ends"], apart := false, laid := [("malthouse/chart.targets", laid_malthouse_chart_targets), ("malthouse/chart.ends", laid_malthouse_chart_ends), ("malthouse/chart.priority", laid_malthouse_chart_priority), ("malthouse/chart.names", laid_malthouse_chart_names)] }
def ChartLeadsSaid : Prop := chartLeadsRow.holds Tryd.pinned (OpenSpec.ofChange chartLeadsSpec)

/-- ITS FALSE NEIGHBOUR: 'it returns false'. Refute it at one input. -/
def chartLeadsWrong : ChangeSpec := { name := "chartLeads", fn := fun _ => fun
  | [d1, d2, d3] => { results := [.lit (.bool false)], args := [d1, d2, d3] }
  | _ => none }
def ChartLeadsWrongFalsely : Prop := chartLeadsRow.holds Tryd.pinned (OpenSpec.ofChange chartLeadsWrong)

/-- 'malthouselaw10.ChartRolls': WHATEVER THE INPUT: true; the input reads as it did. -/
def chartRollsSpec : ChangeSpec := { name := "chartRolls", fn := fun _ => fun
  | [d] => { results := [.lit (.bool true)], args := [d] }
  | _ => none }
def chartRollsRow : OpenClaim := { program := "ytadindhnaidmeaadoor", sum := "1a0de53acf51a64704f7239d7bb3cd88ace770ad7063d70505817d53a686e10e", func := "malthouse/malthouselaw10.ChartRolls", spec := "chartRolls", named := ["malthouse/chart.targets", "malthouse/chart.priority", "malthouse/chart.names"], apart := false, laid := [("malthouse/chart.targets", laid_malthouse_chart_targets), ("malthouse/chart.priority", laid_malthouse_chart_priority), ("malthouse/chart.names", laid_malthouse_chart_names)] }
def ChartRollsSaid : Prop := chartRollsRow.holds Tryd.pinned (OpenSpec.ofChange chartRollsSpec)

/-- ITS FALSE NEIGHBOUR: 'it returns false'. Refute it at one input. -/
def chartRollsWrong : ChangeSpec := { name := "chartRolls", fn := fun _ => fun
  | [d] => { results := [.lit (.bool false)], args := [d] }
  | _ => none }
def ChartRollsWrongFalsely : Prop := chartRollsRow.holds Tryd.pinned (OpenSpec.ofChange chartRollsWrong)

/-- 'malthouselaw10.ChartWords': WHATEVER THE INPUT: true; the input reads as it did. -/
def chartWordsSpec : ChangeSpec := { name := "chartWords", fn := fun _ => fun
  | [d1, d2] => { results := [.lit (.bool true)], args := [d1, d2] }
  | _ => none }
def chartWordsRow : OpenClaim := { program := "ytadindhnaidmeaadoor", sum := "1a0de53acf51a64704f7239d7bb3cd88ace770ad7063d70505817d53a686e10e", func := "malthouse/malthouselaw10.ChartWords", spec := "chartWords", named := ["malthouse/chart.targets", "malthouse/chart.priority", "malthouse/chart.names", "malthouse/chart.words"], apart := false, laid := [("malthouse/chart.targets", laid_malthouse_chart_targets), ("malthouse/chart.priority", laid_malthouse_chart_priority), ("malthouse/chart.names", laid_malthouse_chart_names), ("malthouse/chart.words", laid_malthouse_chart_words)] }
def ChartWordsSaid : Prop := chartWordsRow.holds Tryd.pinned (OpenSpec.ofChange chartWordsSpec)

/-- ITS FALSE NEIGHBOUR: 'it returns false'. Refute it at one input. -/
def chartWordsWrong : ChangeSpec := { name := "chartWords", fn := fun _ => fun
  | [d1, d2] => { results := [.lit (.bool false)], args := [d1, d2] }
  | _ => none }
def ChartWordsWrongFalsely : Prop := chartWordsRow.holds Tryd.pinned (OpenSpec.ofChange chartWordsWrong)

/-- 'malthouselaw10.ChartEnds': WHATEVER THE INPUT: true; the input reads as it did. -/
def chartEndsSpec : ChangeSpec := { name := "chartEnds", fn := fun _ => fun
  | [d1, d2] => { results := [.lit (.bool true)], args := [d1, d2] }
  | _ => none }
def chartEndsRow : OpenClaim := { program := "ytadindhnaidmeaadoor", sum := "1a0de53acf51a64704f7239d7bb3cd88ace770ad7063d70505817d53a686e10e", func := "malthouse/malthouselaw10.ChartEnds", spec := "chartEnds", named := ["malthouse/chart.targets", "malthouse/chart.priority", "malthouse/chart.names", "malthouse/chart.ends"], apart := false, laid := [("malthouse/chart.targets", laid_malthouse_chart_targets), ("malthouse/chart.ends", laid_malthouse_chart_ends), ("malthouse/chart.priority", laid_malthouse_chart_priority), ("malthouse/chart.names", laid_malthouse_chart_names)] }
def ChartEndsSaid : Prop := chartEndsRow.holds Tryd.pinned (OpenSpec.ofChange chartEndsSpec)

/-- ITS FALSE NEIGHBOUR: 'it returns false'. Refute it at one input. -/
def chartEndsWrong : ChangeSpec := { name := "chartEnds", fn := fun _ => fun
  | [d1, d2] => { results := [.lit (.bool false)], args := [d1, d2] }
  | _ => none }
def ChartEndsWrongFalsely : Prop := chartEndsRow.holds Tryd.pinned (OpenSpec.ofChange chartEndsWrong)

/-- 'malthouselaw10.ChartColds': WHATEVER THE INPUT: true; the input reads as it did. -/
def chartColdsSpec : ChangeSpec := { name := "chartColds", fn := fun _ => fun
  | [d] => { results := [.lit (.bool true)], args := [d] }
  | _ => none }
def chartColdsRow : OpenClaim := { program := "ytadindhnaidmeaadoor", sum := "1a0de53acf51a64704f7239d7bb3cd88ace770ad7063d70505817d53a686e10e", func := "malthouse/malthouselaw10.ChartColds", spec := "chartColds", named := ["malthouse/chart.targets", "malthouse/chart.priority", "malthouse/chart.names", "malthouse/chart.ends"], apart := false, laid := [("malthouse/chart.targets", laid_malthouse_chart_targets), ("malthouse/chart.ends", laid_malthouse_chart_ends), ("malthouse/chart.priority", laid_malthouse_chart_priority), ("malthouse/chart.names", laid_malthouse_chart_names)] }
def ChartColdsSaid : Prop := chartColdsRow.holds Tryd.pinned (OpenSpec.ofChange chartColdsSpec)

/-- ITS FALSE NEIGHBOUR: 'it returns false'. Refute it at one input. -/
def chartColdsWrong : ChangeSpec := { name := "chartColds", fn := fun _ => fun
  | [d] => { results := [.lit (.bool false)], args := [d] }
  | _ => none }
def ChartColdsWrongFalsely : Prop := chartColdsRow.holds Tryd.pinned (OpenSpec.ofChange chartColdsWrong)

/-- 'malthouselaw10.ChartTogether': WHATEVER THE INPUT: true; the input reads as it did. -/
def chartTogetherSpec : ChangeSpec := { name := "chartTogether", fn := fun _ => fun
  | [d1, d2] => { results := [.lit (.bool true)], args := [d1, d2] }
  | _ => none }
def chartTogetherRow : OpenClaim := { program := "ytadindhnaidmeaadoor", sum := "1a0de53acf51a64704f7239d7bb3cd88ace770ad7063d70505817d53a686e10e", func := "malthouse/malthouselaw10.ChartTogether", spec := "chartTogether", named := ["malthouse/chart.targets", "malthouse/chart.priority", "malthouse/chart.names"], apart := false, laid := [("malthouse/chart.targets", laid_malthouse_chart_targets), ("malthouse/chart.priority", laid_malthouse_chart_priority), ("malthouse/chart.names", laid_malthouse_chart_names)] }
def ChartTogetherSaid : Prop := chartTogetherRow.holds Tryd.pinned (OpenSpec.ofChange chartTogetherSpec)

/-- ITS FALSE NEIGHBOUR: 'it returns false'. Refute it at one input. -/
def chartTogetherWrong : ChangeSpec := { name := "chartTogether", fn := fun _ => fun
  | [d1, d2] => { results := [.lit (.bool false)], args := [d1, d2] }
  | _ => none }
def ChartTogetherWrongFalsely : Prop := chartTogetherRow.holds Tryd.pinned (OpenSpec.ofChange chartTogetherWrong)

/- THE SECOND FORM. 'bulk': how many values and letters a reading holds, each counted each time it is reached (what is shared counts as often as it is met; a slice's spare places count too). A statement '..UptoSaid' is the law's where the arguments, and the package variables that the reading takes, are together of bulk at most 1048576: NARROWER than '..Said'. Prove '..Said' where nothing that the law and all that it calls make is longer than what came in: it says more and counts as full. Else prove '..UptoSaid'. A law counts once. -/
mutual
def uptoBulk {H : Type} : DataW H → Nat
  | .lit (.string bytes) => bytes.length + 1
  | .lit _ => 1
  | .nil => 1
  | .ptr d => uptoBulk d + 1
  | .slice elems spare => uptoBulkAll elems + uptoBulkAll spare + 1
  | .agg parts => uptoBulkAll parts + 1
  | .iface _ d => uptoBulk d + 1
  | .map entries => uptoBulkEntries entries + 1
  | .held _ => 1
def uptoBulkAll {H : Type} : List (DataW H) → Nat
  | [] => 0
  | d :: r => uptoBulk d + uptoBulkAll r
def uptoBulkEntries {H : Type} : List (Lit × DataW H) → Nat
  | [] => 0
  | x :: r => uptoBulkEntry x + uptoBulkEntries r
def uptoBulkEntry {H : Type} : Lit × DataW H → Nat
  | (.string bytes, d) => bytes.length + uptoBulk d + 1
  | (_, d) => uptoBulk d + 1
 end
def uptoSmall : (H : Type) → List (DataW H) → Bool := fun _ ds => decide (uptoBulkAll ds ≤ 1048576)
def OpenSpec.upto (s : _root_.Go.ChangeSpec) : _root_.Go.OpenSpec := { _root_.Go.OpenSpec.ofChange s with cond := some uptoSmall }

/-- 'malthouselaw10.ChartLeads', WHERE WHAT IT READS IS OF BULK AT MOST 1048576: true; the input reads as it did. -/
def chartLeadsUptoRow : OpenClaim := { program := "ytadindhnaidmeaadoor", sum := "1a0de53acf51a64704f7239d7bb3cd88ace770ad7063d70505817d53a686e10e", func := "malthouse/malthouselaw10.ChartLeads", spec := "chartLeads", named := ["malthouse/chart.targets", "malthouse/chart.priority", "malthouse/chart.names", "malthouse/chart.ends"], apart := false, laid := [("malthouse/chart.targets", laid_malthouse_chart_targets), ("malthouse/chart.ends", laid_malthouse_chart_ends), ("malthouse/chart.priority", laid_malthouse_chart_priority), ("malthouse/chart.names", laid_malthouse_chart_names)], narrowed := true }
def ChartLeadsUptoSaid : Prop := chartLeadsUptoRow.holds Tryd.pinned (OpenSpec.upto chartLeadsSpec)

/-- 'malthouselaw10.ChartRolls', WHERE WHAT IT READS IS OF BULK AT MOST 1048576: true; the input reads as it did. -/
def chartRollsUptoRow : OpenClaim := { program := "ytadindhnaidmeaadoor", sum := "1a0de53acf51a64704f7239d7bb3cd88ace770ad7063d70505817d53a686e10e", func := "malthouse/malthouselaw10.ChartRolls", spec := "chartRolls", named := ["malthouse/chart.targets", "malthouse/chart.priority", "malthouse/chart.names"], apart := false, laid := [("malthouse/chart.targets", laid_malthouse_chart_targets), ("malthouse/chart.priority", laid_malthouse_chart_priority), ("malthouse/chart.names", laid_malthouse_chart_names)], narrowed := true }
def ChartRollsUptoSaid : Prop := chartRollsUptoRow.holds Tryd.pinned (OpenSpec.upto chartRollsSpec)

/-- 'malthouselaw10.ChartWords', WHERE WHAT IT READS IS OF BULK AT MOST 1048576: true; the input reads as it did. -/
def chartWordsUptoRow : OpenClaim := { program := "ytadindhnaidmeaadoor", sum := "1a0de53acf51a64704f7239d7bb3cd88ace770ad7063d70505817d53a686e10e", func := "malthouse/malthouselaw10.ChartWords", spec := "chartWords", named := ["malthouse/chart.targets", "malthouse/chart.priority", "malthouse/chart.names", "malthouse/chart.words"], apart := false, laid := [("malthouse/chart.targets", laid_malthouse_chart_targets), ("malthouse/chart.priority", laid_malthouse_chart_priority), ("malthouse/chart.names", laid_malthouse_chart_names), ("malthouse/chart.words", laid_malthouse_chart_words)], narrowed := true }
def ChartWordsUptoSaid : Prop := chartWordsUptoRow.holds Tryd.pinned (OpenSpec.upto chartWordsSpec)

/-- 'malthouselaw10.ChartEnds', WHERE WHAT IT READS IS OF BULK AT MOST 1048576: true; the input reads as it did. -/
def chartEndsUptoRow : OpenClaim := { program := "ytadindhnaidmeaadoor", sum := "1a0de53acf51a64704f7239d7bb3cd88ace770ad7063d70505817d53a686e10e", func := "malthouse/malthouselaw10.ChartEnds", spec := "chartEnds", named := ["malthouse/chart.targets", "malthouse/chart.priority", "malthouse/chart.names", "malthouse/chart.ends"], apart := false, laid := [("malthouse/chart.targets", laid_malthouse_chart_targets), ("malthouse/chart.ends", laid_malthouse_chart_ends), ("malthouse/chart.priority", laid_malthouse_chart_priority), ("malthouse/chart.names", laid_malthouse_chart_names)], narrowed := true }
def ChartEndsUptoSaid : Prop := chartEndsUptoRow.holds Tryd.pinned (OpenSpec.upto chartEndsSpec)

/-- 'malthouselaw10.ChartColds', WHERE WHAT IT READS IS OF BULK AT MOST 1048576: true; the input reads as it did. -/
def chartColdsUptoRow : OpenClaim := { program := "ytadindhnaidmeaadoor", sum := "1a0de53acf51a64704f7239d7bb3cd88ace770ad7063d70505817d53a686e10e", func := "malthouse/malthouselaw10.ChartColds", spec := "chartColds", named := ["malthouse/chart.targets", "malthouse/chart.priority", "malthouse/chart.names", "malthouse/chart.ends"], apart := false, laid := [("malthouse/chart.targets", laid_malthouse_chart_targets), ("malthouse/chart.ends", laid_malthouse_chart_ends), ("malthouse/chart.priority", laid_malthouse_chart_priority), ("malthouse/chart.names", laid_malthouse_chart_names)], narrowed := true }
def ChartColdsUptoSaid : Prop := chartColdsUptoRow.holds Tryd.pinned (OpenSpec.upto chartColdsSpec)

/-- 'malthouselaw10.ChartTogether', WHERE WHAT IT READS IS OF BULK AT MOST 1048576: true; the input reads as it did. -/
def chartTogetherUptoRow : OpenClaim := { program := "ytadindhnaidmeaadoor", sum := "1a0de53acf51a64704f7239d7bb3cd88ace770ad7063d70505817d53a686e10e", func := "malthouse/malthouselaw10.ChartTogether", spec := "chartTogether", named := ["malthouse/chart.targets", "malthouse/chart.priority", "malthouse/chart.names"], apart := false, laid := [("malthouse/chart.targets", laid_malthouse_chart_targets), ("malthouse/chart.priority", laid_malthouse_chart_priority), ("malthouse/chart.names", laid_malthouse_chart_names)], narrowed := true }
def ChartTogetherUptoSaid : Prop := chartTogetherUptoRow.holds Tryd.pinned (OpenSpec.upto chartTogetherSpec)

end Rows
end Go.Proofs.YtadindhnaidmeaaDoor
