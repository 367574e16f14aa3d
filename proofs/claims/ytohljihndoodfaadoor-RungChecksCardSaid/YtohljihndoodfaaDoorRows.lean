/-
  NARROWER THAN 'FOR EVERY INPUT', by the rows' own cells (each row's printed sentence says how): RungChecks: loops, laid · RungHolds: loops, laid · RungTurns: loops, laid · RungBehind: loops, laid · RungRises: loops, laid.
  DERIVED. THE GIVEN ROWS OF THIS SEAT. 5 by the template 'for every input the law returns true; each argument reads behind the call as it read before'; 0 by the template 'total and deterministic' (their statements: YtohljihndoodfaaDoorTotals.lean).
  GIVEN WITH THE SEED: the statements are not yours to turn. If you find one false, say at which input.
  Laid BY PROGRAM, IN A SANDBOX (cutbox-rows.mjs): the forced cells as the released guide's own fill.sh prints them over the translation 8b61177840248b3a… (all of the seat's roots in one cut). By AI agents, Wed Nov 11 2026. No macro, syntax, notation, axiom, sorry.
-/
import Derived.Test.YtohljihndoodfaaDoorChecked
import GoSem.Claim
import GoSem.ClaimJoined
import GoSem.ClaimMapViews
import Derived.JoinedTies
import Derived.KernelRfl
namespace Go.Proofs.YtohljihndoodfaaDoor
/- THE CELL 'sum', in the pinned program and in every row, IS THE sha256 OF THE DUMP (.gsa) THAT YtohljihndoodfaaDoorProg.lean LOADS. Nothing in Lean hashes anything: it is a label: what it is worth is what the hold of that sum in a sandbox is worth. -/
noncomputable def Tryd.pinned : Pinned := { name := "ytohljihndoodfaadoor", sum := "8b61177840248b3ad73e89a0c08eec72ca424a07588623f356ede10b55f59d9e", checked := Tryd.checked }
namespace Rows
def none {H : Type} : Left H := { results := [], args := [] }

/- WHAT THE LISTED PACKAGE-LEVEL VARIABLES READ AS WHEN THE CALL BEGINS. Each datum BY PROGRAM (the guide's laid-datum.mjs) off the statement by which the dump's own 'gosem.cut.vars' lays the variable. In a bare row this is a premise. The card (YtohljihndoodfaaDoorCards.lean) ties it to the program's text. -/
def laid_malthouse_expr_operators {H : Type} : DataW H := .agg [.agg [.lit (.string []), .lit (.int .i64 5), .lit (.int .i64 0)], .agg [.lit (.string []), .lit (.int .i64 5), .lit (.int .i64 0)], .agg [.lit (.string [45]), .lit (.int .i64 5), .lit (.int .i64 1)], .agg [.lit (.string [33]), .lit (.int .i64 5), .lit (.int .i64 1)], .agg [.lit (.string [43]), .lit (.int .i64 3), .lit (.int .i64 2)], .agg [.lit (.string [45]), .lit (.int .i64 3), .lit (.int .i64 2)], .agg [.lit (.string [42]), .lit (.int .i64 4), .lit (.int .i64 2)], .agg [.lit (.string [47]), .lit (.int .i64 4), .lit (.int .i64 2)], .agg [.lit (.string [37]), .lit (.int .i64 4), .lit (.int .i64 2)], .agg [.lit (.string [60]), .lit (.int .i64 2), .lit (.int .i64 2)], .agg [.lit (.string [60, 61]), .lit (.int .i64 2), .lit (.int .i64 2)], .agg [.lit (.string [62]), .lit (.int .i64 2), .lit (.int .i64 2)], .agg [.lit (.string [62, 61]), .lit (.int .i64 2), .lit (.int .i64 2)], .agg [.lit (.string [61, 61]), .lit (.int .i64 2), .lit (.int .i64 2)], .agg [.lit (.string [33, 61]), .lit (.int .i64 2), .lit (.int .i64 2)], .agg [.lit (.string [38]), .lit (.int .i64 1), .lit (.int .i64 2)], .agg [.lit (.string [124]), .lit (.int .i64 0), .lit (.int .i64 2)]]
def laid_malthouse_rung_operations {H : Type} : DataW H := .agg [.agg [.lit (.int .i64 1), .lit (.int .i64 0), .lit (.int .i64 1)], .agg [.lit (.int .i64 1), .lit (.int .i64 0), .lit (.int .i64 1)], .agg [.lit (.int .i64 2), .lit (.int .i64 0), .lit (.int .i64 1)], .agg [.lit (.int .i64 1), .lit (.int .i64 1), .lit (.int .i64 1)], .agg [.lit (.int .i64 1), .lit (.int .i64 1), .lit (.int .i64 1)], .agg [.lit (.int .i64 1), .lit (.int .i64 1), .lit (.int .i64 1)], .agg [.lit (.int .i64 1), .lit (.int .i64 1), .lit (.int .i64 1)], .agg [.lit (.int .i64 0), .lit (.int .i64 2), .lit (.int .i64 1)], .agg [.lit (.int .i64 0), .lit (.int .i64 2), .lit (.int .i64 1)], .agg [.lit (.int .i64 0), .lit (.int .i64 1), .lit (.int .i64 1)]]

/-- 'malthouselaw09.RungChecks': WHATEVER THE INPUT: true; the input reads as it did. -/
def rungChecksSpec : ChangeSpec := { name := "rungChecks", fn := fun _ => fun
  | [d1, d2, d3] => { results := [.lit (.bool true)], args := [d1, d2, d3] }
  | _ => none }
def rungChecksRow : OpenClaim := { program := "ytohljihndoodfaadoor", sum := "8b61177840248b3ad73e89a0c08eec72ca424a07588623f356ede10b55f59d9e", func := "malthouse/malthouselaw09.RungChecks", spec := "rungChecks", unfollowed := true, recurses := true, named := ["malthouse/rung.operations", "malthouse/expr.operators"], loops := true, apart := false, laid := [("malthouse/expr.operators", laid_malthouse_expr_operators), ("malthouse/rung.operations", laid_malthouse_rung_operations)] }
def RungChecksSaid : Prop := rungChecksRow.holds Tryd.pinned (OpenSpec.ofChange rungChecksSpec)

/-- ITS FALSE NEIGHBOUR: 'it returns false'. Refute it at one input. -/
def rungChecksWrong : ChangeSpec := { name := "rungChecks", fn := fun _ => fun
  | [d1, d2, d3] => { results := [.lit (.bool false)], args := [d1, d2, d3] }
  | _ => none }
def RungChecksWrongFalsely : Prop := rungChecksRow.holds Tryd.pinned (OpenSpec.ofChange rungChecksWrong)

/-- 'malthouselaw09.RungHolds': WHATEVER THE INPUT: true; the input reads as it did. -/
def rungHoldsSpec : ChangeSpec := { name := "rungHolds", fn := fun _ => fun
  | [d1, d2] => { results := [.lit (.bool true)], args := [d1, d2] }
  | _ => none }
def rungHoldsRow : OpenClaim := { program := "ytohljihndoodfaadoor", sum := "8b61177840248b3ad73e89a0c08eec72ca424a07588623f356ede10b55f59d9e", func := "malthouse/malthouselaw09.RungHolds", spec := "rungHolds", unfollowed := true, recurses := true, named := ["malthouse/rung.operations", "malthouse/expr.operators"], loops := true, apart := false, laid := [("malthouse/expr.operators", laid_malthouse_expr_operators), ("malthouse/rung.operations", laid_malthouse_rung_operations)] }
def RungHoldsSaid : Prop := rungHoldsRow.holds Tryd.pinned (OpenSpec.ofChange rungHoldsSpec)

/-- ITS FALSE NEIGHBOUR: 'it returns false'. Refute it at one input. -/
def rungHoldsWrong : ChangeSpec := { name := "rungHolds", fn := fun _ => fun
  | [d1, d2] => { results := [.lit (.bool false)], args := [d1, d2] }
  | _ => none }
def RungHoldsWrongFalsely : Prop := rungHoldsRow.holds Tryd.pinned (OpenSpec.ofChange rungHoldsWrong)

/-- 'malthouselaw09.RungTurns': WHATEVER THE INPUT: true; the input reads as it did. -/
def rungTurnsSpec : ChangeSpec := { name := "rungTurns", fn := fun _ => fun
  | [d1, d2, d3, d4] => { results := [.lit (.bool true)], args := [d1, d2, d3, d4] }
  | _ => none }
def rungTurnsRow : OpenClaim := { program := "ytohljihndoodfaadoor", sum := "8b61177840248b3ad73e89a0c08eec72ca424a07588623f356ede10b55f59d9e", func := "malthouse/malthouselaw09.RungTurns", spec := "rungTurns", unfollowed := true, recurses := true, named := ["malthouse/rung.operations", "malthouse/expr.operators"], loops := true, apart := false, laid := [("malthouse/expr.operators", laid_malthouse_expr_operators), ("malthouse/rung.operations", laid_malthouse_rung_operations)] }
def RungTurnsSaid : Prop := rungTurnsRow.holds Tryd.pinned (OpenSpec.ofChange rungTurnsSpec)

/-- ITS FALSE NEIGHBOUR: 'it returns false'. Refute it at one input. -/
def rungTurnsWrong : ChangeSpec := { name := "rungTurns", fn := fun _ => fun
  | [d1, d2, d3, d4] => { results := [.lit (.bool false)], args := [d1, d2, d3, d4] }
  | _ => none }
def RungTurnsWrongFalsely : Prop := rungTurnsRow.holds Tryd.pinned (OpenSpec.ofChange rungTurnsWrong)

/-- 'malthouselaw09.RungBehind': WHATEVER THE INPUT: true; the input reads as it did. -/
def rungBehindSpec : ChangeSpec := { name := "rungBehind", fn := fun _ => fun
  | [d1, d2, d3, d4] => { results := [.lit (.bool true)], args := [d1, d2, d3, d4] }
  | _ => none }
def rungBehindRow : OpenClaim := { program := "ytohljihndoodfaadoor", sum := "8b61177840248b3ad73e89a0c08eec72ca424a07588623f356ede10b55f59d9e", func := "malthouse/malthouselaw09.RungBehind", spec := "rungBehind", unfollowed := true, recurses := true, named := ["malthouse/rung.operations", "malthouse/expr.operators"], loops := true, apart := false, laid := [("malthouse/expr.operators", laid_malthouse_expr_operators), ("malthouse/rung.operations", laid_malthouse_rung_operations)] }
def RungBehindSaid : Prop := rungBehindRow.holds Tryd.pinned (OpenSpec.ofChange rungBehindSpec)

/-- ITS FALSE NEIGHBOUR: 'it returns false'. Refute it at one input. -/
def rungBehindWrong : ChangeSpec := { name := "rungBehind", fn := fun _ => fun
  | [d1, d2, d3, d4] => { results := [.lit (.bool false)], args := [d1, d2, d3, d4] }
  | _ => none }
def RungBehindWrongFalsely : Prop := rungBehindRow.holds Tryd.pinned (OpenSpec.ofChange rungBehindWrong)

/-- 'malthouselaw09.RungRises': WHATEVER THE INPUT: true; the input reads as it did. -/
def rungRisesSpec : ChangeSpec := { name := "rungRises", fn := fun _ => fun
  | [d1, d2, d3, d4] => { results := [.lit (.bool true)], args := [d1, d2, d3, d4] }
  | _ => none }
def rungRisesRow : OpenClaim := { program := "ytohljihndoodfaadoor", sum := "8b61177840248b3ad73e89a0c08eec72ca424a07588623f356ede10b55f59d9e", func := "malthouse/malthouselaw09.RungRises", spec := "rungRises", unfollowed := true, recurses := true, named := ["malthouse/rung.operations", "malthouse/expr.operators"], loops := true, apart := false, laid := [("malthouse/expr.operators", laid_malthouse_expr_operators), ("malthouse/rung.operations", laid_malthouse_rung_operations)] }
def RungRisesSaid : Prop := rungRisesRow.holds Tryd.pinned (OpenSpec.ofChange rungRisesSpec)

/-- ITS FALSE NEIGHBOUR: 'it returns false'. Refute it at one input. -/
def rungRisesWrong : ChangeSpec := { name := "rungRises", fn := fun _ => fun
  | [d1, d2, d3, d4] => { results := [.lit (.bool false)], args := [d1, d2, d3, d4] }
  | _ => none }
def RungRisesWrongFalsely : Prop := rungRisesRow.holds Tryd.pinned (OpenSpec.ofChange rungRisesWrong)

/- THE SECOND FORM. 'bulk': how many values and letters a reading holds, each counted each time it is reached (what is shared counts as often as it is met; a slice's spare places count too). A statement '..UptoSaid' is the law's where the arguments, and the package variables that the reading takes, are together of bulk at most 1048576: NARROWER than '..Said'. Prove '..Said' where nothing that the law and all that it calls make is longer than what came in: it says more and counts as full. Else prove '..UptoSaid'. A law counts once. -/
mutual
def uptoBulk {H : Type} : DataW H → Nat
  | .lit (.string bytes) => bytes.length + 1
  | .lit _ => 1
  | .nil => 1
  | .ptr d => uptoBulk d + 1
  | .slice elems spare => uptoBulkAll elems + uptoBulkAll spare + 1
  | .agg parts => uptoBulkAll parts + 1
  | .iface _ d => uptoBulk d + 1
  | .map entries => uptoBulkEntries entries + 1
  | .held _ => 1
def uptoBulkAll {H : Type} : List (DataW H) → Nat
  | [] => 0
  | d :: r => uptoBulk d + uptoBulkAll r
def uptoBulkEntries {H : Type} : List (Lit × DataW H) → Nat
  | [] => 0
  | x :: r => uptoBulkEntry x + uptoBulkEntries r
def uptoBulkEntry {H : Type} : Lit × DataW H → Nat
  | (.string bytes, d) => bytes.length + uptoBulk d + 1
  | (_, d) => uptoBulk d + 1
 end
def uptoSmall : (H : Type) → List (DataW H) → Bool := fun _ ds => decide (uptoBulkAll ds ≤ 1048576)
def OpenSpec.upto (s : _root_.Go.ChangeSpec) : _root_.Go.OpenSpec := { _root_.Go.OpenSpec.ofChange s with cond := some uptoSmall }

/-- 'malthouselaw09.RungChecks', WHERE WHAT IT READS IS OF BULK AT MOST 1048576: true; the input reads as it did. -/
def rungChecksUptoRow : OpenClaim := { program := "ytohljihndoodfaadoor", sum := "8b61177840248b3ad73e89a0c08eec72ca424a07588623f356ede10b55f59d9e", func := "malthouse/malthouselaw09.RungChecks", spec := "rungChecks", unfollowed := true, recurses := true, named := ["malthouse/rung.operations", "malthouse/expr.operators"], loops := true, apart := false, laid := [("malthouse/expr.operators", laid_malthouse_expr_operators), ("malthouse/rung.operations", laid_malthouse_rung_operations)], narrowed := true }
def RungChecksUptoSaid : Prop := rungChecksUptoRow.holds Tryd.pinned (OpenSpec.upto rungChecksSpec)

/-- 'malthouselaw09.RungHolds', WHERE WHAT IT READS IS OF BULK AT MOST 1048576: true; the input reads as it did. -/
def rungHoldsUptoRow : OpenClaim := { program := "ytohljihndoodfaadoor", sum := "8b61177840248b3ad73e89a0c08eec72ca424a07588623f356ede10b55f59d9e", func := "malthouse/malthouselaw09.RungHolds", spec := "rungHolds", unfollowed := true, recurses := true, named := ["malthouse/rung.operations", "malthouse/expr.operators"], loops := true, apart := false, laid := [("malthouse/expr.operators", laid_malthouse_expr_operators), ("malthouse/rung.operations", laid_malthouse_rung_operations)], narrowed := true }
def RungHoldsUptoSaid : Prop := rungHoldsUptoRow.holds Tryd.pinned (OpenSpec.upto rungHoldsSpec)

/-- 'malthouselaw09.RungTurns', WHERE WHAT IT READS IS OF BULK AT MOST 1048576: true; the input reads as it did. -/
def rungTurnsUptoRow : OpenClaim := { program := "ytohljihndoodfaadoor", sum := "8b61177840248b3ad73e89a0c08eec72ca424a07588623f356ede10b55f59d9e", func := "malthouse/malthouselaw09.RungTurns", spec := "rungTurns", unfollowed := true, recurses := true, named := ["malthouse/rung.operations", "malthouse/expr.operators"], loops := true, apart := false, laid := [("malthouse/expr.operators", laid_malthouse_expr_operators), ("malthouse/rung.operations", laid_malthouse_rung_operations)], narrowed := true }
def RungTurnsUptoSaid : Prop := rungTurnsUptoRow.holds Tryd.pinned (OpenSpec.upto rungTurnsSpec)

/-- 'malthouselaw09.RungBehind', WHERE WHAT IT READS IS OF BULK AT MOST 1048576: true; the input reads as it did. -/
def rungBehindUptoRow : OpenClaim := { program := "ytohljihndoodfaadoor", sum := "8b61177840248b3ad73e89a0c08eec72ca424a07588623f356ede10b55f59d9e", func := "malthouse/malthouselaw09.RungBehind", spec := "rungBehind", unfollowed := true, recurses := true, named := ["malthouse/rung.operations", "malthouse/expr.operators"], loops := true, apart := false, laid := [("malthouse/expr.operators", laid_malthouse_expr_operators), ("malthouse/rung.operations", laid_malthouse_rung_operations)], narrowed := true }
def RungBehindUptoSaid : Prop := rungBehindUptoRow.holds Tryd.pinned (OpenSpec.upto rungBehindSpec)

/-- 'malthouselaw09.RungRises', WHERE WHAT IT READS IS OF BULK AT MOST 1048576: true; the input reads as it did. -/
def rungRisesUptoRow : OpenClaim := { program := "ytohljihndoodfaadoor", sum := "8b61177840248b3ad73e89a0c08eec72ca424a07588623f356ede10b55f59d9e", func := "malthouse/malthouselaw09.RungRises", spec := "rungRises", unfollowed := true, recurses := true, named := ["malthouse/rung.operations", "malthouse/expr.operators"], loops := true, apart := false, laid := [("malthouse/expr.operators", laid_malthouse_expr_operators), ("malthouse/rung.operations", laid_malthouse_rung_operations)], narrowed := true }
def RungRisesUptoSaid : Prop := rungRisesUptoRow.holds Tryd.pinned (OpenSpec.upto rungRisesSpec)

end Rows
end Go.Proofs.YtohljihndoodfaaDoor
