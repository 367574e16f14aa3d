/-
  What all laws of this seat share: the tables out of the listed variables, and a world that holds them, for the witnesses.
-/
import Derived.Test.YtohljihndoodfaaDoorCards
import Derived.Test.YtohljihndoodfaaDoorTie
import Derived.Test.YtohljihndoodfaaDoorRgL1
import Derived.ProofKit
import Derived.OpenShut
import Derived.LaidSub
import Derived.Deep.DeepHandedRow
import Derived.Lib.LaidTab
namespace Go.Proofs.YtohljihndoodfaaDoor.Rg
open Go.ChangeShapes Go.WideShapes Go.ChangeAt Go.RowKit Lx Ep

theorem own : ownKnob Tryd.prog.godebug = none := by kernel_rfl
theorem laidOut : laidOutB Tryd.prog = true := by kernel_rfl
theorem ops_global : Tryd.prog.globalNamed "malthouse/expr.operators" = some 0 := by kernel_rfl
theorem gOpsType : (Tryd.prog.globals[0]?).map (·.type) = some 79 := by kernel_rfl
theorem cellsOps : Tryd.prog.cellsOf 79 = 51 := by kernel_rfl
theorem cellsRow : Tryd.prog.cellsOf 78 = 3 := by kernel_rfl
theorem opn_global : Tryd.prog.globalNamed "malthouse/rung.operations" = some 1 := by kernel_rfl
theorem gOpnType : (Tryd.prog.globals[1]?).map (·.type) = some 101 := by kernel_rfl
theorem cellsOpn : Tryd.prog.cellsOf 101 = 30 := by kernel_rfl
theorem cellsLine : Tryd.prog.cellsOf 100 = 3 := by kernel_rfl
theorem cellsStr : Tryd.prog.cellsOf 9 = 1 := by kernel_rfl
theorem cellsInt : Tryd.prog.cellsOf 3 = 1 := by kernel_rfl
def laidList : List (String × DataW Unit) := [("malthouse/expr.operators", Rows.laid_malthouse_expr_operators), ("malthouse/rung.operations", Rows.laid_malthouse_rung_operations)]

theorem three {α : Type} {l : List α} (h : l.length = 3) : ∃ a b c, l = [a, b, c] := by
  cases l with
  | nil => simp at h
  | cons a l => cases l with
    | nil => simp at h
    | cons b l => cases l with
      | nil => simp at h
      | cons c l => cases l with
        | nil => exact ⟨a, b, c, rfl⟩
        | cons d l => simp at h
/-- One row of the table of operators. -/
theorem row_cells {enc : TypeId × Value → Unit} {w : World} {base : Nat} {sp : Nat → Bool} {held : Bool} {fuel : Nat} {cs : List Value} {s : List UInt8} {l k : Int} {p : List MemPlace}
    (h : DataW.trod enc Tryd.prog w base sp held fuel 78 cs = some (.agg [.lit (.string s), .lit (.int .i64 l), .lit (.int .i64 k)], p)) :
    cs = [.string ⟨s.toArray⟩, .int .i64 l, .int .i64 k] := by
  obtain ⟨xs, n, -, hx, hlen, -, hf⟩ := DataW.trod_struct Tryd.underlying78 h
  rw [cellsRow] at hlen
  injection hx with hx _
  injection hx with hx
  obtain ⟨a, b, c, rfl⟩ := three hlen
  have g0 := hf 0 _ rfl
  have g1 := hf 1 _ rfl
  have g2 := hf 2 _ rfl
  have hl3 : xs.length = 3 := by have := congrArg List.length hx; simpa using this.symm
  obtain ⟨y0, y1, y2, rfl⟩ := three hl3
  simp only [List.map_cons, List.map_nil, List.cons.injEq, and_true] at hx
  simp only [List.getElem?_cons_zero, List.getElem?_cons_succ] at g0 g1 g2
  obtain ⟨s', h0, e0, -⟩ := DataW.trod_string Tryd.underlying9 g0
  obtain ⟨l', h1, e1, -⟩ := DataW.trod_int Tryd.underlying3 g1
  obtain ⟨k', h2, e2, -⟩ := DataW.trod_int Tryd.underlying3 g2
  rw [e0, e1, e2] at hx
  simp [cellsStr, cellsInt] at h0 h1 h2 hx
  obtain ⟨hs, rfl, rfl⟩ := hx
  subst h0 h1 h2
  rw [hs]

theorem ops_cells {enc : TypeId × Value → Unit} {w : World} {base : Nat} {sp : Nat → Bool} {held : Bool} {fuel : Nat} {cs : List Value} {p : List MemPlace}
    (h : DataW.trod enc Tryd.prog w base sp held fuel 79 cs = some (Rows.laid_malthouse_expr_operators, p)) : cs = opsC.toList := by
  have hd : (Rows.laid_malthouse_expr_operators : DataW Unit) = .agg (opsT.map fun o => .agg [.lit (.string o.1), .lit (.int .i64 o.2.1), .lit (.int .i64 o.2.2)]) := rfl
  rw [hd] at h
  cases fuel with
  | zero => simp [DataW.trod] at h
  | succ fuel =>
    simp only [DataW.trod, Tryd.underlying79, cellsRow, cellsOps] at h
    split at h
    · rename_i hl
      obtain ⟨xs, hm, hx⟩ := Option.map_eq_some_iff.1 h
      have hxs : xs.map (·.1) = opsT.map fun o => (DataW.agg [.lit (.string o.1), .lit (.int .i64 o.2.1), .lit (.int .i64 o.2.2)] : DataW Unit) := by
        have := congrArg Prod.fst hx
        simpa using this
      have hrow : ∀ i, i < 17 → (cs.drop (i * 3)).take 3 = [.string ⟨(opsT.getD i ([], 5, 0)).1.toArray⟩, .int .i64 (opsT.getD i ([], 5, 0)).2.1, .int .i64 (opsT.getD i ([], 5, 0)).2.2] := by
        intro i hi
        obtain ⟨b, hb, hf⟩ := Lib.mapM_at hm i i (by simp [hi])
        have h1 : (xs.map (·.1))[i]? = some b.1 := by simp [hb]
        have hil : i < opsT.length := hi
        rw [hxs, List.getElem?_map, List.getElem?_eq_getElem hil] at h1
        simp only [Option.map_some, Option.some.injEq] at h1
        have e : opsT.getD i ([], 5, 0) = opsT[i] := by rw [List.getD_eq_getElem?_getD, List.getElem?_eq_getElem hil]; rfl
        rw [e]
        obtain ⟨b1, b2⟩ := b
        simp only at h1
        subst h1
        exact row_cells hf
      apply List.ext_getElem?
      intro j
      by_cases hj : j < 51
      · have hq := hrow (j / 3) (by omega)
        have e1 : cs[j]? = ((cs.drop (j / 3 * 3)).take 3)[j % 3]? := by
          rw [List.getElem?_take, if_pos (by omega), List.getElem?_drop]; congr 1; omega
        rw [e1, hq]
        obtain ⟨q0, q1, q2⟩ := opsC_at (j / 3) (by omega)
        unfold opS at q0
        unfold opL at q1
        unfold opK at q2
        unfold Ep.opAt at q0 q1 q2
        rw [Int.toNat_natCast] at q0 q1 q2
        have e3 : j % 3 = 0 ∨ j % 3 = 1 ∨ j % 3 = 2 := by omega
        have e4 : opsC.toList[j]? = opsC[j]? := by simp
        rw [e4]
        rcases e3 with e3 | e3 | e3
        · rw [e3, show opsC[j]? = opsC[j / 3 * 3]? by congr 1; omega, q0]; rfl
        · rw [e3, show opsC[j]? = opsC[j / 3 * 3 + 1]? by congr 1; omega, q1]; rfl
        · rw [e3, show opsC[j]? = opsC[j / 3 * 3 + 2]? by congr 1; omega, q2]; rfl
      · have hl2 : opsC.toList.length = 51 := rfl
        rw [List.getElem?_eq_none (by omega), List.getElem?_eq_none (by omega)]
    · cases h

theorem opsTable {W : World} (h : laidMetH Tryd.prog laidList W) : Ops W := by
  have h2 := h.filter (fun x => x.1 == "malthouse/expr.operators")
  have e : laidList.filter (fun x => x.1 == "malthouse/expr.operators") = [("malthouse/expr.operators", Rows.laid_malthouse_expr_operators)] := by
    simp [laidList]
  rw [e] at h2
  obtain ⟨ps, ⟨g', t', cs, fuel, p, q, hg', ht', hvar, hd, _, _⟩, _⟩ : laidMet Tryd.prog [("malthouse/expr.operators", Rows.laid_malthouse_expr_operators)] W := h2
  obtain rfl := Option.some.inj (ops_global.symm.trans hg')
  obtain rfl := Option.some.inj (gOpsType.symm.trans ht')
  have hc := ops_cells hd
  unfold World.var? at hvar
  simp only [ops_global, Option.bind_some] at hvar
  split at hvar
  · rename_i cs' T fz hh
    injection hvar with hvar
    refine ⟨T, fz, ?_⟩
    rw [hh]
    congr 2
    apply Array.toList_inj.1
    rw [hvar, hc]
  · cases hvar

/-- One line of the table of instructions. -/
theorem line_cells {enc : TypeId × Value → Unit} {w : World} {base : Nat} {sp : Nat → Bool} {held : Bool} {fuel : Nat} {cs : List Value} {s l k : Int} {p : List MemPlace}
    (h : DataW.trod enc Tryd.prog w base sp held fuel 100 cs = some (.agg [.lit (.int .i64 s), .lit (.int .i64 l), .lit (.int .i64 k)], p)) :
    cs = [.int .i64 s, .int .i64 l, .int .i64 k] := by
  obtain ⟨xs, n, -, hx, hlen, -, hf⟩ := DataW.trod_struct Tryd.underlying100 h
  rw [cellsLine] at hlen
  injection hx with hx _
  injection hx with hx
  obtain ⟨a, b, c, rfl⟩ := three hlen
  have g0 := hf 0 _ rfl
  have g1 := hf 1 _ rfl
  have g2 := hf 2 _ rfl
  have hl3 : xs.length = 3 := by have := congrArg List.length hx; simpa using this.symm
  obtain ⟨y0, y1, y2, rfl⟩ := three hl3
  simp only [List.map_cons, List.map_nil, List.cons.injEq, and_true] at hx
  simp only [List.getElem?_cons_zero, List.getElem?_cons_succ] at g0 g1 g2
  obtain ⟨s', h0, e0, -⟩ := DataW.trod_int Tryd.underlying3 g0
  obtain ⟨l', h1, e1, -⟩ := DataW.trod_int Tryd.underlying3 g1
  obtain ⟨k', h2, e2, -⟩ := DataW.trod_int Tryd.underlying3 g2
  rw [e0, e1, e2] at hx
  simp [cellsInt] at h0 h1 h2 hx
  obtain ⟨rfl, rfl, rfl⟩ := hx
  subst h0 h1 h2
  rfl

theorem opn_cells {enc : TypeId × Value → Unit} {w : World} {base : Nat} {sp : Nat → Bool} {held : Bool} {fuel : Nat} {cs : List Value} {p : List MemPlace}
    (h : DataW.trod enc Tryd.prog w base sp held fuel 101 cs = some (Rows.laid_malthouse_rung_operations, p)) : cs = opnC.toList := by
  have hd : (Rows.laid_malthouse_rung_operations : DataW Unit) = .agg (operT9.map fun o => .agg [.lit (.int .i64 o.1), .lit (.int .i64 o.2.1), .lit (.int .i64 o.2.2)]) := rfl
  rw [hd] at h
  cases fuel with
  | zero => simp [DataW.trod] at h
  | succ fuel =>
    simp only [DataW.trod, Tryd.underlying101, cellsLine, cellsOpn] at h
    split at h
    · rename_i hl
      obtain ⟨xs, hm, hx⟩ := Option.map_eq_some_iff.1 h
      have hxs : xs.map (·.1) = operT9.map fun o => (DataW.agg [.lit (.int .i64 o.1), .lit (.int .i64 o.2.1), .lit (.int .i64 o.2.2)] : DataW Unit) := by
        have := congrArg Prod.fst hx
        simpa using this
      have hrow : ∀ i, i < 10 → (cs.drop (i * 3)).take 3 = [.int .i64 (operT9.getD i (0, 0, 0)).1, .int .i64 (operT9.getD i (0, 0, 0)).2.1, .int .i64 (operT9.getD i (0, 0, 0)).2.2] := by
        intro i hi
        obtain ⟨b, hb, hf⟩ := Lib.mapM_at hm i i (by simp [hi])
        have h1 : (xs.map (·.1))[i]? = some b.1 := by simp [hb]
        have hil : i < operT9.length := hi
        rw [hxs, List.getElem?_map, List.getElem?_eq_getElem hil] at h1
        simp only [Option.map_some, Option.some.injEq] at h1
        have e : operT9.getD i (0, 0, 0) = operT9[i] := by rw [List.getD_eq_getElem?_getD, List.getElem?_eq_getElem hil]; rfl
        rw [e]
        obtain ⟨b1, b2⟩ := b
        simp only at h1
        subst h1
        exact line_cells hf
      apply List.ext_getElem?
      intro j
      by_cases hj : j < 30
      · have hq := hrow (j / 3) (by omega)
        have e1 : cs[j]? = ((cs.drop (j / 3 * 3)).take 3)[j % 3]? := by
          rw [List.getElem?_take, if_pos (by omega), List.getElem?_drop]; congr 1; omega
        rw [e1, hq]
        obtain ⟨q0, q1, q2⟩ := opnC_at (j / 3) (by omega)
        unfold usesP at q0
        unfold takesP at q1
        rw [Int.toNat_natCast] at q0 q1
        have q3 : (operT9.getD (j / 3) (0, 0, 0)).2.2 = 1 := by
          have hj3 : j / 3 < 10 := by omega
          generalize j / 3 = y at *
          have : y = 0 ∨ y = 1 ∨ y = 2 ∨ y = 3 ∨ y = 4 ∨ y = 5 ∨ y = 6 ∨ y = 7 ∨ y = 8 ∨ y = 9 := by omega
          rcases this with rfl | rfl | rfl | rfl | rfl | rfl | rfl | rfl | rfl | rfl <;> rfl
        rw [← q3] at q2
        have e3 : j % 3 = 0 ∨ j % 3 = 1 ∨ j % 3 = 2 := by omega
        have e4 : opnC.toList[j]? = opnC[j]? := by simp
        rw [e4]
        rcases e3 with e3 | e3 | e3
        · rw [e3, show opnC[j]? = opnC[j / 3 * 3]? by congr 1; omega, q0]; rfl
        · rw [e3, show opnC[j]? = opnC[j / 3 * 3 + 1]? by congr 1; omega, q1]; rfl
        · rw [e3, show opnC[j]? = opnC[j / 3 * 3 + 2]? by congr 1; omega, q2]; rfl
      · have hl2 : opnC.toList.length = 30 := rfl
        rw [List.getElem?_eq_none (by omega), List.getElem?_eq_none (by omega)]
    · cases h

theorem opnTable {W : World} (h : laidMetH Tryd.prog laidList W) : ∃ T fz, W.heap[1]? = some (.cells opnC T fz) := by
  have h2 := h.filter (fun x => x.1 == "malthouse/rung.operations")
  have e : laidList.filter (fun x => x.1 == "malthouse/rung.operations") = [("malthouse/rung.operations", Rows.laid_malthouse_rung_operations)] := by
    simp [laidList]
  rw [e] at h2
  obtain ⟨ps, ⟨g', t', cs, fuel, p, q, hg', ht', hvar, hd, _, _⟩, _⟩ : laidMet Tryd.prog [("malthouse/rung.operations", Rows.laid_malthouse_rung_operations)] W := h2
  obtain rfl := Option.some.inj (opn_global.symm.trans hg')
  obtain rfl := Option.some.inj (gOpnType.symm.trans ht')
  have hc := opn_cells hd
  unfold World.var? at hvar
  simp only [opn_global, Option.bind_some] at hvar
  split at hvar
  · rename_i cs' T fz hh
    injection hvar with hvar
    refine ⟨T, fz, ?_⟩
    rw [hh]
    congr 2
    apply Array.toList_inj.1
    rw [hvar, hc]
  · cases hvar

theorem tabs {W : World} (h : laidMetH Tryd.prog laidList W) : Tabs W := ⟨opsTable h, opnTable h⟩
def filled (cs : Array Value) : Obj → Obj
  | .cells _ t frozen => .cells cs t frozen
  | o => o
/-- A world for the witnesses: the settled one, the listed tables holding what their initialisers lay. -/
noncomputable def laidWorld (os : Os) : World :=
  { World.holding Tryd.prog os ⟨#[], #[], []⟩ with heap := ((World.holding Tryd.prog os ⟨#[], #[], []⟩).heap.modify 1 (filled opnC)).modify 0 (filled opsC) }
end Go.Proofs.YtohljihndoodfaaDoor.Rg
