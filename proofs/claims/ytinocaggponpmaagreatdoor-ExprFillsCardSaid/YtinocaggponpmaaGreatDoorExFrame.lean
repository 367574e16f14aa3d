/-
  What all laws of this seat share: the tables out of the listed variables, and a world that holds the listed variables, for the witnesses.
-/
import Derived.Test.YtinocaggponpmaaGreatDoorCards
import Derived.Test.YtinocaggponpmaaGreatDoorTie
import Derived.Test.YtinocaggponpmaaGreatDoorExFr
import Derived.ProofKit
import Derived.OpenShut
import Derived.LaidSub
import Derived.Deep.DeepHandedRow
import Derived.Lib.LaidTab
namespace Go.Proofs.YtinocaggponpmaaGreatDoor.Ep
open Go.ChangeShapes Go.WideShapes Go.ChangeAt Go.RowKit Lx

theorem own : ownKnob Tryz.prog.godebug = none := by kernel_rfl
theorem gTabType : (Tryz.prog.globals[1]?).map (·.type) = some 149 := by kernel_rfl
theorem cellsTab : Tryz.prog.cellsOf 149 = 20 := by kernel_rfl
theorem cells64 : Tryz.prog.cellsOf 118 = 1 := by kernel_rfl
theorem ops_global : Tryz.prog.globalNamed "malthouse/expr.operators" = some 0 := by kernel_rfl
theorem gOpsType : (Tryz.prog.globals[0]?).map (·.type) = some 82 := by kernel_rfl
theorem cellsOps : Tryz.prog.cellsOf 82 = 51 := by kernel_rfl
theorem cellsRow : Tryz.prog.cellsOf 81 = 3 := by kernel_rfl
theorem cellsStr : Tryz.prog.cellsOf 9 = 1 := by kernel_rfl
theorem cellsInt : Tryz.prog.cellsOf 3 = 1 := by kernel_rfl

def laidList : List (String × DataW Unit) := [("math/bits.deBruijn32tab", Rows.laid_math_bits_deBruijn32tab), ("math/bits.deBruijn64tab", Rows.laid_math_bits_deBruijn64tab), ("internal/strconv.uint64pow10", Rows.laid_internal_strconv_uint64pow10), ("malthouse/expr.operators", Rows.laid_malthouse_expr_operators)]

theorem table {W : World} (h : laidMetH Tryz.prog laidList W) : Tab W := by
  have h2 := h.filter (fun x => x.1 == "internal/strconv.uint64pow10")
  have e : laidList.filter (fun x => x.1 == "internal/strconv.uint64pow10") = [("internal/strconv.uint64pow10", Rows.laid_internal_strconv_uint64pow10)] := by
    simp [laidList]
  rw [e] at h2
  exact Lib.tabIs_of_head (rest := []) tab_global gTabType Tryz.underlying149 Tryz.underlying118 cells64 cellsTab h2

theorem three {α : Type} {l : List α} (h : l.length = 3) : ∃ a b c, l = [a, b, c] := by
  cases l with
  | nil => simp at h
  | cons a l => cases l with
    | nil => simp at h
    | cons b l => cases l with
      | nil => simp at h
      | cons c l => cases l with
        | nil => exact ⟨a, b, c, rfl⟩
        | cons d l => simp at h
/-- One row of the table of operators. -/
theorem row_cells {enc : TypeId × Value → Unit} {w : World} {base : Nat} {sp : Nat → Bool} {held : Bool} {fuel : Nat} {cs : List Value} {s : List UInt8} {l k : Int} {p : List MemPlace}
    (h : DataW.trod enc Tryz.prog w base sp held fuel 81 cs = some (.agg [.lit (.string s), .lit (.int .i64 l), .lit (.int .i64 k)], p)) :
    cs = [.string ⟨s.toArray⟩, .int .i64 l, .int .i64 k] := by
  obtain ⟨xs, n, -, hx, hlen, -, hf⟩ := DataW.trod_struct Tryz.underlying81 h
  rw [cellsRow] at hlen
  injection hx with hx _
  injection hx with hx
  obtain ⟨a, b, c, rfl⟩ := three hlen
  have g0 := hf 0 _ rfl
  have g1 := hf 1 _ rfl
  have g2 := hf 2 _ rfl
  have hl3 : xs.length = 3 := by have := congrArg List.length hx; simpa using this.symm
  obtain ⟨y0, y1, y2, rfl⟩ := three hl3
  simp only [List.map_cons, List.map_nil, List.cons.injEq, and_true] at hx
  simp only [List.getElem?_cons_zero, List.getElem?_cons_succ] at g0 g1 g2
  obtain ⟨s', h0, e0, -⟩ := DataW.trod_string Tryz.underlying9 g0
  obtain ⟨l', h1, e1, -⟩ := DataW.trod_int Tryz.underlying3 g1
  obtain ⟨k', h2, e2, -⟩ := DataW.trod_int Tryz.underlying3 g2
  rw [e0, e1, e2] at hx
  simp [cellsStr, cellsInt] at h0 h1 h2 hx
  obtain ⟨hs, rfl, rfl⟩ := hx
  subst h0 h1 h2
  rw [hs]

theorem ops_cells {enc : TypeId × Value → Unit} {w : World} {base : Nat} {sp : Nat → Bool} {held : Bool} {fuel : Nat} {cs : List Value} {p : List MemPlace}
    (h : DataW.trod enc Tryz.prog w base sp held fuel 82 cs = some (Rows.laid_malthouse_expr_operators, p)) : cs = opsC.toList := by
  have hd : (Rows.laid_malthouse_expr_operators : DataW Unit) = .agg (opsT.map fun o => .agg [.lit (.string o.1), .lit (.int .i64 o.2.1), .lit (.int .i64 o.2.2)]) := rfl
  rw [hd] at h
  cases fuel with
  | zero => simp [DataW.trod] at h
  | succ fuel =>
    simp only [DataW.trod, Tryz.underlying82, cellsRow, cellsOps] at h
    split at h
    · rename_i hl
      obtain ⟨xs, hm, hx⟩ := Option.map_eq_some_iff.1 h
      have hxs : xs.map (·.1) = opsT.map fun o => (DataW.agg [.lit (.string o.1), .lit (.int .i64 o.2.1), .lit (.int .i64 o.2.2)] : DataW Unit) := by
        have := congrArg Prod.fst hx
        simpa using this
      have hrow : ∀ i, i < 17 → (cs.drop (i * 3)).take 3 = [.string ⟨(opsT.getD i ([], 5, 0)).1.toArray⟩, .int .i64 (opsT.getD i ([], 5, 0)).2.1, .int .i64 (opsT.getD i ([], 5, 0)).2.2] := by
        intro i hi
        obtain ⟨b, hb, hf⟩ := Lib.mapM_at hm i i (by simp [hi])
        have h1 : (xs.map (·.1))[i]? = some b.1 := by simp [hb]
        have hil : i < opsT.length := hi
        rw [hxs, List.getElem?_map, List.getElem?_eq_getElem hil] at h1
        simp only [Option.map_some, Option.some.injEq] at h1
        have e : opsT.getD i ([], 5, 0) = opsT[i] := by rw [List.getD_eq_getElem?_getD, List.getElem?_eq_getElem hil]; rfl
        rw [e]
        obtain ⟨b1, b2⟩ := b
        simp only at h1
        subst h1
        exact row_cells hf
      apply List.ext_getElem?
      intro j
      by_cases hj : j < 51
      · have hq := hrow (j / 3) (by omega)
        have e1 : cs[j]? = ((cs.drop (j / 3 * 3)).take 3)[j % 3]? := by
          rw [List.getElem?_take, if_pos (by omega), List.getElem?_drop]; congr 1; omega
        rw [e1, hq]
        obtain ⟨q0, q1, q2⟩ := opsC_at (j / 3) (by omega)
        unfold opS at q0
        unfold opL at q1
        unfold opK at q2
        unfold opAt at q0 q1 q2
        rw [Int.toNat_natCast] at q0 q1 q2
        have e3 : j % 3 = 0 ∨ j % 3 = 1 ∨ j % 3 = 2 := by omega
        have e4 : opsC.toList[j]? = opsC[j]? := by simp
        rw [e4]
        rcases e3 with e3 | e3 | e3
        · rw [e3, show opsC[j]? = opsC[j / 3 * 3]? by congr 1; omega, q0]; rfl
        · rw [e3, show opsC[j]? = opsC[j / 3 * 3 + 1]? by congr 1; omega, q1]; rfl
        · rw [e3, show opsC[j]? = opsC[j / 3 * 3 + 2]? by congr 1; omega, q2]; rfl
      · have hl2 : opsC.toList.length = 51 := rfl
        rw [List.getElem?_eq_none (by omega), List.getElem?_eq_none (by omega)]
    · cases h

theorem opsTable {W : World} (h : laidMetH Tryz.prog laidList W) : Ops W := by
  have h2 := h.filter (fun x => x.1 == "malthouse/expr.operators")
  have e : laidList.filter (fun x => x.1 == "malthouse/expr.operators") = [("malthouse/expr.operators", Rows.laid_malthouse_expr_operators)] := by
    simp [laidList]
  rw [e] at h2
  obtain ⟨ps, ⟨g', t', cs, fuel, p, q, hg', ht', hvar, hd, _, _⟩, _⟩ : laidMet Tryz.prog [("malthouse/expr.operators", Rows.laid_malthouse_expr_operators)] W := h2
  obtain rfl := Option.some.inj (ops_global.symm.trans hg')
  obtain rfl := Option.some.inj (gOpsType.symm.trans ht')
  have hc := ops_cells hd
  unfold World.var? at hvar
  simp only [ops_global, Option.bind_some] at hvar
  split at hvar
  · rename_i cs' T fz hh
    injection hvar with hvar
    refine ⟨T, fz, ?_⟩
    rw [hh]
    congr 2
    apply Array.toList_inj.1
    rw [hvar, hc]
  · cases hvar

def filled (cs : Array Value) : Obj → Obj
  | .cells _ t frozen => .cells cs t frozen
  | o => o
def tab32 : Array Value := #[.int .u8 0, .int .u8 1, .int .u8 28, .int .u8 2, .int .u8 29, .int .u8 14, .int .u8 24, .int .u8 3, .int .u8 30, .int .u8 22, .int .u8 20, .int .u8 15, .int .u8 25, .int .u8 17, .int .u8 4, .int .u8 8, .int .u8 31, .int .u8 27, .int .u8 13, .int .u8 23, .int .u8 21, .int .u8 19, .int .u8 16, .int .u8 7, .int .u8 26, .int .u8 12, .int .u8 18, .int .u8 6, .int .u8 11, .int .u8 5, .int .u8 10, .int .u8 9]
def tab64 : Array Value := #[.int .u8 0, .int .u8 1, .int .u8 56, .int .u8 2, .int .u8 57, .int .u8 49, .int .u8 28, .int .u8 3, .int .u8 61, .int .u8 58, .int .u8 42, .int .u8 50, .int .u8 38, .int .u8 29, .int .u8 17, .int .u8 4, .int .u8 62, .int .u8 47, .int .u8 59, .int .u8 36, .int .u8 45, .int .u8 43, .int .u8 51, .int .u8 22, .int .u8 53, .int .u8 39, .int .u8 33, .int .u8 30, .int .u8 24, .int .u8 18, .int .u8 12, .int .u8 5, .int .u8 63, .int .u8 55, .int .u8 48, .int .u8 27, .int .u8 60, .int .u8 41, .int .u8 37, .int .u8 16, .int .u8 46, .int .u8 35, .int .u8 44, .int .u8 21, .int .u8 52, .int .u8 32, .int .u8 23, .int .u8 11, .int .u8 54, .int .u8 26, .int .u8 40, .int .u8 15, .int .u8 34, .int .u8 20, .int .u8 31, .int .u8 10, .int .u8 25, .int .u8 14, .int .u8 19, .int .u8 9, .int .u8 13, .int .u8 8, .int .u8 7, .int .u8 6]
def tab10 : Array Value := (Lib.pow10Tab.map fun z => Value.int .u64 z).toArray
/-- A world for the witnesses: the settled one, the listed tables holding what their initialisers lay. -/
noncomputable def laidWorld (os : Os) : World :=
  { World.holding Tryz.prog os ⟨#[], #[], []⟩ with heap := ((((World.holding Tryz.prog os ⟨#[], #[], []⟩).heap.modify 1 (filled tab10)).modify 2 (filled tab32)).modify 3 (filled tab64)).modify 0 (filled opsC) }
end Go.Proofs.YtinocaggponpmaaGreatDoor.Ep
