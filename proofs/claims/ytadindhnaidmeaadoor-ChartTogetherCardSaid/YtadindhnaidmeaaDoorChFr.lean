/-
  What all laws of this seat share: the tables out of the listed variables, and a world that holds them, for the witnesses.
-/
import Derived.Test.YtadindhnaidmeaaDoorCards
import Derived.Test.YtadindhnaidmeaaDoorTie
import Derived.Test.YtadindhnaidmeaaDoorChO
import Derived.LaidSub
import Derived.Deep.DeepHandedRow
import Derived.Lib.LaidTab
namespace Go.Proofs.YtadindhnaidmeaaDoor.Ch
open Go.ChangeShapes Go.WideShapes Go.ChangeAt Go.RowKit

theorem own : ownKnob Tryd.prog.godebug = none := by kernel_rfl
theorem laidOut : laidOutB Tryd.prog = true := by kernel_rfl
theorem tgt_global : Tryd.prog.globalNamed "malthouse/chart.targets" = some 0 := by kernel_rfl
theorem end_global : Tryd.prog.globalNamed "malthouse/chart.ends" = some 1 := by kernel_rfl
theorem pri_global : Tryd.prog.globalNamed "malthouse/chart.priority" = some 2 := by kernel_rfl
theorem nam_global : Tryd.prog.globalNamed "malthouse/chart.names" = some 3 := by kernel_rfl
theorem wor_global : Tryd.prog.globalNamed "malthouse/chart.words" = some 4 := by kernel_rfl
theorem tgt_type : (Tryd.prog.globals[0]?).map (·.type) = some 40 := by kernel_rfl
theorem end_type : (Tryd.prog.globals[1]?).map (·.type) = some 41 := by kernel_rfl
theorem pri_type : (Tryd.prog.globals[2]?).map (·.type) = some 44 := by kernel_rfl
theorem nam_type : (Tryd.prog.globals[3]?).map (·.type) = some 45 := by kernel_rfl
theorem wor_type : (Tryd.prog.globals[4]?).map (·.type) = some 46 := by kernel_rfl
theorem c_tgt : Tryd.prog.cellsOf 40 = 8 * 2 := by kernel_rfl
theorem c_line : Tryd.prog.cellsOf 39 = 2 := by kernel_rfl
theorem c_end : Tryd.prog.cellsOf 41 = 12 * 1 := by kernel_rfl
theorem c_pri : Tryd.prog.cellsOf 44 = 8 * 1 := by kernel_rfl
theorem c_nam : Tryd.prog.cellsOf 45 = 12 * 1 := by kernel_rfl
theorem c_wor : Tryd.prog.cellsOf 46 = 8 * 1 := by kernel_rfl
theorem c_int : Tryd.prog.cellsOf 3 = 1 := by kernel_rfl
theorem c_str : Tryd.prog.cellsOf 9 = 1 := by kernel_rfl
theorem c_set : Tryd.prog.cellsOf 38 = 1 := by kernel_rfl

/-- A row that is cut into pieces is these pieces. -/
theorem cells_rows {α : Type} {m : Nat} : ∀ {rows : List (List α)} {cs : List α}, cs.length = rows.length * m → (∀ i (hi : i < rows.length), (cs.drop (i * m)).take m = rows[i]) → cs = rows.flatten
  | [], cs, hl, _ => by simpa using hl
  | r :: rows, cs, hl, h => by
    have h0 := h 0 (by simp)
    simp only [Nat.zero_mul, List.drop_zero, List.getElem_cons_zero] at h0
    have hl' : cs.length = rows.length * m + m := by rw [hl, List.length_cons, Nat.succ_mul]
    have := cells_rows (m := m) (rows := rows) (cs := cs.drop m) (by rw [List.length_drop, hl']; omega) (fun i hi => by
      have h1 := h (i + 1) (by simp; omega)
      rw [List.getElem_cons_succ] at h1
      rw [← h1, List.drop_drop, Nat.succ_mul, Nat.add_comm])
    rw [List.flatten_cons, ← this, ← h0, List.take_append_drop]

theorem flat_one {α β : Type} (f : α → β) (l : List α) : (l.map fun z => [f z]).flatten = l.map f := by
  induction l with
  | nil => rfl
  | cons z l ih => rw [List.map_cons, List.flatten_cons, ih]; rfl

section
variable {H : Type} {enc : TypeId × Value → H} {w : World} {base : Nat} {sp : Nat → Bool} {held : Bool}
/-- An array, element by element. -/
theorem arr_cells {fuel : Nat} {T e : TypeId} {n m : Nat} {cs : List Value} {ds : List (DataW H)} {p : List MemPlace} (ht : Tryd.prog.underlying T = some (.array n e)) (ce : Tryd.prog.cellsOf e = m) (cT : Tryd.prog.cellsOf T = n * m)
    (h : DataW.trod enc Tryd.prog w base sp held fuel T cs = some (.agg ds, p)) : cs.length = n * m ∧ ∀ i, i < n → ∃ fuel' d q, ds[i]? = some d ∧ DataW.trod enc Tryd.prog w base sp held fuel' e ((cs.drop (i * m)).take m) = some (d, q) := by
  cases fuel with
  | zero => simp [DataW.trod] at h
  | succ fuel =>
    simp only [DataW.trod, ht, ce, cT] at h
    split at h
    · rename_i hl
      obtain ⟨xs, hm, hx⟩ := Option.map_eq_some_iff.1 h
      refine ⟨by simpa using hl, fun i hi => ?_⟩
      obtain ⟨b, hb, hf⟩ := Lib.mapM_at hm i i (by simp [hi])
      have hds : xs.map (·.1) = ds := by
        have := congrArg Prod.fst hx
        simpa using this
      exact ⟨fuel, b.1, b.2, by rw [← hds]; simp [hb], hf⟩
    · cases h
theorem ints_cells {fuel : Nat} {T : TypeId} {n : Nat} {cs : List Value} {zs : List Int} {p : List MemPlace} (ht : Tryd.prog.underlying T = some (.array n 3)) (cT : Tryd.prog.cellsOf T = n * 1) (hn : zs.length = n)
    (h : DataW.trod enc Tryd.prog w base sp held fuel T cs = some (.agg (zs.map fun z => .lit (.int .i64 z)), p)) : cs = zs.map fun z => Value.int .i64 z := by
  obtain ⟨hl, hr⟩ := arr_cells ht c_int cT h
  have := cells_rows (m := 1) (rows := zs.map fun z => [Value.int .i64 z]) (cs := cs) (by simp [hl, hn]) (fun i hi => by
    have hi' : i < zs.length := by simpa using hi
    obtain ⟨f, d, q, hd, ht2⟩ := hr i (by omega)
    obtain ⟨z, hz, he, -⟩ := DataW.trod_int Tryd.underlying3 ht2
    injection he with he _
    subst he
    rw [hz]
    simp [List.getElem?_eq_getElem hi'] at hd
    simp [hd])
  rw [this, flat_one]
theorem strs_cells {fuel : Nat} {T : TypeId} {n : Nat} {cs : List Value} {ss : List (List UInt8)} {p : List MemPlace} (ht : Tryd.prog.underlying T = some (.array n 9)) (cT : Tryd.prog.cellsOf T = n * 1) (hn : ss.length = n)
    (h : DataW.trod enc Tryd.prog w base sp held fuel T cs = some (.agg (ss.map fun z => .lit (.string z)), p)) : cs = ss.map fun z => Value.string ⟨z.toArray⟩ := by
  obtain ⟨hl, hr⟩ := arr_cells ht c_str cT h
  have := cells_rows (m := 1) (rows := ss.map fun z => [Value.string ⟨z.toArray⟩]) (cs := cs) (by simp [hl, hn]) (fun i hi => by
    have hi' : i < ss.length := by simpa using hi
    obtain ⟨f, d, q, hd, ht2⟩ := hr i (by omega)
    obtain ⟨z, hz, he, -⟩ := DataW.trod_string Tryd.underlying9 ht2
    injection he with he _
    subst he
    rw [hz]
    simp [List.getElem?_eq_getElem hi'] at hd
    simp [hd])
  rw [this, flat_one]
theorem line_cells {fuel : Nat} {cs : List Value} {a b : Int} {p : List MemPlace}
    (h : DataW.trod enc Tryd.prog w base sp held fuel 39 cs = some (.agg [.lit (.int .i64 a), .lit (.int .u16 b)], p)) : cs = [.int .i64 a, .int .u16 b] := by
  obtain ⟨xs, n, -, hx, hlen, -, hf⟩ := DataW.trod_struct Tryd.underlying39 h
  rw [c_line] at hlen
  injection hx with hx _
  injection hx with hx
  match cs, hlen with
  | [x, y], _ =>
    have g0 := hf 0 _ rfl
    have g1 := hf 1 _ rfl
    have hl2 : xs.length = 2 := by have := congrArg List.length hx; simpa using this.symm
    obtain ⟨y0, y1, rfl⟩ : ∃ y0 y1, xs = [y0, y1] := by
      match xs, hl2 with
      | [y0, y1], _ => exact ⟨_, _, rfl⟩
    simp only [List.map_cons, List.map_nil, List.cons.injEq, and_true] at hx
    simp only [List.getElem?_cons_zero, List.getElem?_cons_succ] at g0 g1
    obtain ⟨l', h1, e1, -⟩ := DataW.trod_int Tryd.underlying3 g0
    obtain ⟨k', h2, e2, -⟩ := DataW.trod_int Tryd.underlying38 g1
    rw [e1, e2] at hx
    simp [c_int, c_set] at h1 h2 hx
    obtain ⟨rfl, rfl⟩ := hx
    subst h1 h2
    rfl
end
def tgtR : List (Int × Int) := [(1, 1), (2, 2), (1, 8), (4, 78), (6, 32), (7, 126), (9, 254), (0, 3328)]
theorem tgt_cells {H : Type} {enc : TypeId × Value → H} {w : World} {base : Nat} {sp : Nat → Bool} {held : Bool} {fuel : Nat} {cs : List Value} {p : List MemPlace}
    (h : DataW.trod enc Tryd.prog w base sp held fuel 40 cs = some (Rows.laid_malthouse_chart_targets, p)) : cs = tgtC.toList := by
  have hd : (Rows.laid_malthouse_chart_targets : DataW H) = .agg (tgtR.map fun o => .agg [.lit (.int .i64 o.1), .lit (.int .u16 o.2)]) := rfl
  rw [hd] at h
  obtain ⟨hl, hr⟩ := arr_cells Tryd.underlying40 c_line c_tgt h
  exact cells_rows (m := 2) (rows := tgtR.map fun o => [Value.int .i64 o.1, Value.int .u16 o.2]) (cs := cs) (by rw [hl]; rfl) (fun i hi => by
    have hi' : i < tgtR.length := by simpa using hi
    obtain ⟨f, d, q, hd, ht2⟩ := hr i hi'
    rw [List.getElem?_map, List.getElem?_eq_getElem hi'] at hd
    simp only [Option.map_some, Option.some.injEq] at hd
    subst hd
    rw [line_cells ht2, List.getElem_map])

section
variable {L : List (String × DataW Unit)} {W : World}
theorem var_blk {n : String} {d : DataW Unit} {g : Nat} {T : TypeId} {C : Array Value} (hg : Tryd.prog.globalNamed n = some g) (hT : (Tryd.prog.globals[g]?).map (·.type) = some T)
    (hc : ∀ (fuel : Nat) (cs : List Value) (p : List MemPlace), DataW.trod (fun _ => ()) Tryd.prog W 0 (fun _ => true) false fuel T cs = some (d, p) → cs = C.toList) (h : laidMet Tryd.prog [(n, d)] W) : Blk W g C := by
  obtain ⟨ps, ⟨g', t', cs, fuel, p, q, hg', ht', hvar, hd, _, _⟩, _⟩ := h
  obtain rfl := Option.some.inj (hg.symm.trans hg')
  obtain rfl := Option.some.inj (hT.symm.trans ht')
  have hcs := hc _ _ _ hd
  unfold World.var? at hvar
  simp only [hg, Option.bind_some] at hvar
  split at hvar
  · rename_i cs' T fz hh
    injection hvar with hvar
    refine ⟨T, fz, ?_⟩
    rw [hh]
    congr 2
    apply Array.toList_inj.1
    rw [hvar, hcs]
  · cases hvar
theorem one_of (h : laidMetH Tryd.prog L W) {n : String} {d : DataW Unit} (e : L.filter (fun x => x.1 == n) = [(n, d)]) (hn : laidMetH Tryd.prog [(n, d)] W = laidMet Tryd.prog [(n, d)] W) : laidMet Tryd.prog [(n, d)] W := by
  have h2 := h.filter (fun x => x.1 == n)
  rw [e, hn] at h2
  exact h2
theorem tgt_of (h : laidMetH Tryd.prog L W) (e : L.filter (fun x => x.1 == "malthouse/chart.targets") = [("malthouse/chart.targets", Rows.laid_malthouse_chart_targets)]) : Blk W 0 tgtC :=
  var_blk tgt_global tgt_type (fun _ _ _ hd => tgt_cells hd) (one_of h e rfl)
theorem end_of (h : laidMetH Tryd.prog L W) (e : L.filter (fun x => x.1 == "malthouse/chart.ends") = [("malthouse/chart.ends", Rows.laid_malthouse_chart_ends)]) : Ends W :=
  var_blk end_global end_type (fun _ _ _ hd => ints_cells (zs := endZ) Tryd.underlying41 c_end rfl hd) (one_of h e rfl)
theorem pri_of (h : laidMetH Tryd.prog L W) (e : L.filter (fun x => x.1 == "malthouse/chart.priority") = [("malthouse/chart.priority", Rows.laid_malthouse_chart_priority)]) : Blk W 2 priC :=
  var_blk pri_global pri_type (fun _ _ _ hd => ints_cells (zs := orderL) Tryd.underlying44 c_pri rfl hd) (one_of h e rfl)
theorem nam_of (h : laidMetH Tryd.prog L W) (e : L.filter (fun x => x.1 == "malthouse/chart.names") = [("malthouse/chart.names", Rows.laid_malthouse_chart_names)]) : Blk W 3 namC :=
  var_blk nam_global nam_type (fun _ _ _ hd => strs_cells (ss := nameL) Tryd.underlying45 c_nam rfl hd) (one_of h e rfl)
theorem wor_of (h : laidMetH Tryd.prog L W) (e : L.filter (fun x => x.1 == "malthouse/chart.words") = [("malthouse/chart.words", Rows.laid_malthouse_chart_words)]) : Words W :=
  var_blk wor_global wor_type (fun _ _ _ hd => strs_cells (ss := wordL) Tryd.underlying46 c_wor rfl hd) (one_of h e rfl)
end

def filled (cs : Array Value) : Obj → Obj
  | .cells _ t frozen => .cells cs t frozen
  | o => o
/-- A world for the witnesses: the settled one, the tables holding what their initialisers lay. -/
noncomputable def laidWorld (os : Os) : World :=
  { World.holding Tryd.prog os ⟨#[], #[], []⟩ with heap := (((((World.holding Tryd.prog os ⟨#[], #[], []⟩).heap.modify 0 (filled tgtC)).modify 1 (filled endC)).modify 2 (filled priC)).modify 3 (filled namC)).modify 4 (filled worC) }
end Go.Proofs.YtadindhnaidmeaaDoor.Ch
