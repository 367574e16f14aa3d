/-
  The laws' argument opened: a list of cells.
-/
import Derived.Test.YtohljihndoodfaaDoorExO
import Derived.Test.YtohljihndoodfaaDoorExB
namespace Go.Proofs.YtohljihndoodfaaDoor.Ep
open Go.ChangeShapes Go.WideShapes Go.ChangeAt Go.RowKit Go.Deep

theorem cells_cell : Tryd.prog.cellsOf 56 = 2 := by kernel_rfl
/-- A slice is a list of cells, of any length. -/
def EnvA (w : World) (env : List (List UInt8 × Int)) (v : Value) : Prop :=
  (∃ a cap, v = .slice a env.length cap ∧ env.length ≤ cap ∧ cap ≤ maxLen ∧ (env ≠ [] → ∃ g off, a = some ⟨g, off, none⟩ ∧ g < w.heap.size ∧ EnvAt w g off env)) ∧ (∀ c ∈ env, -9223372036854775808 ≤ c.2 ∧ c.2 ≤ 9223372036854775807)
theorem EnvA.short {w : World} {env : List (List UInt8 × Int)} {v : Value} (h : EnvA w env v) (hl : env.length ≤ 1000000) : EnvV w env v := by
  obtain ⟨⟨a, cap, h1, h2, -, h3⟩, h4⟩ := h
  exact ⟨⟨a, cap, h1, h2, h3⟩, h4, hl⟩

section
variable {H : Type} {enc : TypeId × Value → H} {W : World}
def IsCe (cs : List Value) (x : List UInt8 × Int) : Prop := cs = [.string ⟨x.1.toArray⟩, .int .i64 x.2] ∧ -9223372036854775808 ≤ x.2 ∧ x.2 ≤ 9223372036854775807
set_option maxRecDepth 100000 in
theorem open_ce {n : Nat} {cs : List Value} {y : DataW H × List MemPlace} (h : DataW.trod enc Tryd.prog W 0 (fun _ => true) true n 56 cs = some y) : ∃ x, IsCe cs x := by
  obtain ⟨ys, n', hn', hy, hlen, hyl, hf⟩ := DataW.trod_struct Tryd.underlying56 h
  rw [cells_cell] at hlen
  match cs, hlen with
  | [c0, c1], _ =>
    have g0 := hf 0 _ rfl
    have g1 := hf 1 _ rfl
    match ys, hyl with
    | [y0, y1], _ =>
      have ci := cells_int1
      have cb := cells_str1
      simp only [List.getElem?_cons_zero, List.getElem?_cons_succ] at g0 g1
      obtain ⟨s, e0, _⟩ := DataW.trod_string Tryd.underlying9 g0
      obtain ⟨k1, e1, _, w1⟩ := DataW.trod_int Tryd.underlying3 g1
      injection e0 with e0
      injection e1 with e1
      subst e0; subst e1
      simp only [Lit.wf, Bool.and_eq_true, decide_eq_true_eq] at w1
      refine ⟨(s.data.toList, k1), ?_, w1⟩
      show _ = [Value.string ⟨s.data.toList.toArray⟩, .int .i64 k1]
      simp

set_option maxRecDepth 100000 in
theorem open_env {base0 : Nat} {r : Reach} {v : Value} {d : DataW H} {p : List MemPlace} (hv : Value.okWide Tryd.prog W r base0 35 v) (h : DataW.Trod enc Tryd.prog W 0 (fun _ => true) true 35 v d p) :
    ∃ env, EnvA W env v := by
  obtain ⟨a0, n0, c0, rfl⟩ := okWide_slice Tryd.underlying35 hv
  obtain ⟨fuel, hf⟩ := h
  rcases open_slice Tryd.underlying35 hf with ⟨hcs, _⟩ | ⟨a, len, cap, m, n, D, Pl, hcs, _, hl, hm, hmm, _, hx⟩
  · simp [Value.cells] at hcs
    obtain ⟨rfl, rfl, rfl⟩ := hcs
    exact ⟨[], ⟨none, 0, rfl, by simp, by unfold maxLen; omega, fun h => absurd rfl h⟩, by simp⟩
  · simp [Value.cells] at hcs
    obtain ⟨rfl, rfl, rfl⟩ := hcs
    simp only [if_true] at hmm
    rw [cells_cell] at hx
    obtain ⟨V, hV⟩ := choose_lt (α := List UInt8 × Int) (p := fun i x => ∃ cs', W.cells? 0 (a.add (i * 2)) 2 = some cs' ∧ IsCe cs' x) (n := m) (fun i hi => by
      obtain ⟨cs', h1, h2⟩ := hx i hi
      obtain ⟨x, hx⟩ := open_ce h2
      exact ⟨x, cs', h1, hx⟩)
    have hks : ((List.range n0).map V).length = n0 := by simp
    refine ⟨(List.range n0).map V, ⟨some a, c0, by rw [hks], by rw [hks]; exact hl, hm, fun hne => ?_⟩, ?_⟩
    · have hpos : 0 < n0 := by
        rcases Nat.eq_zero_or_pos n0 with h0 | h0
        · exact absurd (List.length_eq_zero_iff.1 (by rw [hks]; exact h0)) hne
        · exact h0
      obtain ⟨cs0, hc0, ⟨he0, _⟩⟩ := hV 0 (by omega)
      obtain ⟨_, hl0, hat0⟩ := World.cells?_some hc0
      subst he0
      have hcell0 := hat0 0 (by omega)
      have ha0 : W.cell? a = some (.string ⟨(V 0).1.toArray⟩) := by
        have e : (a.add (0 * 2)).add 0 = a := by simp [Addr.add]
        rw [e] at hcell0
        simpa using hcell0
      have hsp := spot_none ha0
      refine ⟨a.block, a.off, by rw [← hsp], blk_lt1 ha0, fun i hi => ?_⟩
      rw [hks] at hi
      obtain ⟨cs', hc', ⟨hei, _⟩⟩ := hV i (by omega)
      obtain ⟨_, hl', hat'⟩ := World.cells?_some hc'
      subst hei
      have key : ∀ j, j < 2 → W.cell? ⟨a.block, a.off + i * 2 + j, none⟩ = [Value.string ⟨(V i).1.toArray⟩, .int .i64 (V i).2][j]? := fun j hj => by
        have hx := hat' j hj
        have e : (a.add (i * 2)).add j = ⟨a.block, a.off + i * 2 + j, none⟩ := by
          rw [hsp, add_lit, add_lit]
        rw [e] at hx
        exact hx
      simp only [List.getElem_map, List.getElem_range]
      exact ⟨key 0 (by omega), key 1 (by omega)⟩
    · intro c hc
      obtain ⟨i, hi, rfl⟩ := List.mem_map.1 hc
      rw [List.mem_range] at hi
      obtain ⟨_, _, ⟨_, hnum⟩⟩ := hV i (by omega)
      exact hnum
end
end Go.Proofs.YtohljihndoodfaaDoor.Ep
