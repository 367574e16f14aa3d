/-
  The law's argument opened (cells); the walk of ExprEvals.
-/
import Derived.Test.YtlbmojflinkfcaaDoorExFr
import Derived.Test.YtlbmojflinkfcaaDoorExV6
import Derived.Test.YtlbmojflinkfcaaDoorExO
namespace Go.Proofs.YtlbmojflinkfcaaDoor.Ep
open Go.ChangeShapes Go.WideShapes Go.ChangeAt Go.RowKit Go.Deep

theorem cells_cell : Tryd.prog.cellsOf 42 = 2 := by kernel_rfl
/-- A slice is a list of cells, of any length. -/
def EnvA (w : World) (env : List (List UInt8 × Int)) (v : Value) : Prop :=
  (∃ a cap, v = .slice a env.length cap ∧ env.length ≤ cap ∧ cap ≤ maxLen ∧ (env ≠ [] → ∃ g off, a = some ⟨g, off, none⟩ ∧ g < w.heap.size ∧ EnvAt w g off env)) ∧ (∀ c ∈ env, -9223372036854775808 ≤ c.2 ∧ c.2 ≤ 9223372036854775807)
theorem EnvA.short {w : World} {env : List (List UInt8 × Int)} {v : Value} (h : EnvA w env v) (hl : env.length ≤ 1000000) : EnvV w env v := by
  obtain ⟨⟨a, cap, h1, h2, -, h3⟩, h4⟩ := h
  exact ⟨⟨a, cap, h1, h2, h3⟩, h4, hl⟩

section
variable {H : Type} {enc : TypeId × Value → H} {W : World}
def IsCe (cs : List Value) (x : List UInt8 × Int) : Prop := cs = [.string ⟨x.1.toArray⟩, .int .i64 x.2] ∧ -9223372036854775808 ≤ x.2 ∧ x.2 ≤ 9223372036854775807
set_option maxRecDepth 100000 in
theorem open_ce {n : Nat} {cs : List Value} {y : DataW H × List MemPlace} (h : DataW.trod enc Tryd.prog W 0 (fun _ => true) true n 42 cs = some y) : ∃ x, IsCe cs x := by
  obtain ⟨ys, n', hn', hy, hlen, hyl, hf⟩ := DataW.trod_struct Tryd.underlying42 h
  rw [cells_cell] at hlen
  match cs, hlen with
  | [c0, c1], _ =>
    have g0 := hf 0 _ rfl
    have g1 := hf 1 _ rfl
    match ys, hyl with
    | [y0, y1], _ =>
      have ci := cells_int1
      have cb := cells_str1
      simp only [List.getElem?_cons_zero, List.getElem?_cons_succ] at g0 g1
      obtain ⟨s, e0, _⟩ := DataW.trod_string Tryd.underlying9 g0
      obtain ⟨k1, e1, _, w1⟩ := DataW.trod_int Tryd.underlying3 g1
      injection e0 with e0
      injection e1 with e1
      subst e0; subst e1
      simp only [Lit.wf, Bool.and_eq_true, decide_eq_true_eq] at w1
      refine ⟨(s.data.toList, k1), ?_, w1⟩
      show _ = [Value.string ⟨s.data.toList.toArray⟩, .int .i64 k1]
      simp

set_option maxRecDepth 100000 in
theorem open_env {base0 : Nat} {r : Reach} {v : Value} {d : DataW H} {p : List MemPlace} (hv : Value.okWide Tryd.prog W r base0 25 v) (h : DataW.Trod enc Tryd.prog W 0 (fun _ => true) true 25 v d p) :
    ∃ env, EnvA W env v := by
  obtain ⟨a0, n0, c0, rfl⟩ := okWide_slice Tryd.underlying25 hv
  obtain ⟨fuel, hf⟩ := h
  rcases open_slice Tryd.underlying25 hf with ⟨hcs, _⟩ | ⟨a, len, cap, m, n, D, Pl, hcs, _, hl, hm, hmm, _, hx⟩
  · simp [Value.cells] at hcs
    obtain ⟨rfl, rfl, rfl⟩ := hcs
    exact ⟨[], ⟨none, 0, rfl, by simp, by unfold maxLen; omega, fun h => absurd rfl h⟩, by simp⟩
  · simp [Value.cells] at hcs
    obtain ⟨rfl, rfl, rfl⟩ := hcs
    simp only [if_true] at hmm
    rw [cells_cell] at hx
    obtain ⟨V, hV⟩ := choose_lt (α := List UInt8 × Int) (p := fun i x => ∃ cs', W.cells? 0 (a.add (i * 2)) 2 = some cs' ∧ IsCe cs' x) (n := m) (fun i hi => by
      obtain ⟨cs', h1, h2⟩ := hx i hi
      obtain ⟨x, hx⟩ := open_ce h2
      exact ⟨x, cs', h1, hx⟩)
    have hks : ((List.range n0).map V).length = n0 := by simp
    refine ⟨(List.range n0).map V, ⟨some a, c0, by rw [hks], by rw [hks]; exact hl, hm, fun hne => ?_⟩, ?_⟩
    · have hpos : 0 < n0 := by
        rcases Nat.eq_zero_or_pos n0 with h0 | h0
        · exact absurd (List.length_eq_zero_iff.1 (by rw [hks]; exact h0)) hne
        · exact h0
      obtain ⟨cs0, hc0, ⟨he0, _⟩⟩ := hV 0 (by omega)
      obtain ⟨_, hl0, hat0⟩ := World.cells?_some hc0
      subst he0
      have hcell0 := hat0 0 (by omega)
      have ha0 : W.cell? a = some (.string ⟨(V 0).1.toArray⟩) := by
        have e : (a.add (0 * 2)).add 0 = a := by simp [Addr.add]
        rw [e] at hcell0
        simpa using hcell0
      have hsp := spot_none ha0
      refine ⟨a.block, a.off, by rw [← hsp], blk_lt1 ha0, fun i hi => ?_⟩
      rw [hks] at hi
      obtain ⟨cs', hc', ⟨hei, _⟩⟩ := hV i (by omega)
      obtain ⟨_, hl', hat'⟩ := World.cells?_some hc'
      subst hei
      have key : ∀ j, j < 2 → W.cell? ⟨a.block, a.off + i * 2 + j, none⟩ = [Value.string ⟨(V i).1.toArray⟩, .int .i64 (V i).2][j]? := fun j hj => by
        have hx := hat' j hj
        have e : (a.add (i * 2)).add j = ⟨a.block, a.off + i * 2 + j, none⟩ := by
          rw [hsp, add_lit, add_lit]
        rw [e] at hx
        exact hx
      simp only [List.getElem_map, List.getElem_range]
      exact ⟨key 0 (by omega), key 1 (by omega)⟩
    · intro c hc
      obtain ⟨i, hi, rfl⟩ := List.mem_map.1 hc
      rw [List.mem_range] at hi
      obtain ⟨_, _, ⟨_, hnum⟩⟩ := hV i (by omega)
      exact hnum
end
end Go.Proofs.YtlbmojflinkfcaaDoor.Ep
namespace Go.Proofs.YtlbmojflinkfcaaDoor.Ep
open Go.RowKit Lx

def EvPost (w : World) (e : Ending) (w' : World) : Prop := e = .returned (.bool true) ∧ Below w.heap.size w w'
set_option maxRecDepth 100000 in
set_option maxHeartbeats 8000000 in
theorem evals_walk (v ve : Value) (t : Ex) (env : List (List UInt8 × Int)) (w : World) (hT : TreeV (fun _ => True) w t v) (hN : numsE t) (hE : EnvA w env ve) (hTab : Tab w) (hO : Ops w) :
    Calls Tryd.prog 3 #[v, ve] w (EvPost w) := by
  obtain ⟨va, vcap, rfl, hvc, hvk⟩ := hT.open
  unfold exV at hT ⊢
  have hx0 := Box.new w 24 #[.int .i64 t.op, .int .i64 t.n, .string ⟨t.name.toArray⟩, .slice va t.kids.length vcap]
  have hbA : Below w.heap.size w (w.alloc (.cells #[.int .i64 t.op, .int .i64 t.n, .string ⟨t.name.toArray⟩, .slice va t.kids.length vcap] 24)) := (Below.refl _ _).alloc (Nat.le_refl _) _
  have hO0 := hO.below hbA hO.lt
  have hTab0 := Tab.belowB hTab hbA (Tab.lt hTab)
  have HV : Hid (env.length ≤ 1000 → ∀ w' : World, Below w.heap.size w w' → Ops w' → Calls Tryd.prog 8 #[.agg #[.int .i64 t.op, .int .i64 t.n, .string ⟨t.name.toArray⟩, .slice va t.kids.length vcap], ve] w' (RkP (evalE env t) w')) := fun hl w' hb hO' =>
    Eval_any t _ _ ve env w' hO' (hT.below hb (Nat.le_refl _)) ((hE.short (by omega)).below hb (Nat.le_refl _)) hN
  have HU : Hid (env.length ≤ 1000 → shortE t → ∀ w' : World, Below w.heap.size w w' → Calls Tryd.prog 9 #[.agg #[.int .i64 t.op, .int .i64 t.n, .string ⟨t.name.toArray⟩, .slice va t.kids.length vcap], ve] w' (RkP (evalE env t) w')) := fun hl hs w' hb =>
    refEval_any t _ _ ve env w' (hT.below hb (Nat.le_refl _)) ((hE.short (by omega)).below hb (Nat.le_refl _)) hN hs
  have HLt : Hid (∀ w' : World, Below w.heap.size w w' → Calls Tryd.prog 7 #[.agg #[.int .i64 t.op, .int .i64 t.n, .string ⟨t.name.toArray⟩, .slice va t.kids.length vcap], .int .i64 400] w' (LsPost t w')) := fun w' hb => light_short t _ _ w' (hT.below hb (Nat.le_refl _))
  obtain ⟨⟨ea, ecap, rfl, hec, hem, -⟩, -⟩ := hE
  clear hvk hT hO hTab hN
  generalize evalE env t = p at *
  generalize env.length = el at *
  go_enter Tryd.func3, Tryd.ntmps3
  go_wp2_with fail
  generalize w.alloc (.cells #[.int .i64 t.op, .int .i64 t.n, .string ⟨t.name.toArray⟩, .slice va t.kids.length vcap] 24) = w0 at *
  refine (awake_any w0 hO0 hTab0).mono ?_
  rintro e w1 ⟨rfl, hb1⟩
  have hx1 := hx0.below hb1 hx0.lt
  have hO1 := hO0.below hb1 hO0.lt
  have hB1 := hbA.trans (hb1.mono hbA.size)
  clear hx0 hO0 hTab0 hb1 hbA
  obtain ⟨a0, a1, a2, a3, _, _, _, _⟩ := hx1.four
  go_wp2_with fail
  refine (HLt.out w1 hB1).mono ?_
  rintro e w2 ⟨lb, rfl, HS, hb2⟩
  have hx2 := hx1.below hb2 hx1.lt
  have hO2 := hO1.below hb2 hO1.lt
  have hB2 := hB1.trans (hb2.mono hB1.size)
  clear hx1 hO1 hb2 hB1 a0 a1 a2 a3 HLt
  obtain ⟨a0, a1, a2, a3, _, _, _, _⟩ := hx2.four
  cases lb
  · clear HV HU HS
    go_wp2
    go_ret
    exact ⟨rfl, hB2⟩
  · by_cases hl : el ≤ 1000
    · have dl : decide ((1000 : Int) < (el : Int)) = false := by simp; omega
      have HV1 := Lib.hid (HV.out hl)
      have HU1 := Lib.hid (HU.out hl (HS.out rfl))
      clear HV HU HS hl
      go_wp2_with fail
      refine (HV1.out w2 hB2 hO2).mono ?_
      rintro e w3 ⟨rfl, hb3⟩
      have hx3 := hx2.below hb3 hx2.lt
      have hB3 := hB2.trans (hb3.mono hB2.size)
      clear hx2 hO2 hb3 hB2 a0 a1 a2 a3 HV1
      obtain ⟨a0, a1, a2, a3, _, _, _, _⟩ := hx3.four
      go_wp2_with fail
      refine (HU1.out w3 hB3).mono ?_
      rintro e w4 ⟨rfl, hb4⟩
      have hB4 := hB3.trans (hb4.mono hB3.size)
      clear hx3 hb4 hB3 a0 a1 a2 a3 HU1
      go_wp2
      go_ret
      exact ⟨rfl, hB4⟩
    · have dl : decide ((1000 : Int) < (el : Int)) = true := by simp; omega
      clear HV HU HS hl
      go_wp2
      go_ret
      exact ⟨rfl, hB2⟩
end Go.Proofs.YtlbmojflinkfcaaDoor.Ep
