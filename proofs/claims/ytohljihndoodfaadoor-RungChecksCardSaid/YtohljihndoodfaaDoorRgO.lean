/-
  The laws' arguments opened: rungs (with their codes, with their expressions), bools, names.
-/
import Derived.Test.YtohljihndoodfaaDoorRgFr
import Derived.Test.YtohljihndoodfaaDoorExO
import Derived.Test.YtohljihndoodfaaDoorExOe
import Derived.ProofKit
import Derived.OpenShut
import Derived.Deep.Slices
import Derived.Deep.Fields
import Derived.Carry
import Derived.ChangeMaps5
import Derived.ChangeArms
import Derived.WideShapes
namespace Go.Proofs.YtohljihndoodfaaDoor.Rg
open Go.ChangeShapes Go.WideShapes Go.ChangeAt Go.RowKit Go.Deep Ep

section
variable {H : Type} {enc : TypeId × Value → H} {W : World}
/-- A slice opened, whatever its elements are. -/
theorem open_gen {α : Type} [Inhabited α] {f : α → List Value} {Pw : α → Prop} {size : Nat} {t e : TypeId} (ht : Tryd.prog.underlying t = some (.slice e)) (hce : Tryd.prog.cellsOf e = size) (hsz : 0 < size) (hfl : ∀ a, (f a).length = size)
    (hel : ∀ {n : Nat} {cs : List Value} {y : DataW H × List MemPlace}, DataW.trod enc Tryd.prog W 0 (fun _ => true) true n e cs = some y → ∃ x, cs = f x ∧ Pw x)
    {fuel : Nat} {c2 : Value} {y : DataW H × List MemPlace} (hf : DataW.trod enc Tryd.prog W 0 (fun _ => true) true fuel t [c2] = some y) :
    ∃ (A : Option Addr) (l : List α) (c : Nat), c2 = .slice A l.length c ∧ l.length ≤ c ∧ c ≤ maxLen ∧ RowF size f W A l ∧ ∀ x ∈ l, Pw x := by
  subst hce
  rcases open_slice ht hf with ⟨hcs, _⟩ | ⟨a, n0, cap, m, n, D, Pl, hcs, _, hl, hm, hmm, _, hx⟩
  · injection hcs with hcs
    exact ⟨none, [], 0, hcs, by simp, by unfold maxLen; omega, RowF.nil_, by simp⟩
  · injection hcs with hcs
    simp only [if_true] at hmm
    obtain ⟨V, hV⟩ := choose_lt (α := α) (p := fun i x => ∃ cs', W.cells? 0 (a.add (i * Tryd.prog.cellsOf e)) (Tryd.prog.cellsOf e) = some cs' ∧ cs' = f x ∧ Pw x) (n := m) (fun i hi => by
      obtain ⟨cs', h1, h2⟩ := hx i hi
      obtain ⟨x, hx⟩ := hel h2
      exact ⟨x, cs', h1, hx⟩)
    have hlen : ((List.range n0).map V).length = n0 := by simp
    refine ⟨some a, (List.range n0).map V, cap, by rw [hlen]; exact hcs, by rw [hlen]; exact hl, hm, fun hp => ?_, ?_⟩
    · rw [hlen] at hp
      have hcell : ∀ i, i < n0 → ∀ j u, (f (V i))[j]? = some u → W.cell? ((a.add (i * Tryd.prog.cellsOf e)).add j) = some u := fun i hi j u hu => by
        obtain ⟨cs', hc, rfl, _⟩ := hV i (by omega)
        obtain ⟨_, hl', hat'⟩ := World.cells?_some hc
        have hj : j < (f (V i)).length := (List.getElem?_eq_some_iff.1 hu).1
        rw [hat' j (by rw [hfl] at hj; exact hj)]
        exact hu
      have h0 : ∃ u, (f (V 0))[0]? = some u := ⟨_, List.getElem?_eq_getElem (by rw [hfl]; exact hsz)⟩
      obtain ⟨u0, hu0⟩ := h0
      have hc0 := hcell 0 hp 0 u0 hu0
      have ea : (a.add (0 * Tryd.prog.cellsOf e)).add 0 = a := by simp [Addr.add]
      rw [ea] at hc0
      have hsp := Ep.spot_none hc0
      refine ⟨a.block, a.off, by rw [← hsp], Ep.blk_lt1 hc0, fun i hi j u hu => ?_⟩
      rw [hlen] at hi
      simp only [List.getElem_map, List.getElem_range] at hu
      have := hcell i hi j u hu
      rw [hsp, Ep.add_lit, Ep.add_lit] at this
      exact this
    · intro x hx
      obtain ⟨i, hi, rfl⟩ := List.mem_map.1 hx
      rw [List.mem_range] at hi
      obtain ⟨_, _, _, hp⟩ := hV i (by omega)
      exact hp


theorem cells_ins : Tryd.prog.cellsOf 40 = 6 := by kernel_rfl
theorem cells_rung : Tryd.prog.cellsOf 43 = 3 := by kernel_rfl
theorem cells_expr : Tryd.prog.cellsOf 34 = 4 := by kernel_rfl
theorem cells_bool1 : Tryd.prog.cellsOf 4 = 1 := by kernel_rfl
theorem cells_str1 : Tryd.prog.cellsOf 9 = 1 := by kernel_rfl
theorem cells_int1 : Tryd.prog.cellsOf 3 = 1 := by kernel_rfl
theorem cells_code : Tryd.prog.cellsOf 41 = 1 := by kernel_rfl
theorem el_bool {n : Nat} {cs : List Value} {y : DataW H × List MemPlace} (h : DataW.trod enc Tryd.prog W 0 (fun _ => true) true n 4 cs = some y) : ∃ x, cs = boolC x ∧ True := by
  obtain ⟨k, e, _⟩ := DataW.trod_bool Tryd.underlying4 h
  exact ⟨k, e, trivial⟩
theorem str_nm (s : ByteArray) : s = ⟨(s.data.toList).toArray⟩ := by cases s; simp
theorem el_str {n : Nat} {cs : List Value} {y : DataW H × List MemPlace} (h : DataW.trod enc Tryd.prog W 0 (fun _ => true) true n 9 cs = some y) : ∃ x, cs = strC x ∧ x.length ≤ maxLen := by
  obtain ⟨s, e, _, w⟩ := DataW.trod_string Tryd.underlying9 h
  refine ⟨s.data.toList, ?_, ?_⟩
  · rw [e]; unfold strC; rw [← str_nm]
  · exact w
/-- An instruction's cells. -/
def IsIn (W : World) (cs : List Value) (i : In) : Prop := cs = insC i ∧ TrE W i
set_option maxRecDepth 100000 in
theorem el_ins {n : Nat} {cs : List Value} {y : DataW H × List MemPlace} (h : DataW.trod enc Tryd.prog W 0 (fun _ => true) true n 40 cs = some y) : ∃ x, cs = insC x ∧ TrE W x := by
  obtain ⟨ys, n', hn', hy, hlen, hyl, hf⟩ := DataW.trod_struct Tryd.underlying40 h
  rw [cells_ins] at hlen
  match cs, hlen with
  | [c0, c1, c2, c3, c4, c5], _ =>
    have g0 := hf 0 _ rfl
    have g1 := hf 1 _ rfl
    have g2 := hf 2 _ rfl
    match ys, hyl with
    | [y0, y1, y2], _ =>
      have ci := cells_int1
      have cb := cells_str1
      have ce := cells_expr
      simp only [List.getElem?_cons_zero, List.getElem?_cons_succ] at g0 g1 g2
      obtain ⟨k0, e0, _, _⟩ := DataW.trod_int Tryd.underlying3 g0
      obtain ⟨s, e1, _, _⟩ := DataW.trod_string Tryd.underlying9 g1
      injection e0 with e0
      injection e1 with e1
      subst e0; subst e1
      obtain ⟨t, a, cap, e2, hT, hN⟩ := open_ex _ _ _ g2
      have e2' : List.take (Tryd.prog.cellsOf 34) [c2, c3, c4, c5] = _ := e2
      rw [ce] at e2'
      simp only [List.take_succ_cons, List.take_zero] at e2'
      injection e2' with q2 e2'
      injection e2' with q3 e2'
      injection e2' with q4 e2'
      injection e2' with q5 _
      subst q2; subst q3; subst q4; subst q5
      refine ⟨⟨k0, s.data.toList, t, a, cap⟩, ?_, hT, hN⟩
      unfold insC
      rw [← str_nm]
instance : Inhabited In := ⟨insO 0 []⟩
instance : Inhabited Ru := ⟨⟨0, [], [], none, 0⟩⟩
/-- What is known of a rung that came in. -/
def RuIn (W : World) (r : Ru) : Prop := Code W r.ca r.code ∧ r.nm.length ≤ maxLen ∧ r.code.length ≤ r.cc ∧ r.cc ≤ maxLen
set_option maxRecDepth 100000 in
theorem el_rung {n : Nat} {cs : List Value} {y : DataW H × List MemPlace} (h : DataW.trod enc Tryd.prog W 0 (fun _ => true) true n 43 cs = some y) : ∃ x, cs = ruC x ∧ RuIn W x := by
  obtain ⟨ys, n', hn', hy, hlen, hyl, hf⟩ := DataW.trod_struct Tryd.underlying43 h
  rw [cells_rung] at hlen
  match cs, hlen with
  | [c0, c1, c2], _ =>
    have g0 := hf 0 _ rfl
    have g1 := hf 1 _ rfl
    have g2 := hf 2 _ rfl
    match ys, hyl with
    | [y0, y1, y2], _ =>
      have ci := cells_int1
      have cb := cells_str1
      have cc := cells_code
      simp only [List.getElem?_cons_zero, List.getElem?_cons_succ] at g0 g1 g2
      obtain ⟨k0, e0, _, _⟩ := DataW.trod_int Tryd.underlying3 g0
      obtain ⟨s, e1, _, w1⟩ := DataW.trod_string Tryd.underlying9 g1
      injection e0 with e0
      injection e1 with e1
      subst e0; subst e1
      have g2' : DataW.trod enc Tryd.prog W 0 (fun _ => true) true n' 41 [c2] = some y2 := by
        have h2 : DataW.trod enc Tryd.prog W 0 (fun _ => true) true n' 41 (List.take (Tryd.prog.cellsOf 41) [c2]) = some y2 := g2
        rw [cc] at h2
        exact h2
      obtain ⟨A, l, c, rfl, hlc, hcm, hrow, hall⟩ := open_gen (f := insC) (Pw := TrE W) Tryd.underlying41 cells_ins (by omega) (fun _ => rfl) el_ins g2'
      refine ⟨⟨k0, s.data.toList, l, A, c⟩, ?_, ⟨hrow, hall⟩, w1, hlc, hcm⟩
      unfold ruC
      rw [← str_nm]

variable {base0 : Nat} {r : Reach} {v : Value} {d : DataW H} {p : List MemPlace}
set_option maxRecDepth 100000 in
theorem open_bools9 (hv : Value.okWide Tryd.prog W r base0 46 v) (h : DataW.Trod enc Tryd.prog W 0 (fun _ => true) true 46 v d p) :
    ∃ (A : Option Addr) (l : List Bool) (c : Nat), v = .slice A l.length c ∧ l.length ≤ c ∧ Bools W A l := by
  obtain ⟨a0, n0, c0, rfl⟩ := okWide_slice Tryd.underlying46 hv
  obtain ⟨fuel, hf⟩ := h
  obtain ⟨A, l, c, e, hlc, hcm, hrow, _⟩ := open_gen (f := boolC) (Pw := fun _ => True) Tryd.underlying46 cells_bool1 (by omega) (fun _ => rfl) el_bool hf
  exact ⟨A, l, c, e, hlc, hrow⟩
set_option maxRecDepth 100000 in
theorem open_strs9 (hv : Value.okWide Tryd.prog W r base0 23 v) (h : DataW.Trod enc Tryd.prog W 0 (fun _ => true) true 23 v d p) :
    ∃ (A : Option Addr) (l : List Nm) (c : Nat), v = .slice A l.length c ∧ l.length ≤ c ∧ Strs W A l ∧ ∀ x ∈ l, x.length ≤ maxLen := by
  obtain ⟨a0, n0, c0, rfl⟩ := okWide_slice Tryd.underlying23 hv
  obtain ⟨fuel, hf⟩ := h
  obtain ⟨A, l, c, e, hlc, hcm, hrow, hx⟩ := open_gen (f := strC) (Pw := fun x => x.length ≤ maxLen) Tryd.underlying23 cells_str1 (by omega) (fun _ => rfl) el_str hf
  exact ⟨A, l, c, e, hlc, hrow, hx⟩
set_option maxRecDepth 100000 in
theorem open_rungs (hv : Value.okWide Tryd.prog W r base0 22 v) (h : DataW.Trod enc Tryd.prog W 0 (fun _ => true) true 22 v d p) :
    ∃ (A : Option Addr) (l : List Ru) (c : Nat), v = .slice A l.length c ∧ (l.length ≤ c ∧ c ≤ maxLen) ∧ Rungs W A l ∧ ∀ x ∈ l, RuIn W x := by
  obtain ⟨a0, n0, c0, rfl⟩ := okWide_slice Tryd.underlying22 hv
  obtain ⟨fuel, hf⟩ := h
  obtain ⟨A, l, c, e, hlc, hcm, hrow, hx⟩ := open_gen (f := ruC) (Pw := RuIn W) Tryd.underlying22 cells_rung (by omega) (fun _ => rfl) el_rung hf
  exact ⟨A, l, c, e, ⟨hlc, hcm⟩, ⟨hrow, fun x h => (hx x h).1⟩, hx⟩
set_option maxRecDepth 100000 in
theorem open_rung (hv : Value.okWide Tryd.prog W r base0 43 v) (h : DataW.Trod enc Tryd.prog W 0 (fun _ => true) true 43 v d p) :
    ∃ x : Ru, v = ruV x ∧ Code W x.ca x.code ∧ RuIn W x := by
  obtain ⟨cs, rfl, hsz⟩ := okWide_struct Tryd.underlying43 hv
  obtain ⟨fuel, hf⟩ := h
  have hcs : (Value.agg cs).cells = cs := rfl
  rw [hcs] at hf
  obtain ⟨x, e, hx⟩ := el_rung hf
  refine ⟨x, ?_, hx.1, hx⟩
  have : cs = (ruC x).toArray := by
    apply Array.toList_inj.1
    exact e
  rw [this]
  rfl
end
end Go.Proofs.YtohljihndoodfaaDoor.Rg
