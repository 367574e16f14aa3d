/-
  The laws' arguments opened: tags, images, cells, turns.
-/
import Derived.Test.YtppffmmngomijaaTgB
import Derived.ProofKit
import Derived.OpenShut
import Derived.Deep.Slices
import Derived.Deep.Fields
import Derived.Carry
import Derived.ChangeMaps5
import Derived.ChangeArms
import Derived.WideShapes
namespace Go.Proofs.Ytppffmmngomijaa.Tg
open Go.ChangeShapes Go.WideShapes Go.ChangeAt Go.RowKit Go.Deep

theorem spot_none {w : World} {a : Addr} {v : Value} (h : w.cell? a = some v) : a = ⟨a.block, a.off, none⟩ := by
  obtain ⟨b, o, sp⟩ := a
  cases sp with
  | none => rfl
  | some x =>
    unfold World.cell? at h
    split at h
    · simp at h
    · cases h
theorem blk_lt1 {w : World} {a : Addr} {v : Value} (h : w.cell? a = some v) : a.block < w.heap.size := by
  rcases Nat.lt_or_ge a.block w.heap.size with h1 | h1
  · exact h1
  · simp [World.cell?, Array.getElem?_eq_none h1] at h
theorem add_lit (g o n : Nat) : (⟨g, o, none⟩ : Addr).add n = ⟨g, o + n, none⟩ := by
  unfold Addr.add; split <;> simp_all
section
variable {H : Type} {enc : TypeId × Value → H} {W : World}
/-- A slice opened, whatever its elements are. -/
theorem open_gen {α : Type} [Inhabited α] {f : α → List Value} {Pw : α → Prop} {size : Nat} {t e : TypeId} (ht : Try.prog.underlying t = some (.slice e)) (hce : Try.prog.cellsOf e = size) (hsz : 0 < size) (hfl : ∀ a, (f a).length = size)
    (hel : ∀ {n : Nat} {cs : List Value} {y : DataW H × List MemPlace}, DataW.trod enc Try.prog W 0 (fun _ => true) true n e cs = some y → ∃ x, cs = f x ∧ Pw x)
    {fuel : Nat} {c2 : Value} {y : DataW H × List MemPlace} (hf : DataW.trod enc Try.prog W 0 (fun _ => true) true fuel t [c2] = some y) :
    ∃ (A : Option Addr) (l : List α) (c : Nat), c2 = .slice A l.length c ∧ l.length ≤ c ∧ c ≤ maxLen ∧ RowF size f W A l ∧ ∀ x ∈ l, Pw x := by
  subst hce
  rcases open_slice ht hf with ⟨hcs, _⟩ | ⟨a, n0, cap, m, n, D, Pl, hcs, _, hl, hm, hmm, _, hx⟩
  · injection hcs with hcs
    exact ⟨none, [], 0, hcs, by simp, by unfold maxLen; omega, RowF.nil_, by simp⟩
  · injection hcs with hcs
    simp only [if_true] at hmm
    obtain ⟨V, hV⟩ := choose_lt (α := α) (p := fun i x => ∃ cs', W.cells? 0 (a.add (i * Try.prog.cellsOf e)) (Try.prog.cellsOf e) = some cs' ∧ cs' = f x ∧ Pw x) (n := m) (fun i hi => by
      obtain ⟨cs', h1, h2⟩ := hx i hi
      obtain ⟨x, hx⟩ := hel h2
      exact ⟨x, cs', h1, hx⟩)
    have hlen : ((List.range n0).map V).length = n0 := by simp
    refine ⟨some a, (List.range n0).map V, cap, by rw [hlen]; exact hcs, by rw [hlen]; exact hl, hm, fun hp => ?_, ?_⟩
    · rw [hlen] at hp
      have hcell : ∀ i, i < n0 → ∀ j u, (f (V i))[j]? = some u → W.cell? ((a.add (i * Try.prog.cellsOf e)).add j) = some u := fun i hi j u hu => by
        obtain ⟨cs', hc, rfl, _⟩ := hV i (by omega)
        obtain ⟨_, hl', hat'⟩ := World.cells?_some hc
        have hj : j < (f (V i)).length := (List.getElem?_eq_some_iff.1 hu).1
        rw [hat' j (by rw [hfl] at hj; exact hj)]
        exact hu
      have h0 : ∃ u, (f (V 0))[0]? = some u := ⟨_, List.getElem?_eq_getElem (by rw [hfl]; exact hsz)⟩
      obtain ⟨u0, hu0⟩ := h0
      have hc0 := hcell 0 hp 0 u0 hu0
      have ea : (a.add (0 * Try.prog.cellsOf e)).add 0 = a := by simp [Addr.add]
      rw [ea] at hc0
      have hsp := spot_none hc0
      refine ⟨a.block, a.off, by rw [← hsp], blk_lt1 hc0, fun i hi j u hu => ?_⟩
      rw [hlen] at hi
      simp only [List.getElem_map, List.getElem_range] at hu
      have := hcell i hi j u hu
      rw [hsp, add_lit, add_lit] at this
      exact this
    · intro x hx
      obtain ⟨i, hi, rfl⟩ := List.mem_map.1 hx
      rw [List.mem_range] at hi
      obtain ⟨_, _, _, hp⟩ := hV i (by omega)
      exact hp

theorem el_int {n : Nat} {cs : List Value} {y : DataW H × List MemPlace} (h : DataW.trod enc Try.prog W 0 (fun _ => true) true n 3 cs = some y) : ∃ x, cs = numC x ∧ True := by
  obtain ⟨k, e, _, _⟩ := DataW.trod_int Try.underlying3 h
  exact ⟨k, e, trivial⟩
theorem el_bool {n : Nat} {cs : List Value} {y : DataW H × List MemPlace} (h : DataW.trod enc Try.prog W 0 (fun _ => true) true n 4 cs = some y) : ∃ x, cs = flagC x ∧ True := by
  obtain ⟨k, e, _⟩ := DataW.trod_bool Try.underlying4 h
  exact ⟨k, e, trivial⟩
theorem cells_cell : Try.prog.cellsOf 49 = 2 := by kernel_rfl
theorem cells_tag : Try.prog.cellsOf 51 = 4 := by kernel_rfl
theorem cells_int1 : Try.prog.cellsOf 3 = 1 := by kernel_rfl
theorem cells_bool1 : Try.prog.cellsOf 4 = 1 := by kernel_rfl
theorem cells_str1 : Try.prog.cellsOf 9 = 1 := by kernel_rfl
theorem cells_im : Try.prog.cellsOf 28 = 2 := by kernel_rfl
set_option maxRecDepth 100000 in
theorem el_cell {n : Nat} {cs : List Value} {y : DataW H × List MemPlace} (h : DataW.trod enc Try.prog W 0 (fun _ => true) true n 49 cs = some y) : ∃ x, cs = cellC x ∧ wide x.2 := by
  obtain ⟨ys, n', hn', hy, hlen, hyl, hf⟩ := DataW.trod_struct Try.underlying49 h
  rw [cells_cell] at hlen
  match cs, hlen with
  | [c0, c1], _ =>
    have g0 := hf 0 _ rfl
    have g1 := hf 1 _ rfl
    match ys, hyl with
    | [y0, y1], _ =>
      have ci := cells_int1
      have cb := cells_str1
      simp only [List.getElem?_cons_zero, List.getElem?_cons_succ] at g0 g1
      obtain ⟨s, e0, _⟩ := DataW.trod_string Try.underlying9 g0
      obtain ⟨k1, e1, _, w1⟩ := DataW.trod_int Try.underlying3 g1
      injection e0 with e0
      injection e1 with e1
      subst e0; subst e1
      simp only [Lit.wf, Bool.and_eq_true, decide_eq_true_eq] at w1
      exact ⟨(s, k1), rfl, w1⟩
set_option maxRecDepth 100000 in
theorem el_tag {n : Nat} {cs : List Value} {y : DataW H × List MemPlace} (h : DataW.trod enc Try.prog W 0 (fun _ => true) true n 51 cs = some y) : ∃ x, cs = tagC x ∧ x.fits := by
  obtain ⟨ys, n', hn', hy, hlen, hyl, hf⟩ := DataW.trod_struct Try.underlying51 h
  rw [cells_tag] at hlen
  match cs, hlen with
  | [c0, c1, c2, c3], _ =>
    have g0 := hf 0 _ rfl
    have g1 := hf 1 _ rfl
    have g2 := hf 2 _ rfl
    have g3 := hf 3 _ rfl
    match ys, hyl with
    | [y0, y1, y2, y3], _ =>
      have ci := cells_int1
      have cb := cells_str1
      have cc := cells_bool1
      simp only [List.getElem?_cons_zero, List.getElem?_cons_succ] at g0 g1 g2 g3
      obtain ⟨s, e0, _⟩ := DataW.trod_string Try.underlying9 g0
      obtain ⟨b, e1, _⟩ := DataW.trod_bool Try.underlying4 g1
      obtain ⟨k2, e2, _, w2⟩ := DataW.trod_int Try.underlying3 g2
      obtain ⟨k3, e3, _, w3⟩ := DataW.trod_int Try.underlying3 g3
      injection e0 with e0
      injection e1 with e1
      injection e2 with e2
      injection e3 with e3
      subst e0; subst e1; subst e2; subst e3
      simp only [Lit.wf, Bool.and_eq_true, decide_eq_true_eq] at w2 w3
      exact ⟨⟨s, b, k2, k3⟩, rfl, w2, w3⟩
instance : Inhabited Cl := ⟨(⟨#[]⟩, 0)⟩

variable {base0 : Nat} {r : Reach} {v : Value} {d : DataW H} {p : List MemPlace}
theorem open_tags (hv : Value.okWide Try.prog W r base0 22 v) (h : DataW.Trod enc Try.prog W 0 (fun _ => true) true 22 v d p) :
    ∃ (A : Option Addr) (l : List Tg) (c : Nat), v = .slice A l.length c ∧ l.length ≤ c ∧ c ≤ maxLen ∧ Tags W A l ∧ ∀ x ∈ l, x.fits := by
  obtain ⟨a0, n0, c0, rfl⟩ := okWide_slice Try.underlying22 hv
  obtain ⟨fuel, hf⟩ := h
  exact open_gen Try.underlying22 cells_tag (by omega) (fun _ => rfl) el_tag hf
theorem open_cells (hv : Value.okWide Try.prog W r base0 36 v) (h : DataW.Trod enc Try.prog W 0 (fun _ => true) true 36 v d p) :
    ∃ (A : Option Addr) (l : List Cl) (c : Nat), v = .slice A l.length c ∧ l.length ≤ c ∧ c ≤ maxLen ∧ Cells W A l ∧ ∀ x ∈ l, wide x.2 := by
  obtain ⟨a0, n0, c0, rfl⟩ := okWide_slice Try.underlying36 hv
  obtain ⟨fuel, hf⟩ := h
  exact open_gen Try.underlying36 cells_cell (by omega) (fun _ => rfl) el_cell hf
set_option maxRecDepth 100000 in
theorem open_im (hv : Value.okWide Try.prog W r base0 28 v) (h : DataW.Trod enc Try.prog W 0 (fun _ => true) true 28 v d p) :
    ∃ (im : Im) (A B : Option Addr) (c d : Nat), v = .agg #[.slice A im.v.length c, .slice B im.bad.length d] ∧ Nums W A im.v ∧ Flags W B im.bad := by
  obtain ⟨cs, rfl, hcs⟩ := okWide_struct Try.underlying28 hv
  rw [cells_im] at hcs
  obtain ⟨fuel, hf⟩ := h
  obtain ⟨ys, n', hn', hy, hlen, hyl, hff⟩ := DataW.trod_struct Try.underlying28 hf
  obtain ⟨l, rfl⟩ : ∃ l : List Value, cs = l.toArray := ⟨cs.toList, by simp⟩
  have hll : l.length = 2 := by simpa using hcs
  match l, hll with
  | [c0, c1], _ =>
    have g0 := hff 0 _ rfl
    have g1 := hff 1 _ rfl
    match ys, hyl with
    | [y0, y1], _ =>
      have ci : Try.prog.cellsOf 25 = 1 := by kernel_rfl
      have cb : Try.prog.cellsOf 26 = 1 := by kernel_rfl
      simp only [List.getElem?_cons_zero, List.getElem?_cons_succ] at g0 g1
      obtain ⟨A, l1, c, rfl, _, _, hA, _⟩ := open_gen Try.underlying25 cells_int1 (by omega) (fun _ => rfl) el_int g0
      obtain ⟨B, l2, d, rfl, _, _, hB, _⟩ := open_gen Try.underlying26 cells_bool1 (by omega) (fun _ => rfl) el_bool g1
      exact ⟨⟨l1, l2⟩, A, B, c, d, rfl, hA, hB⟩
set_option maxRecDepth 100000 in
theorem open_cell (hv : Value.okWide Try.prog W r base0 49 v) (h : DataW.Trod enc Try.prog W 0 (fun _ => true) true 49 v d p) :
    ∃ x : Cl, v = .agg #[.string x.1, .int .i64 x.2] := by
  obtain ⟨cs, rfl, hcs⟩ := okWide_struct Try.underlying49 hv
  obtain ⟨fuel, hf⟩ := h
  obtain ⟨x, hx, _⟩ := el_cell hf
  refine ⟨x, ?_⟩
  have e : cs = (cellC x).toArray := by
    have : cs.toList = cellC x := hx
    rw [← this]
  rw [e]
  rfl
end
end Go.Proofs.Ytppffmmngomijaa.Tg
