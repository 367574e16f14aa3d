/-
  The laws' arguments opened: records, bytes, a text.
-/
import Derived.Test.YthgoapcafjijfaaPgB
import Derived.ProofKit
import Derived.OpenShut
import Derived.Deep.Slices
import Derived.Deep.Fields
import Derived.Carry
import Derived.ChangeMaps5
namespace Go.Proofs.Ythgoapcafjijfaa.Pg
open Go.ChangeShapes Go.WideShapes Go.ChangeAt Go.RowKit Go.Deep

theorem blk_lt {w : World} {a : Addr} {v : Value} (h : w.cell? a = some v) : a.block < w.heap.size := by
  rcases Nat.lt_or_ge a.block w.heap.size with h1 | h1
  · exact h1
  · simp [World.cell?, Array.getElem?_eq_none h1] at h
theorem cells_u8 : Try.prog.cellsOf 5 = 1 := by kernel_rfl
theorem cells_pair : Try.prog.cellsOf 37 = 2 := by kernel_rfl
theorem u8_of_wf {n : Int} (h : (Lit.int .u8 n).wf = true) : ∃ x : UInt8, n = (x.toNat : Int) := by
  simp only [Lit.wf, Bool.and_eq_true, decide_eq_true_eq] at h
  have h' : 0 ≤ n ∧ n ≤ 255 := h
  refine ⟨UInt8.ofNat n.toNat, ?_⟩
  rw [UInt8.toNat_ofNat']
  omega
section
variable {H : Type} {enc : TypeId × Value → H} {W : World} {base0 : Nat} {r : Reach} {v : Value} {d : DataW H} {p : List MemPlace}
theorem open_bytes_at {fuel : Nat} {c2 : Value} {y : DataW H × List MemPlace} (hf : DataW.trod enc Try.prog W 0 (fun _ => true) true fuel 25 [c2] = some y) :
    ∃ (A : Option Addr) (l : List UInt8) (c : Nat), c2 = .slice A l.length c ∧ l.length ≤ c ∧ c ≤ maxLen ∧ Lie W A l := by
  rcases open_ints Try.underlying25 Try.underlying5 cells_u8 hf with ⟨hcs, _⟩ | ⟨a, n0, c0, zs, hcs, _, hl, hm, hz, _, hcell, hwz⟩
  · injection hcs with hcs
    exact ⟨none, [], 0, hcs, by simp, by unfold maxLen; omega, Lie.nil_⟩
  · injection hcs with hcs
    simp only [if_true] at hz
    have hlen : ((zs.take n0).map fun n : Int => UInt8.ofNat n.toNat).length = n0 := by simp; omega
    refine ⟨some a, (zs.take n0).map fun n : Int => UInt8.ofNat n.toNat, c0, by rw [hlen]; exact hcs, by rw [hlen]; exact hl, hm, fun hp => ?_⟩
    rw [hlen] at hp
    have h0 := hcell 0 (by omega)
    have hb := blk_lt h0
    rw [blk_add] at hb
    refine ⟨a, rfl, hb, fun j hj => ?_⟩
    rw [hlen] at hj
    rw [hcell j (by omega)]
    have hmem : zs.getD j 0 ∈ zs := by
      rw [List.getD_eq_getElem?_getD, List.getElem?_eq_getElem (by omega)]
      simp
    obtain ⟨x, hx⟩ := u8_of_wf (hwz _ hmem)
    have e : ((zs.take n0).map fun n : Int => UInt8.ofNat n.toNat)[j]'(by rw [hlen]; exact hj) = UInt8.ofNat (zs.getD j 0).toNat := by
      simp [List.getD_eq_getElem?_getD, List.getElem?_eq_getElem (show j < zs.length by omega)]
    rw [e, hx]
    simp
theorem lie_none {A : Option Addr} {l : List UInt8} (h : Lie W A l) : LieX (fun b => W.heap.size ≤ b) W A l := fun hl => by
  obtain ⟨ad, e, h1, h2⟩ := h hl
  exact ⟨ad, e, h1, by omega, h2⟩
theorem open_bytes (hv : Value.okWide Try.prog W r base0 25 v) (h : DataW.Trod enc Try.prog W 0 (fun _ => true) true 25 v d p) :
    ∃ (A : Option Addr) (l : List UInt8) (c : Nat), v = .slice A l.length c ∧ l.length ≤ c ∧ c ≤ maxLen ∧ Lie W A l := by
  obtain ⟨a0, n0, c0, rfl⟩ := okWide_slice Try.underlying25 hv
  obtain ⟨fuel, hf⟩ := h
  exact open_bytes_at hf
theorem open_pair {a : Addr} {i n : Nat} {cs : List Value} {y : DataW H × List MemPlace} (hcs : W.cells? 0 (a.add (i * 2)) 2 = some cs) (h : DataW.trod enc Try.prog W 0 (fun _ => true) true n 37 cs = some y) :
    ∃ x : Rec, RecAt (fun b => W.heap.size ≤ b) W a i x := by
  obtain ⟨ys, n', hn', hy, hlen, hyl, hf⟩ := DataW.trod_struct Try.underlying37 h
  obtain ⟨_, hcl, hat⟩ := World.cells?_some hcs
  match cs, hcl with
  | [c0, c1], _ =>
    have g0 := hf 0 _ rfl
    have g1 := hf 1 _ rfl
    match ys, hyl with
    | [y0, y1], _ =>
      have ci : Try.prog.cellsOf 9 = 1 := by kernel_rfl
      have cb : Try.prog.cellsOf 25 = 1 := by kernel_rfl
      simp only [List.getElem?_cons_zero, List.getElem?_cons_succ] at g0 g1
      obtain ⟨k0, e0, _, w0⟩ := DataW.trod_string Try.underlying9 g0
      injection e0 with e0
      subst e0
      obtain ⟨A, l, c, rfl, h1, h2, h3⟩ := open_bytes_at g1
      refine ⟨(k0, l), _, _, ?_, ?_, A, c, rfl, rfl, h1, h2, lie_none h3, w0⟩
      · have := hat 0 (by omega); rw [add_add_] at this; simpa using this
      · have := hat 1 (by omega); rw [add_add_] at this; simpa using this
theorem open_recs (hv : Value.okWide Try.prog W r base0 22 v) (h : DataW.Trod enc Try.prog W 0 (fun _ => true) true 22 v d p) :
    ∃ (A : Option Addr) (l : List Rec) (c : Nat), v = .slice A l.length c ∧ l.length ≤ c ∧ c ≤ maxLen ∧ Recs (fun b => W.heap.size ≤ b) W A l := by
  obtain ⟨a0, n0, c0, rfl⟩ := okWide_slice Try.underlying22 hv
  obtain ⟨fuel, hf⟩ := h
  rcases open_slice Try.underlying22 hf with ⟨hcs, _⟩ | ⟨a, len, cap, m, n, D, Pl, hcs, _, hl, hm, hmm, _, hx⟩
  · simp [Value.cells] at hcs
    obtain ⟨rfl, rfl, rfl⟩ := hcs
    exact ⟨none, [], 0, rfl, by simp, by unfold maxLen; omega, Recs.nil_⟩
  · simp [Value.cells] at hcs
    obtain ⟨rfl, rfl, rfl⟩ := hcs
    simp only [if_true] at hmm
    rw [cells_pair] at hx
    obtain ⟨V, hV⟩ := choose_lt (α := Rec) (p := fun i x => RecAt (fun b => W.heap.size ≤ b) W a i x) (n := m) (fun i hi => by
      obtain ⟨cs', h1, h2⟩ := hx i hi
      exact open_pair h1 h2)
    have hlen : ((List.range n0).map V).length = n0 := by simp
    refine ⟨some a, (List.range n0).map V, c0, by rw [hlen], by rw [hlen]; exact hl, hm, fun hp => ?_⟩
    rw [hlen] at hp
    have hb : a.block < W.heap.size := by
      obtain ⟨_, _, g0, _⟩ := hV 0 (by omega)
      have := blk_lt g0
      rwa [blk_add] at this
    refine ⟨a, rfl, hb, by omega, fun i hi => ?_⟩
    rw [hlen] at hi
    simp only [List.getElem_map, List.getElem_range]
    exact hV i (by omega)
end
end Go.Proofs.Ythgoapcafjijfaa.Pg
