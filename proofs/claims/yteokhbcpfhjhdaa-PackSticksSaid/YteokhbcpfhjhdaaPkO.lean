/-
  The laws' arguments opened: bytes, and things (struct Item).
-/
import Derived.Test.YteokhbcpfhjhdaaPkB
import Derived.ProofKit
import Derived.OpenShut
import Derived.Deep.Slices
import Derived.Deep.Fields
import Derived.Carry
namespace Go.Proofs.Yteokhbcpfhjhdaa.Pk
open Go.ChangeShapes Go.WideShapes Go.ChangeAt Go.RowKit Go.Deep

theorem blk_lt {w : World} {a : Addr} {v : Value} (h : w.cell? a = some v) : a.block < w.heap.size := by
  rcases Nat.lt_or_ge a.block w.heap.size with h1 | h1
  · exact h1
  · simp [World.cell?, Array.getElem?_eq_none h1] at h

theorem cells_u8 : Try.prog.cellsOf 5 = 1 := by kernel_rfl
theorem cells_item : Try.prog.cellsOf 27 = 5 := by kernel_rfl
theorem one_item : oneCellFields Try.prog (Try.prog.fieldsOf 27) = true := by kernel_rfl

theorem i64_of_wf {n : Int} (h : (Lit.int .i64 n).wf = true) : i64 n := by
  simp only [Lit.wf, Bool.and_eq_true, decide_eq_true_eq] at h
  exact h

/-- A thing. -/
structure It where
  kind : Int
  n : Int
  b : Bool
  s : ByteArray
  most : Int
instance : Inhabited It := ⟨⟨0, 0, false, ⟨#[]⟩, 0⟩⟩
def It.Right (x : It) : Prop := i64 x.kind ∧ i64 x.n ∧ x.s.size ≤ maxLen ∧ i64 x.most
def ItAt (w : World) (ad : Addr) (i : Nat) (x : It) : Prop :=
  w.cell? (ad.add (i * 5)) = some (.int .i64 x.kind) ∧ w.cell? (ad.add (i * 5 + 1)) = some (.int .i64 x.n) ∧ w.cell? (ad.add (i * 5 + 2)) = some (.bool x.b) ∧ w.cell? (ad.add (i * 5 + 3)) = some (.string x.s) ∧ w.cell? (ad.add (i * 5 + 4)) = some (.int .i64 x.most)
theorem ItAt.cells {w : World} {ad : Addr} {i : Nat} {x : It} (h : ItAt w ad i x) :
    w.cell? (ad.add (i * 5)) = some (.int .i64 x.kind) ∧ w.cell? ⟨(ad.add (i * 5)).block, (ad.add (i * 5)).off + 1, none⟩ = some (.int .i64 x.n) ∧ w.cell? ⟨(ad.add (i * 5)).block, (ad.add (i * 5)).off + 2, none⟩ = some (.bool x.b) ∧
    w.cell? ⟨(ad.add (i * 5)).block, (ad.add (i * 5)).off + 3, none⟩ = some (.string x.s) ∧ w.cell? ⟨(ad.add (i * 5)).block, (ad.add (i * 5)).off + 4, none⟩ = some (.int .i64 x.most) := by
  have e : ∀ j, (⟨(ad.add (i * 5)).block, (ad.add (i * 5)).off + (j + 1), none⟩ : Addr) = ad.add (i * 5 + (j + 1)) := fun j => by rw [← add_add_, Addr.add_succ']
  exact ⟨h.1, by rw [e 0]; exact h.2.1, by rw [e 1]; exact h.2.2.1, by rw [e 2]; exact h.2.2.2.1, by rw [e 3]; exact h.2.2.2.2⟩
/-- A slice's address at which these things lie. -/
def Its (w : World) (A : Option Addr) (l : List It) : Prop :=
  (∀ x ∈ l, x.Right) ∧ (0 < l.length → ∃ ad, A = some ad ∧ ad.block < w.heap.size ∧ ∀ i (hi : i < l.length), ItAt w ad i l[i])
theorem Its.below {w w' : World} {A : Option Addr} {l : List It} (h : Its w A l) (hb : Below w.heap.size w w') : Its w' A l := by
  refine ⟨h.1, fun hl => ?_⟩
  obtain ⟨ad, e, hlt, hc⟩ := h.2 hl
  have hk : ∀ k, w'.cell? (ad.add k) = w.cell? (ad.add k) := fun k => hb.cell (p := ad.add k) (by rw [blk_add]; exact hlt)
  refine ⟨ad, e, Nat.lt_of_lt_of_le hlt hb.size, fun i hi => ?_⟩
  unfold ItAt
  simp only [hk]
  exact hc i hi
theorem Its.at_ {w : World} {A : Option Addr} {l : List It} (h : Its w A l) {i : Nat} (hi : i < l.length) : ∃ ad, A = some ad ∧ ad.block < w.heap.size ∧ ItAt w ad i l[i] ∧ l[i].Right := by
  obtain ⟨ad, e, hlt, hc⟩ := h.2 (by omega)
  exact ⟨ad, e, hlt, hc i hi, h.1 _ (List.getElem_mem hi)⟩

section
variable {H : Type} {enc : TypeId × Value → H} {W : World} {base0 : Nat} {r : Reach} {v : Value} {d : DataW H} {p : List MemPlace}

theorem open_bytes (hv : Value.okWide Try.prog W r base0 25 v) (h : DataW.Trod enc Try.prog W 0 (fun _ => true) true 25 v d p) :
    ∃ (A : Option Addr) (l : List UInt8) (c : Nat), v = .slice A l.length c ∧ l.length ≤ c ∧ c ≤ maxLen ∧ Lie W A l := by
  obtain ⟨a0, n0, c0, rfl⟩ := okWide_slice Try.underlying25 hv
  obtain ⟨fuel, hf⟩ := h
  rcases open_ints Try.underlying25 Try.underlying5 cells_u8 hf with ⟨hcs, _⟩ | ⟨a, len, cap, zs, hcs, _, hl, hm, hz, _, hcell, hwz⟩
  · simp [Value.cells] at hcs
    obtain ⟨rfl, rfl, rfl⟩ := hcs
    exact ⟨none, [], 0, rfl, by simp, by unfold maxLen; omega, Lie.nil_⟩
  · simp [Value.cells] at hcs
    obtain ⟨rfl, rfl, rfl⟩ := hcs
    simp only [if_true] at hz
    have hlen : ((zs.take n0).map fun n : Int => UInt8.ofNat n.toNat).length = n0 := by simp; omega
    refine ⟨some a, (zs.take n0).map fun n : Int => UInt8.ofNat n.toNat, c0, by rw [hlen], by rw [hlen]; exact hl, hm, fun hp => ?_⟩
    rw [hlen] at hp
    have h0 := hcell 0 (by omega)
    have hb := blk_lt h0
    rw [blk_add] at hb
    refine ⟨a, rfl, hb, fun j hj => ?_⟩
    rw [hlen] at hj
    rw [hcell j (by omega)]
    have hmem : zs.getD j 0 ∈ zs := by
      rw [List.getD_eq_getElem?_getD, List.getElem?_eq_getElem (by omega)]
      simp
    have hw := hwz _ hmem
    have hbd : 0 ≤ zs.getD j 0 ∧ zs.getD j 0 ≤ 255 := by
      simp only [Lit.wf, Bool.and_eq_true, decide_eq_true_eq] at hw
      exact hw
    have e : ((zs.take n0).map fun n : Int => UInt8.ofNat n.toNat)[j]'(by rw [hlen]; exact hj) = UInt8.ofNat (zs.getD j 0).toNat := by
      simp [List.getD_eq_getElem?_getD, List.getElem?_eq_getElem (show j < zs.length by omega)]
    rw [e, ofNat_toNat (by omega)]
    congr 2
    omega

theorem open_item {a : Addr} {i n : Nat} {cs : List Value} {y : DataW H × List MemPlace} (hcs : W.cells? 0 (a.add (i * 5)) 5 = some cs) (h : DataW.trod enc Try.prog W 0 (fun _ => true) true n 27 cs = some y) :
    ∃ x : It, ItAt W a i x ∧ x.Right := by
  obtain ⟨ys, n', hn', hy, hlen, hyl, hf⟩ := DataW.trod_struct Try.underlying27 h
  obtain ⟨_, hcl, hat⟩ := World.cells?_some hcs
  match cs, hcl with
  | [c0, c1, c2, c3, c4], _ =>
    have g0 := hf 0 _ rfl
    have g1 := hf 1 _ rfl
    have g2 := hf 2 _ rfl
    have g3 := hf 3 _ rfl
    have g4 := hf 4 _ rfl
    match ys, hyl with
    | [y0, y1, y2, y3, y4], _ =>
      have ci : Try.prog.cellsOf 3 = 1 := by kernel_rfl
      have cb : Try.prog.cellsOf 4 = 1 := by kernel_rfl
      have cst : Try.prog.cellsOf 9 = 1 := by kernel_rfl
      simp only [List.getElem?_cons_zero, List.getElem?_cons_succ] at g0 g1 g2 g3 g4
      obtain ⟨k0, e0, _, w0⟩ := DataW.trod_int Try.underlying3 g0
      obtain ⟨k1, e1, _, w1⟩ := DataW.trod_int Try.underlying3 g1
      obtain ⟨k2, e2, _⟩ := DataW.trod_bool Try.underlying4 g2
      obtain ⟨k3, e3, _, w3⟩ := DataW.trod_string Try.underlying9 g3
      obtain ⟨k4, e4, _, w4⟩ := DataW.trod_int Try.underlying3 g4
      injection e0 with e0
      injection e1 with e1
      injection e2 with e2
      injection e3 with e3
      injection e4 with e4
      subst e0; subst e1; subst e2; subst e3; subst e4
      refine ⟨⟨k0, k1, k2, k3, k4⟩, ⟨?_, ?_, ?_, ?_, ?_⟩, i64_of_wf w0, i64_of_wf w1, w3, i64_of_wf w4⟩
      · have := hat 0 (by omega); rw [add_add_] at this; simpa using this
      · have := hat 1 (by omega); rw [add_add_] at this; simpa using this
      · have := hat 2 (by omega); rw [add_add_] at this; simpa using this
      · have := hat 3 (by omega); rw [add_add_] at this; simpa using this
      · have := hat 4 (by omega); rw [add_add_] at this; simpa using this

theorem open_items (hv : Value.okWide Try.prog W r base0 22 v) (h : DataW.Trod enc Try.prog W 0 (fun _ => true) true 22 v d p) :
    ∃ (A : Option Addr) (l : List It) (c : Nat), v = .slice A l.length c ∧ l.length ≤ c ∧ c ≤ maxLen ∧ Its W A l := by
  obtain ⟨a0, n0, c0, rfl⟩ := okWide_slice Try.underlying22 hv
  obtain ⟨fuel, hf⟩ := h
  rcases open_slice Try.underlying22 hf with ⟨hcs, _⟩ | ⟨a, len, cap, m, n, D, Pl, hcs, _, hl, hm, hmm, _, hx⟩
  · simp [Value.cells] at hcs
    obtain ⟨rfl, rfl, rfl⟩ := hcs
    exact ⟨none, [], 0, rfl, by simp, by unfold maxLen; omega, by simp, fun h => absurd h (by simp)⟩
  · simp [Value.cells] at hcs
    obtain ⟨rfl, rfl, rfl⟩ := hcs
    simp only [if_true] at hmm
    rw [cells_item] at hx
    obtain ⟨V, hV⟩ := choose_lt (α := It) (p := fun i x => ItAt W a i x ∧ x.Right) (n := m) (fun i hi => by
      obtain ⟨cs', h1, h2⟩ := hx i hi
      exact open_item h1 h2)
    have hlen : ((List.range n0).map V).length = n0 := by simp
    refine ⟨some a, (List.range n0).map V, c0, by rw [hlen], by rw [hlen]; exact hl, hm, ?_, fun hp => ?_⟩
    · intro x hx
      simp only [List.mem_map, List.mem_range] at hx
      obtain ⟨i, hi, rfl⟩ := hx
      exact (hV i (by omega)).2
    · rw [hlen] at hp
      have hb := blk_lt (hV 0 (by omega)).1.1
      rw [blk_add] at hb
      refine ⟨a, rfl, hb, fun i hi => ?_⟩
      rw [hlen] at hi
      simp only [List.getElem_map, List.getElem_range]
      exact (hV i (by omega)).1
end
end Go.Proofs.Yteokhbcpfhjhdaa.Pk
