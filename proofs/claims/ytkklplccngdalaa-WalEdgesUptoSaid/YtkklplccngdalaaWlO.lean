/-
  The laws' arguments opened: numbers, groups.
-/
import Derived.Test.YtkklplccngdalaaWlL1
import Derived.ProofKit
import Derived.OpenShut
import Derived.Deep.Slices
import Derived.Deep.Fields
import Derived.Carry
namespace Go.Proofs.Ytkklplccngdalaa.Dk
open Go.ChangeShapes Go.WideShapes Go.ChangeAt Go.RowKit Go.Deep

theorem blk_lt {w : World} {a : Addr} {v : Value} (h : w.cell? a = some v) : a.block < w.heap.size := by
  rcases Nat.lt_or_ge a.block w.heap.size with h1 | h1
  · exact h1
  · simp [World.cell?, Array.getElem?_eq_none h1] at h
theorem cells_u8 : Try.prog.cellsOf 5 = 1 := by kernel_rfl
theorem cells_int : Try.prog.cellsOf 3 = 1 := by kernel_rfl
theorem cells_wr : Try.prog.cellsOf 63 = 2 := by kernel_rfl
theorem cells_gp : Try.prog.cellsOf 37 = 3 := by kernel_rfl
theorem i64_of_wf {n : Int} (h : (Lit.int .i64 n).wf = true) : i64 n := by
  simp only [Lit.wf, Bool.and_eq_true, decide_eq_true_eq] at h
  exact h
theorem u8_of_wf {n : Int} (h : (Lit.int .u8 n).wf = true) : ∃ x : UInt8, n = (x.toNat : Int) := by
  simp only [Lit.wf, Bool.and_eq_true, decide_eq_true_eq] at h
  have h' : 0 ≤ n ∧ n ≤ 255 := h
  refine ⟨UInt8.ofNat n.toNat, ?_⟩
  rw [ofNat_toNat (by omega)]
  omega

/-- A group as it is told: numbers, a byte, odd writes. -/
structure Gp where
  ats : List Int
  x : UInt8
  odd : List GI
instance : Inhabited Gp := ⟨⟨[], 0, []⟩⟩
def Gp.made (p : Gp) : List GI := madeG p.ats p.x p.odd
/-- Its three values, all of it in blocks below B. -/
def GpVal (B : Nat) (w : World) (v0 v1 v2 : Value) (p : Gp) : Prop :=
  ∃ A1 c1 A2 c2, v0 = .slice A1 p.ats.length c1 ∧ v1 = .int .u8 (p.x.toNat : Int) ∧ v2 = .slice A2 p.odd.length c2 ∧ p.ats.length ≤ c1 ∧ c1 ≤ maxLen ∧ p.odd.length ≤ c2 ∧ c2 ≤ maxLen ∧ Nums w A1 p.ats ∧ (∀ ad, A1 = some ad → 0 < p.ats.length → ad.block < B) ∧ Grp (fun b => B ≤ b) w A2 p.odd
def GpAt (B : Nat) (w : World) (ad : Addr) (i : Nat) (p : Gp) : Prop :=
  ∃ v0 v1 v2, w.cell? (ad.add (i * 3)) = some v0 ∧ w.cell? (ad.add (i * 3 + 1)) = some v1 ∧ w.cell? (ad.add (i * 3 + 2)) = some v2 ∧ GpVal B w v0 v1 v2 p
def Gps (B : Nat) (w : World) (A : Option Addr) (l : List Gp) : Prop :=
  0 < l.length → ∃ ad, A = some ad ∧ ad.block < B ∧ ∀ i (hi : i < l.length), GpAt B w ad i l[i]
theorem fr_below {B : Nat} {w w' : World} (h : Below B w w') : Fr (fun b => B ≤ b) w w' := ⟨h.os, h.tape, h.output, h.size, fun i _ hs => h.block i (by omega)⟩
theorem GpVal.below {B : Nat} {w w' : World} {v0 v1 v2 : Value} {p : Gp} (h : GpVal B w v0 v1 v2 p) (hb : Below B w w') : GpVal B w' v0 v1 v2 p := by
  obtain ⟨A1, c1, A2, c2, r1, r2, r3, r4, r5, r6, r7, r8, r9, ra⟩ := h
  exact ⟨A1, c1, A2, c2, r1, r2, r3, r4, r5, r6, r7, r8.below hb r9, r9, ra.fr (fr_below hb)⟩
theorem Gps.below {B : Nat} {w w' : World} {A : Option Addr} {l : List Gp} (h : Gps B w A l) (hb : Below B w w') : Gps B w' A l := fun hl => by
  obtain ⟨ad, e, h1, h2⟩ := h hl
  have hc : ∀ j, w'.cell? (ad.add j) = w.cell? (ad.add j) := fun j => hb.cell (p := ad.add j) (by rw [blk_add]; exact h1)
  refine ⟨ad, e, h1, fun i hi => ?_⟩
  obtain ⟨v0, v1, v2, g0, g1, g2, g3⟩ := h2 i hi
  exact ⟨v0, v1, v2, by rw [hc]; exact g0, by rw [hc]; exact g1, by rw [hc]; exact g2, g3.below hb⟩
theorem Gps.at_ {B : Nat} {w : World} {A : Option Addr} {l : List Gp} (h : Gps B w A l) {i : Nat} (hi : i < l.length) : ∃ ad v0 v1 v2, A = some ad ∧ w.cell? (ad.add (i * 3)) = some v0 ∧ w.cell? ⟨(ad.add (i * 3)).block, (ad.add (i * 3)).off + 1, none⟩ = some v1 ∧ w.cell? ⟨(ad.add (i * 3)).block, (ad.add (i * 3)).off + 2, none⟩ = some v2 ∧ GpVal B w v0 v1 v2 l[i] := by
  obtain ⟨ad, e, _, h2⟩ := h (by omega)
  obtain ⟨v0, v1, v2, g0, g1, g2, g3⟩ := h2 i hi
  have e2 : ∀ j, (⟨(ad.add (i * 3)).block, (ad.add (i * 3)).off + (j + 1), none⟩ : Addr) = ad.add (i * 3 + (j + 1)) := fun j => by rw [← add_add_, Addr.add_succ']
  exact ⟨ad, v0, v1, v2, e, g0, by rw [e2 0]; exact g1, by rw [e2 1]; exact g2, g3⟩

section
variable {H : Type} {enc : TypeId × Value → H} {W : World} {base0 : Nat} {r : Reach} {v : Value} {d : DataW H} {p : List MemPlace}

theorem open_nums_at {fuel : Nat} {c0 : Value} {y : DataW H × List MemPlace} (hf : DataW.trod enc Try.prog W 0 (fun _ => true) true fuel 26 [c0] = some y) :
    ∃ (A : Option Addr) (l : List Int) (c : Nat), c0 = .slice A l.length c ∧ l.length ≤ c ∧ c ≤ maxLen ∧ Nums W A l := by
  rcases open_ints Try.underlying26 Try.underlying3 cells_int hf with ⟨hcs, _⟩ | ⟨a, n0, c1, zs, hcs, _, hl, hm, hz, _, hcell, hwz⟩
  · injection hcs with hcs
    exact ⟨none, [], 0, hcs, by simp, by unfold maxLen; omega, by simp, fun h => absurd h (by simp)⟩
  · injection hcs with hcs
    simp only [if_true] at hz
    have hlen : (zs.take n0).length = n0 := by simp; omega
    refine ⟨some a, zs.take n0, c1, by rw [hlen]; exact hcs, by rw [hlen]; exact hl, hm, fun x hx => i64_of_wf (hwz x (List.mem_of_mem_take hx)), fun hp => ?_⟩
    rw [hlen] at hp
    have hb := blk_lt (hcell 0 (by omega))
    rw [blk_add] at hb
    refine ⟨a, rfl, hb, fun j hj => ?_⟩
    rw [hlen] at hj
    rw [hcell j (by omega)]
    simp [List.getD_eq_getElem?_getD, List.getElem?_eq_getElem (show j < zs.length by omega)]
theorem open_bytes_at {fuel : Nat} {c2 : Value} {y : DataW H × List MemPlace} (hf : DataW.trod enc Try.prog W 0 (fun _ => true) true fuel 43 [c2] = some y) :
    ∃ (A : Option Addr) (l : List UInt8) (c : Nat), c2 = .slice A l.length c ∧ l.length ≤ c ∧ c ≤ maxLen ∧ Lie W A l := by
  rcases open_ints Try.underlying43 Try.underlying5 cells_u8 hf with ⟨hcs, _⟩ | ⟨a, n0, c0, zs, hcs, _, hl, hm, hz, _, hcell, hwz⟩
  · injection hcs with hcs
    exact ⟨none, [], 0, hcs, by simp, by unfold maxLen; omega, Lie.nil_⟩
  · injection hcs with hcs
    simp only [if_true] at hz
    have hlen : ((zs.take n0).map fun n : Int => UInt8.ofNat n.toNat).length = n0 := by simp; omega
    refine ⟨some a, (zs.take n0).map fun n : Int => UInt8.ofNat n.toNat, c0, by rw [hlen]; exact hcs, by rw [hlen]; exact hl, hm, fun hp => ?_⟩
    rw [hlen] at hp
    have h0 := hcell 0 (by omega)
    have hb := blk_lt h0
    rw [blk_add] at hb
    refine ⟨a, rfl, hb, fun j hj => ?_⟩
    rw [hlen] at hj
    rw [hcell j (by omega)]
    have hmem : zs.getD j 0 ∈ zs := by
      rw [List.getD_eq_getElem?_getD, List.getElem?_eq_getElem (by omega)]
      simp
    obtain ⟨x, hx⟩ := u8_of_wf (hwz _ hmem)
    have e : ((zs.take n0).map fun n : Int => UInt8.ofNat n.toNat)[j]'(by rw [hlen]; exact hj) = UInt8.ofNat (zs.getD j 0).toNat := by
      simp [List.getD_eq_getElem?_getD, List.getElem?_eq_getElem (show j < zs.length by omega)]
    rw [e, hx]
    simp
theorem lie_none {A : Option Addr} {l : List UInt8} (h : Lie W A l) : LieX (fun b => W.heap.size ≤ b) W A l := fun hl => by
  obtain ⟨ad, e, h1, h2⟩ := h hl
  exact ⟨ad, e, h1, by omega, h2⟩

theorem open_wr {a : Addr} {i n : Nat} {cs : List Value} {y : DataW H × List MemPlace} (hcs : W.cells? 0 (a.add (i * 2)) 2 = some cs) (h : DataW.trod enc Try.prog W 0 (fun _ => true) true n 63 cs = some y) :
    ∃ x : GI, GrpAt (fun b => W.heap.size ≤ b) W a i x := by
  obtain ⟨ys, n', hn', hy, hlen, hyl, hf⟩ := DataW.trod_struct Try.underlying63 h
  obtain ⟨_, hcl, hat⟩ := World.cells?_some hcs
  match cs, hcl with
  | [c0, c1], _ =>
    have g0 := hf 0 _ rfl
    have g1 := hf 1 _ rfl
    match ys, hyl with
    | [y0, y1], _ =>
      have ci := cells_int
      have cb : Try.prog.cellsOf 43 = 1 := by kernel_rfl
      simp only [List.getElem?_cons_zero, List.getElem?_cons_succ] at g0 g1
      obtain ⟨k0, e0, _, w0⟩ := DataW.trod_int Try.underlying3 g0
      injection e0 with e0
      subst e0
      obtain ⟨A, l, c, rfl, h1, h2, h3⟩ := open_bytes_at g1
      refine ⟨(k0, l), A, c, ?_, ?_, h1, h2, lie_none h3, i64_of_wf w0⟩
      · have := hat 0 (by omega); rw [add_add_] at this; simpa using this
      · have := hat 1 (by omega); rw [add_add_] at this; simpa using this
theorem open_grp_at {fuel : Nat} {c2 : Value} {y : DataW H × List MemPlace} (hf : DataW.trod enc Try.prog W 0 (fun _ => true) true fuel 34 [c2] = some y) :
    ∃ (A : Option Addr) (l : List GI) (c : Nat), c2 = .slice A l.length c ∧ l.length ≤ c ∧ c ≤ maxLen ∧ Grp (fun b => W.heap.size ≤ b) W A l := by
  rcases open_slice Try.underlying34 hf with ⟨hcs, _⟩ | ⟨a, len, cap, m, n, D, Pl, hcs, _, hl, hm, hmm, _, hx⟩
  · injection hcs with hcs
    exact ⟨none, [], 0, hcs, by simp, by unfold maxLen; omega, Grp.nil_⟩
  · injection hcs with hcs
    simp only [if_true] at hmm
    rw [cells_wr] at hx
    obtain ⟨V, hV⟩ := choose_lt (α := GI) (p := fun i x => GrpAt (fun b => W.heap.size ≤ b) W a i x) (n := m) (fun i hi => by
      obtain ⟨cs', h1, h2⟩ := hx i hi
      exact open_wr h1 h2)
    have hlen : ((List.range len).map V).length = len := by simp
    refine ⟨some a, (List.range len).map V, cap, by rw [hlen]; exact hcs, by rw [hlen]; exact hl, hm, fun hp => ?_⟩
    rw [hlen] at hp
    have hb : a.block < W.heap.size := by
      obtain ⟨_, _, g0, _⟩ := hV 0 (by omega)
      have := blk_lt g0
      rwa [blk_add] at this
    refine ⟨a, rfl, hb, by omega, fun i hi => ?_⟩
    rw [hlen] at hi
    simp only [List.getElem_map, List.getElem_range]
    exact hV i (by omega)
theorem open_gp_cells {n : Nat} {cs : List Value} {y : DataW H × List MemPlace} (hcl : cs.length = 3) (h : DataW.trod enc Try.prog W 0 (fun _ => true) true n 37 cs = some y) :
    ∃ v0 v1 v2, cs = [v0, v1, v2] ∧ ∃ q : Gp, GpVal W.heap.size W v0 v1 v2 q := by
  obtain ⟨ys, n', hn', hy, hlen, hyl, hf⟩ := DataW.trod_struct Try.underlying37 h
  match cs, hcl with
  | [c0, c1, c2], _ =>
    have g0 := hf 0 _ rfl
    have g1 := hf 1 _ rfl
    have g2 := hf 2 _ rfl
    match ys, hyl with
    | [y0, y1, y2], _ =>
      have ci : Try.prog.cellsOf 26 = 1 := by kernel_rfl
      have cu := cells_u8
      have cb : Try.prog.cellsOf 34 = 1 := by kernel_rfl
      simp only [List.getElem?_cons_zero, List.getElem?_cons_succ] at g0 g1 g2
      obtain ⟨A1, l1, k1, rfl, a1, a2, a3⟩ := open_nums_at g0
      obtain ⟨z, e1, _, w1⟩ := DataW.trod_int Try.underlying5 g1
      injection e1 with e1
      subst e1
      obtain ⟨x, rfl⟩ := u8_of_wf w1
      obtain ⟨A2, l2, k2, rfl, b1, b2, b3⟩ := open_grp_at g2
      refine ⟨_, _, _, rfl, ⟨l1, x, l2⟩, A1, k1, A2, k2, rfl, rfl, rfl, a1, a2, b1, b2, a3, fun ad e hl => ?_, b3⟩
      obtain ⟨ad', e', hlt, _⟩ := a3.2 hl
      rw [e] at e'
      injection e' with e'
      rw [e']
      exact hlt
theorem open_gp {a : Addr} {i n : Nat} {cs : List Value} {y : DataW H × List MemPlace} (hcs : W.cells? 0 (a.add (i * 3)) 3 = some cs) (h : DataW.trod enc Try.prog W 0 (fun _ => true) true n 37 cs = some y) :
    ∃ q : Gp, GpAt W.heap.size W a i q := by
  obtain ⟨_, hcl, hat⟩ := World.cells?_some hcs
  obtain ⟨v0, v1, v2, rfl, q, hq⟩ := open_gp_cells hcl h
  refine ⟨q, v0, v1, v2, ?_, ?_, ?_, hq⟩
  · have := hat 0 (by omega); rw [add_add_] at this; simpa using this
  · have := hat 1 (by omega); rw [add_add_] at this; simpa using this
  · have := hat 2 (by omega); rw [add_add_] at this; simpa using this
theorem open_gs (hv : Value.okWide Try.prog W r base0 25 v) (h : DataW.Trod enc Try.prog W 0 (fun _ => true) true 25 v d p) :
    ∃ (A : Option Addr) (l : List Gp) (c : Nat), v = .slice A l.length c ∧ l.length ≤ c ∧ c ≤ maxLen ∧ Gps W.heap.size W A l := by
  obtain ⟨a0, n0, c0, rfl⟩ := okWide_slice Try.underlying25 hv
  obtain ⟨fuel, hf⟩ := h
  rcases open_slice Try.underlying25 hf with ⟨hcs, _⟩ | ⟨a, len, cap, m, n, D, Pl, hcs, _, hl, hm, hmm, _, hx⟩
  · simp [Value.cells] at hcs
    obtain ⟨rfl, rfl, rfl⟩ := hcs
    exact ⟨none, [], 0, rfl, by simp, by unfold maxLen; omega, fun h => absurd h (by simp)⟩
  · simp [Value.cells] at hcs
    obtain ⟨rfl, rfl, rfl⟩ := hcs
    simp only [if_true] at hmm
    rw [cells_gp] at hx
    obtain ⟨V, hV⟩ := choose_lt (α := Gp) (p := fun i x => GpAt W.heap.size W a i x) (n := m) (fun i hi => by
      obtain ⟨cs', h1, h2⟩ := hx i hi
      exact open_gp h1 h2)
    have hlen : ((List.range n0).map V).length = n0 := by simp
    refine ⟨some a, (List.range n0).map V, c0, by rw [hlen], by rw [hlen]; exact hl, hm, fun hp => ?_⟩
    rw [hlen] at hp
    have hb : a.block < W.heap.size := by
      obtain ⟨_, _, _, g0, _⟩ := hV 0 (by omega)
      have := blk_lt g0
      rwa [blk_add] at this
    refine ⟨a, rfl, hb, fun i hi => ?_⟩
    rw [hlen] at hi
    simp only [List.getElem_map, List.getElem_range]
    exact hV i (by omega)
theorem open_ns (hv : Value.okWide Try.prog W r base0 26 v) (h : DataW.Trod enc Try.prog W 0 (fun _ => true) true 26 v d p) :
    ∃ (A : Option Addr) (l : List Int) (c : Nat), v = .slice A l.length c ∧ l.length ≤ c ∧ c ≤ maxLen ∧ Nums W A l := by
  obtain ⟨a0, n0, c0, rfl⟩ := okWide_slice Try.underlying26 hv
  obtain ⟨fuel, hf⟩ := h
  exact open_nums_at hf
end
end Go.Proofs.Ytkklplccngdalaa.Dk
