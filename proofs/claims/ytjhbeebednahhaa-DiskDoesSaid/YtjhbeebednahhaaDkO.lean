/-
  The laws' arguments opened: numbers, and calls (struct Op, with bytes in it).
-/
import Derived.Test.YtjhbeebednahhaaDkB
import Derived.ProofKit
import Derived.OpenShut
import Derived.Deep.Slices
import Derived.Deep.Fields
import Derived.Carry
namespace Go.Proofs.Ytjhbeebednahhaa.Dk
open Go.ChangeShapes Go.WideShapes Go.ChangeAt Go.RowKit Go.Deep

theorem blk_lt {w : World} {a : Addr} {v : Value} (h : w.cell? a = some v) : a.block < w.heap.size := by
  rcases Nat.lt_or_ge a.block w.heap.size with h1 | h1
  · exact h1
  · simp [World.cell?, Array.getElem?_eq_none h1] at h

theorem cells_u8 : Try.prog.cellsOf 5 = 1 := by kernel_rfl
theorem cells_int : Try.prog.cellsOf 3 = 1 := by kernel_rfl
theorem cells_op : Try.prog.cellsOf 33 = 3 := by kernel_rfl

theorem i64_of_wf {n : Int} (h : (Lit.int .i64 n).wf = true) : i64 n := by
  simp only [Lit.wf, Bool.and_eq_true, decide_eq_true_eq] at h
  exact h
theorem u8_of_wf {n : Int} (h : (Lit.int .u8 n).wf = true) : ∃ x : UInt8, n = (x.toNat : Int) := by
  simp only [Lit.wf, Bool.and_eq_true, decide_eq_true_eq] at h
  have h' : 0 ≤ n ∧ n ≤ 255 := h
  refine ⟨UInt8.ofNat n.toNat, ?_⟩
  rw [ofNat_toNat (by omega)]
  omega

/-- A slice's address at which these numbers lie. -/
def Nums (w : World) (A : Option Addr) (l : List Int) : Prop :=
  (∀ x ∈ l, i64 x) ∧ (0 < l.length → ∃ ad, A = some ad ∧ ad.block < w.heap.size ∧ ∀ j (hj : j < l.length), w.cell? (ad.add j) = some (.int .i64 l[j]))
theorem Nums.below {w w' : World} {A : Option Addr} {l : List Int} (h : Nums w A l) (hb : Below w.heap.size w w') : Nums w' A l := by
  refine ⟨h.1, fun hl => ?_⟩
  obtain ⟨ad, e, hlt, hc⟩ := h.2 hl
  exact ⟨ad, e, Nat.lt_of_lt_of_le hlt hb.size, fun j hj => (hb.cell (p := ad.add j) (by rw [blk_add]; exact hlt)).trans (hc j hj)⟩
theorem Nums.at_ {w : World} {A : Option Addr} {l : List Int} (h : Nums w A l) {k : Nat} (hk : k < l.length) : ∃ ad, A = some ad ∧ ad.block < w.heap.size ∧ w.cell? (ad.add k) = some (.int .i64 l[k]) ∧ i64 l[k] := by
  obtain ⟨ad, e, hlt, hc⟩ := h.2 (by omega)
  exact ⟨ad, e, hlt, hc k hk, h.1 _ (List.getElem_mem hk)⟩

/-- A call. -/
structure Op where
  kind : Int
  at_ : Int
  A : Option Addr
  b : List UInt8
  c : Nat
instance : Inhabited Op := ⟨⟨0, 0, none, [], 0⟩⟩
def Op.Right (w : World) (x : Op) : Prop := i64 x.kind ∧ i64 x.at_ ∧ x.b.length ≤ x.c ∧ x.c ≤ maxLen ∧ Lie w x.A x.b
def OpAt (w : World) (ad : Addr) (i : Nat) (x : Op) : Prop :=
  w.cell? (ad.add (i * 3)) = some (.int .i64 x.kind) ∧ w.cell? (ad.add (i * 3 + 1)) = some (.int .i64 x.at_) ∧ w.cell? (ad.add (i * 3 + 2)) = some (.slice x.A x.b.length x.c)
theorem OpAt.cells {w : World} {ad : Addr} {i : Nat} {x : Op} (h : OpAt w ad i x) :
    w.cell? (ad.add (i * 3)) = some (.int .i64 x.kind) ∧ w.cell? ⟨(ad.add (i * 3)).block, (ad.add (i * 3)).off + 1, none⟩ = some (.int .i64 x.at_) ∧ w.cell? ⟨(ad.add (i * 3)).block, (ad.add (i * 3)).off + 2, none⟩ = some (.slice x.A x.b.length x.c) := by
  have e : ∀ j, (⟨(ad.add (i * 3)).block, (ad.add (i * 3)).off + (j + 1), none⟩ : Addr) = ad.add (i * 3 + (j + 1)) := fun j => by rw [← add_add_, Addr.add_succ']
  exact ⟨h.1, by rw [e 0]; exact h.2.1, by rw [e 1]; exact h.2.2⟩
/-- A slice's address at which these calls lie. -/
def Ops (w : World) (A : Option Addr) (l : List Op) : Prop :=
  (∀ x ∈ l, x.Right w) ∧ (0 < l.length → ∃ ad, A = some ad ∧ ad.block < w.heap.size ∧ ∀ i (hi : i < l.length), OpAt w ad i l[i])
theorem Ops.below {w w' : World} {A : Option Addr} {l : List Op} (h : Ops w A l) (hb : Below w.heap.size w w') : Ops w' A l := by
  refine ⟨fun x hx => ?_, fun hl => ?_⟩
  · obtain ⟨r1, r2, r3, r4, r5⟩ := h.1 x hx
    exact ⟨r1, r2, r3, r4, r5.below hb⟩
  · obtain ⟨ad, e, hlt, hc⟩ := h.2 hl
    have hk : ∀ k, w'.cell? (ad.add k) = w.cell? (ad.add k) := fun k => hb.cell (p := ad.add k) (by rw [blk_add]; exact hlt)
    refine ⟨ad, e, Nat.lt_of_lt_of_le hlt hb.size, fun i hi => ?_⟩
    unfold OpAt
    simp only [hk]
    exact hc i hi
theorem Ops.at_ {w : World} {A : Option Addr} {l : List Op} (h : Ops w A l) {i : Nat} (hi : i < l.length) : ∃ ad, A = some ad ∧ ad.block < w.heap.size ∧ OpAt w ad i l[i] ∧ l[i].Right w := by
  obtain ⟨ad, e, hlt, hc⟩ := h.2 (by omega)
  exact ⟨ad, e, hlt, hc i hi, h.1 _ (List.getElem_mem hi)⟩

section
variable {H : Type} {enc : TypeId × Value → H} {W : World} {base0 : Nat} {r : Reach} {v : Value} {d : DataW H} {p : List MemPlace}

theorem open_ns (hv : Value.okWide Try.prog W r base0 45 v) (h : DataW.Trod enc Try.prog W 0 (fun _ => true) true 45 v d p) :
    ∃ (A : Option Addr) (l : List Int) (c : Nat), v = .slice A l.length c ∧ l.length ≤ c ∧ c ≤ maxLen ∧ Nums W A l := by
  obtain ⟨a0, n0, c0, rfl⟩ := okWide_slice Try.underlying45 hv
  obtain ⟨fuel, hf⟩ := h
  rcases open_ints Try.underlying45 Try.underlying3 cells_int hf with ⟨hcs, _⟩ | ⟨a, len, cap, zs, hcs, _, hl, hm, hz, _, hcell, hwz⟩
  · simp [Value.cells] at hcs
    obtain ⟨rfl, rfl, rfl⟩ := hcs
    exact ⟨none, [], 0, rfl, by simp, by unfold maxLen; omega, by simp, fun h => absurd h (by simp)⟩
  · simp [Value.cells] at hcs
    obtain ⟨rfl, rfl, rfl⟩ := hcs
    simp only [if_true] at hz
    have hlen : (zs.take n0).length = n0 := by simp; omega
    refine ⟨some a, zs.take n0, c0, by rw [hlen], by rw [hlen]; exact hl, hm, fun x hx => i64_of_wf (hwz x (List.mem_of_mem_take hx)), fun hp => ?_⟩
    rw [hlen] at hp
    have hb := blk_lt (hcell 0 (by omega))
    rw [blk_add] at hb
    refine ⟨a, rfl, hb, fun j hj => ?_⟩
    rw [hlen] at hj
    rw [hcell j (by omega)]
    simp [List.getD_eq_getElem?_getD, List.getElem?_eq_getElem (show j < zs.length by omega)]

theorem open_bytes_at {fuel : Nat} {c2 : Value} {y : DataW H × List MemPlace} (hf : DataW.trod enc Try.prog W 0 (fun _ => true) true fuel 31 [c2] = some y) :
    ∃ (A : Option Addr) (l : List UInt8) (c : Nat), c2 = .slice A l.length c ∧ l.length ≤ c ∧ c ≤ maxLen ∧ Lie W A l := by
  rcases open_ints Try.underlying31 Try.underlying5 cells_u8 hf with ⟨hcs, _⟩ | ⟨a, n0, c0, zs, hcs, _, hl, hm, hz, _, hcell, hwz⟩
  · injection hcs with hcs
    exact ⟨none, [], 0, hcs, by simp, by unfold maxLen; omega, Lie.nil_⟩
  · injection hcs with hcs
    simp only [if_true] at hz
    have hlen : ((zs.take n0).map fun n : Int => UInt8.ofNat n.toNat).length = n0 := by simp; omega
    refine ⟨some a, (zs.take n0).map fun n : Int => UInt8.ofNat n.toNat, c0, by rw [hlen]; exact hcs, by rw [hlen]; exact hl, hm, fun hp => ?_⟩
    rw [hlen] at hp
    have h0 := hcell 0 (by omega)
    have hb := blk_lt h0
    rw [blk_add] at hb
    refine ⟨a, rfl, hb, fun j hj => ?_⟩
    rw [hlen] at hj
    rw [hcell j (by omega)]
    have hmem : zs.getD j 0 ∈ zs := by
      rw [List.getD_eq_getElem?_getD, List.getElem?_eq_getElem (by omega)]
      simp
    obtain ⟨x, hx⟩ := u8_of_wf (hwz _ hmem)
    have e : ((zs.take n0).map fun n : Int => UInt8.ofNat n.toNat)[j]'(by rw [hlen]; exact hj) = UInt8.ofNat (zs.getD j 0).toNat := by
      simp [List.getD_eq_getElem?_getD, List.getElem?_eq_getElem (show j < zs.length by omega)]
    rw [e, hx]
    simp

theorem open_op {a : Addr} {i n : Nat} {cs : List Value} {y : DataW H × List MemPlace} (hcs : W.cells? 0 (a.add (i * 3)) 3 = some cs) (h : DataW.trod enc Try.prog W 0 (fun _ => true) true n 33 cs = some y) :
    ∃ x : Op, OpAt W a i x ∧ x.Right W := by
  obtain ⟨ys, n', hn', hy, hlen, hyl, hf⟩ := DataW.trod_struct Try.underlying33 h
  obtain ⟨_, hcl, hat⟩ := World.cells?_some hcs
  match cs, hcl with
  | [c0, c1, c2], _ =>
    have g0 := hf 0 _ rfl
    have g1 := hf 1 _ rfl
    have g2 := hf 2 _ rfl
    match ys, hyl with
    | [y0, y1, y2], _ =>
      have ci := cells_int
      have cb : Try.prog.cellsOf 31 = 1 := by kernel_rfl
      simp only [List.getElem?_cons_zero, List.getElem?_cons_succ] at g0 g1 g2
      obtain ⟨k0, e0, _, w0⟩ := DataW.trod_int Try.underlying3 g0
      obtain ⟨k1, e1, _, w1⟩ := DataW.trod_int Try.underlying3 g1
      injection e0 with e0
      injection e1 with e1
      subst e0; subst e1
      obtain ⟨A, l, c, rfl, h1, h2, h3⟩ := open_bytes_at g2
      refine ⟨⟨k0, k1, A, l, c⟩, ⟨?_, ?_, ?_⟩, i64_of_wf w0, i64_of_wf w1, h1, h2, h3⟩
      · have := hat 0 (by omega); rw [add_add_] at this; simpa using this
      · have := hat 1 (by omega); rw [add_add_] at this; simpa using this
      · have := hat 2 (by omega); rw [add_add_] at this; simpa using this

theorem open_os (hv : Value.okWide Try.prog W r base0 22 v) (h : DataW.Trod enc Try.prog W 0 (fun _ => true) true 22 v d p) :
    ∃ (A : Option Addr) (l : List Op) (c : Nat), v = .slice A l.length c ∧ l.length ≤ c ∧ c ≤ maxLen ∧ Ops W A l := by
  obtain ⟨a0, n0, c0, rfl⟩ := okWide_slice Try.underlying22 hv
  obtain ⟨fuel, hf⟩ := h
  rcases open_slice Try.underlying22 hf with ⟨hcs, _⟩ | ⟨a, len, cap, m, n, D, Pl, hcs, _, hl, hm, hmm, _, hx⟩
  · simp [Value.cells] at hcs
    obtain ⟨rfl, rfl, rfl⟩ := hcs
    exact ⟨none, [], 0, rfl, by simp, by unfold maxLen; omega, by simp, fun h => absurd h (by simp)⟩
  · simp [Value.cells] at hcs
    obtain ⟨rfl, rfl, rfl⟩ := hcs
    simp only [if_true] at hmm
    rw [cells_op] at hx
    obtain ⟨V, hV⟩ := choose_lt (α := Op) (p := fun i x => OpAt W a i x ∧ x.Right W) (n := m) (fun i hi => by
      obtain ⟨cs', h1, h2⟩ := hx i hi
      exact open_op h1 h2)
    have hlen : ((List.range n0).map V).length = n0 := by simp
    refine ⟨some a, (List.range n0).map V, c0, by rw [hlen], by rw [hlen]; exact hl, hm, ?_, fun hp => ?_⟩
    · intro x hx
      simp only [List.mem_map, List.mem_range] at hx
      obtain ⟨i, hi, rfl⟩ := hx
      exact (hV i (by omega)).2
    · rw [hlen] at hp
      have hb := blk_lt (hV 0 (by omega)).1.1
      rw [blk_add] at hb
      refine ⟨a, rfl, hb, fun i hi => ?_⟩
      rw [hlen] at hi
      simp only [List.getElem_map, List.getElem_range]
      exact (hV i (by omega)).1
end
end Go.Proofs.Ytjhbeebednahhaa.Dk
