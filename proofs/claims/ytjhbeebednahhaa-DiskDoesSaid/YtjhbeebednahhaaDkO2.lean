/-
  The calls opened, with the form's own reach: no call's bytes are more than 2^47 - 4096.
-/
import Derived.Test.YtjhbeebednahhaaDkO
import Derived.SizedLaws
namespace Go.Proofs.Ytjhbeebednahhaa.Dk
open Go.ChangeShapes Go.WideShapes Go.ChangeAt Go.RowKit Go.Deep

section
variable {H : Type} {enc : TypeId × Value → H} {W : World} {base0 : Nat} {r : Reach} {v : Value} {d : DataW H} {p : List MemPlace}

theorem weights_all {e : TypeId} {n : Nat} : ∀ {l : List (DataW H)} {x : DataW H}, x ∈ l → n ∈ x.weights Try.prog e → n ∈ DataW.weightsAll Try.prog e l
  | y :: l, x, hx, hn => by
    simp only [DataW.weightsAll, List.mem_append]
    rcases List.mem_cons.1 hx with rfl | hx
    · exact .inl hn
    · exact .inr (weights_all hx hn)

theorem bytes_u8 : Try.prog.bytesOf 5 = 1 := by kernel_rfl

theorem sized_bytes {fuel : Nat} {A : Option Addr} {n c : Nat} {y : DataW H × List MemPlace} (hf : DataW.trod enc Try.prog W 0 (fun _ => true) true fuel 31 [.slice A n c] = some y)
    (hs : ∀ m ∈ y.1.weights Try.prog 31, m ≤ reachBytes) : n ≤ 140737488351232 := by
  rcases open_ints Try.underlying31 Try.underlying5 cells_u8 hf with ⟨hcs, _⟩ | ⟨a, n0, c0, zs, hcs, _, hl, hm, hz, rfl, hcell, hwz⟩
  · injection hcs with hcs
    injection hcs with _ h2 _
    omega
  · injection hcs with hcs
    injection hcs with _ h2 _
    simp only [if_true] at hz
    have := hs (((lits (H := H) .u8 (zs.take n0)).length + (lits (H := H) .u8 (zs.drop n0)).length) * Try.prog.bytesOf 5) (by simp [DataW.weights, Try.underlying31])
    rw [bytes_u8] at this
    simp only [lits, List.length_map, List.length_take, List.length_drop, reachBytes] at this
    omega

theorem open_op_sized {a : Addr} {i n : Nat} {cs : List Value} {y : DataW H × List MemPlace} (hcs : W.cells? 0 (a.add (i * 3)) 3 = some cs) (h : DataW.trod enc Try.prog W 0 (fun _ => true) true n 33 cs = some y)
    (hs : ∀ m ∈ y.1.weights Try.prog 33, m ≤ reachBytes) : ∃ x : Op, OpAt W a i x ∧ x.Right W ∧ x.b.length ≤ 140737488351232 := by
  obtain ⟨x, hx, hr⟩ := open_op hcs h
  refine ⟨x, hx, hr, ?_⟩
  obtain ⟨ys, n', hn', rfl, hlen, hyl, hf⟩ := DataW.trod_struct Try.underlying33 h
  obtain ⟨_, hcl, hat⟩ := World.cells?_some hcs
  match cs, hcl with
  | [c0, c1, c2], _ =>
    have g2 := hf 2 _ rfl
    match ys, hyl with
    | [y0, y1, y2], _ =>
      have cb : Try.prog.cellsOf 31 = 1 := by kernel_rfl
      simp only [List.getElem?_cons_zero, List.getElem?_cons_succ] at g2
      have h2 : W.cell? (a.add (i * 3 + 2)) = some c2 := by have := hat 2 (by omega); rw [add_add_] at this; simpa using this
      have e : c2 = .slice x.A x.b.length x.c := by
        rw [hx.2.2] at h2
        injection h2 with h2
        exact h2.symm
      subst e
      refine sized_bytes g2 (fun m hm => hs m ?_)
      simp only [DataW.weights, Try.underlying33]
      exact DataW.weights_mem_each (j := 2) (t := 31) (d := y2.1) rfl rfl m hm

theorem open_os_sized (hv : Value.okWide Try.prog W r base0 22 v) (h : DataW.Trod enc Try.prog W 0 (fun _ => true) true 22 v d p)
    (hs : ∀ m ∈ d.weights Try.prog 22, m ≤ reachBytes) :
    ∃ (A : Option Addr) (l : List Op) (c : Nat), v = .slice A l.length c ∧ l.length ≤ c ∧ c ≤ maxLen ∧ Ops W A l ∧ ∀ x ∈ l, x.b.length ≤ 140737488351232 := by
  obtain ⟨a0, n0, c0, rfl⟩ := okWide_slice Try.underlying22 hv
  obtain ⟨fuel, hf⟩ := h
  rcases open_slice Try.underlying22 hf with ⟨hcs, _⟩ | ⟨a, len, cap, m, n, D, Pl, hcs, _, hl, hm, hmm, hd, hx⟩
  · simp [Value.cells] at hcs
    obtain ⟨rfl, rfl, rfl⟩ := hcs
    exact ⟨none, [], 0, rfl, by simp, by unfold maxLen; omega, ⟨by simp, fun h => absurd h (by simp)⟩, by simp⟩
  · simp [Value.cells] at hcs
    obtain ⟨rfl, rfl, rfl⟩ := hcs
    simp only [if_true] at hmm
    simp only [Prod.mk.injEq] at hd
    obtain ⟨rfl, _⟩ := hd
    rw [cells_op] at hx
    obtain ⟨V, hV⟩ := choose_lt (α := Op) (p := fun i x => OpAt W a i x ∧ x.Right W ∧ x.b.length ≤ 140737488351232) (n := n0) (fun i hi => by
      obtain ⟨cs', h1, h2⟩ := hx i (by omega)
      refine open_op_sized h1 h2 (fun q hq => hs q ?_)
      simp only [DataW.weights, Try.underlying22, List.mem_cons, List.mem_append]
      exact .inr (.inl (weights_all (List.mem_map.2 ⟨i, List.mem_range.2 hi, rfl⟩) hq)))
    have hlen : ((List.range n0).map V).length = n0 := by simp
    refine ⟨some a, (List.range n0).map V, c0, by rw [hlen], by rw [hlen]; exact hl, hm, ⟨?_, fun hp => ?_⟩, ?_⟩
    · intro x hx
      simp only [List.mem_map, List.mem_range] at hx
      obtain ⟨i, hi, rfl⟩ := hx
      exact (hV i hi).2.1
    · rw [hlen] at hp
      have hb := blk_lt (hV 0 (by omega)).1.1
      rw [blk_add] at hb
      refine ⟨a, rfl, hb, fun i hi => ?_⟩
      rw [hlen] at hi
      simp only [List.getElem_map, List.getElem_range]
      exact (hV i hi).1
    · intro x hx
      simp only [List.mem_map, List.mem_range] at hx
      obtain ⟨i, hi, rfl⟩ := hx
      exact (hV i hi).2.2
end
end Go.Proofs.Ytjhbeebednahhaa.Dk
