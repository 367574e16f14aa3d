/-
  The document's disk: in memory; contracts of its Up, Cut, Read, Write.
-/
import Derived.Test.YtjhbeebednahhaaDkW5
import Derived.Deep.RegionHeldLaw
namespace Go.Proofs.Ytjhbeebednahhaa.Dk
open Go.RowKit

/-- The sectors as texts. -/
def Txts (w : World) (s : Nat) (L : List (List UInt8)) : Prop := ∀ i (hi : i < L.length), w.cell? ⟨s, i, none⟩ = some (.string ⟨L[i].toArray⟩) ∧ w.frozen? ⟨s, i, none⟩ = false
/-- The document's disk at a block, its texts at another one. -/
def Rk (w : World) (g s : Nat) (d : Dsk) : Prop :=
  (∃ cap, Box w g 41 #[.slice (some ⟨s, 0, none⟩) d.L.length cap, .bool (!d.on), .int .i64 d.left, .int .i64 d.wr] ∧ d.L.length ≤ cap ∧ cap ≤ maxLen) ∧ g ≠ s ∧ s < w.heap.size ∧ Txts w s d.L
section
variable {w w' : World} {g s : Nat} {d : Dsk} {L : List (List UInt8)}
theorem Txts.block (h : Txts w s L) (k : w'.heap[s]? = w.heap[s]?) : Txts w' s L := fun i hi => by
  rw [World.cell?_of_block (w := w) (a := ⟨s, i, none⟩) k, World.frozen?_of_block (w := w) (a := ⟨s, i, none⟩) k]
  exact h i hi
theorem Txts.set_ (h : Txts w s L) {k : Nat} (b : List UInt8) : Txts (w.setCell ⟨s, k, none⟩ (.string ⟨b.toArray⟩)) s (L.set k b) := fun i hi => by
  have hi' : i < L.length := by simpa using hi
  refine ⟨?_, by rw [World.frozen?_setCell]; exact (h i hi').2⟩
  rw [List.getElem_set]
  split
  · next e =>
    subst e
    exact World.cell?_setCell_same _ _ _ (h k hi').1
  · next e =>
    rw [World.cell?_setCell_other _ _ _ _ (by simp)]
    exact (h i hi').1
theorem Rk.lt (h : Rk w g s d) : g < w.heap.size ∧ s < w.heap.size := by
  obtain ⟨⟨cap, hx, _⟩, _, hs, _⟩ := h
  exact ⟨hx.lt, hs⟩
theorem Rk.fr {S : Nat → Prop} (h : Rk w g s d) (k : Fr S w w') (hg : ¬ S g) (hs : ¬ S s) : Rk w' g s d := by
  obtain ⟨⟨cap, hx, hc⟩, hn, hl, hse⟩ := h
  exact ⟨⟨cap, hx.fr k hg, hc⟩, hn, Nat.lt_of_lt_of_le hl k.size, hse.block (k.block s hl hs)⟩
theorem Rk.drew_ (h : Rk w g s d) : Rk w.drew g s d := h.fr (S := fun _ => False) (Fr.refl _ w).drew id id
theorem Rk.below (h : Rk w g s d) (k : Below w.heap.size w w') : Rk w' g s d := h.fr (S := fun _ => False) (Fr.of_below k) id id
theorem Rk.cells (h : Rk w g s d) : ∃ cap, d.L.length ≤ cap ∧ cap ≤ maxLen ∧ w.cell? ⟨g, 0, none⟩ = some (.slice (some ⟨s, 0, none⟩) d.L.length cap) ∧ w.cell? ⟨g, 1, none⟩ = some (.bool (!d.on)) ∧ w.cell? ⟨g, 2, none⟩ = some (.int .i64 d.left) ∧ w.cell? ⟨g, 3, none⟩ = some (.int .i64 d.wr) ∧
    w.frozen? ⟨g, 0, none⟩ = false ∧ w.frozen? ⟨g, 1, none⟩ = false ∧ w.frozen? ⟨g, 2, none⟩ = false ∧ w.frozen? ⟨g, 3, none⟩ = false := by
  obtain ⟨⟨cap, hx, h1, h2⟩, _⟩ := h
  exact ⟨cap, h1, h2, hx.cell 0, hx.cell 1, hx.cell 2, hx.cell 3, hx.frozen 0, hx.frozen 1, hx.frozen 2, hx.frozen 3⟩
def RPost (v : Value) (g s : Nat) (d : Dsk) (w : World) (e : Ending) (w' : World) : Prop := e = .returned v ∧ Rk w' g s d ∧ Fr (Two g s) w w'

theorem Rk.left_ (h : Rk w g s d) (n : Int) : Rk (w.setCell ⟨g, 2, none⟩ (.int .i64 n)) g s { d with left := n } ∧ Fr (Two g s) w (w.setCell ⟨g, 2, none⟩ (.int .i64 n)) := by
  obtain ⟨⟨cap, hx, hc⟩, hn, hl, hse⟩ := h
  refine ⟨⟨⟨cap, hx.set_ 2 _, hc⟩, hn, by simpa [World.setCell] using hl, hse.block (Below.heap_setCell _ _ _ _ (Ne.symm hn))⟩, (Fr.refl _ w).set_ (p := ⟨g, 2, none⟩) (.inl rfl) _⟩
theorem Rk.on_ (h : Rk w g s d) (b : Bool) : Rk (w.setCell ⟨g, 1, none⟩ (.bool (!b))) g s { d with on := b } ∧ Fr (Two g s) w (w.setCell ⟨g, 1, none⟩ (.bool (!b))) := by
  obtain ⟨⟨cap, hx, hc⟩, hn, hl, hse⟩ := h
  refine ⟨⟨⟨cap, hx.set_ 1 _, hc⟩, hn, by simpa [World.setCell] using hl, hse.block (Below.heap_setCell _ _ _ _ (Ne.symm hn))⟩, (Fr.refl _ w).set_ (p := ⟨g, 1, none⟩) (.inl rfl) _⟩
theorem Rk.wr_ (h : Rk w g s d) (n : Int) : Rk (w.setCell ⟨g, 3, none⟩ (.int .i64 n)) g s { d with wr := n } ∧ Fr (Two g s) w (w.setCell ⟨g, 3, none⟩ (.int .i64 n)) := by
  obtain ⟨⟨cap, hx, hc⟩, hn, hl, hse⟩ := h
  refine ⟨⟨⟨cap, hx.set_ 3 _, hc⟩, hn, by simpa [World.setCell] using hl, hse.block (Below.heap_setCell _ _ _ _ (Ne.symm hn))⟩, (Fr.refl _ w).set_ (p := ⟨g, 3, none⟩) (.inl rfl) _⟩
theorem Rk.txt_ (h : Rk w g s d) (k : Nat) (b : List UInt8) : Rk (w.setCell ⟨s, k, none⟩ (.string ⟨b.toArray⟩)) g s { d with L := d.L.set k b } ∧ Fr (Two g s) w (w.setCell ⟨s, k, none⟩ (.string ⟨b.toArray⟩)) := by
  obtain ⟨⟨cap, hx, hc⟩, hn, hl, hse⟩ := h
  refine ⟨⟨⟨cap, ?_, ?_⟩, hn, by simpa [World.setCell] using hl, hse.set_ b⟩, (Fr.refl _ w).set_ (p := ⟨s, k, none⟩) (.inr rfl) _⟩
  · have := hx.far (p := ⟨s, k, none⟩) hn (.string ⟨b.toArray⟩)
    simpa using this
  · simpa using hc

set_option maxHeartbeats 400000 in
theorem rup_all (h : Rk w g s d) : Calls Try.prog 19 #[.pointer (some ⟨g, 0, none⟩)] w (RPost (.tuple #[]) g s d.up w) := by
  obtain ⟨cap, _, _, _, c1, c2, _, _, f1, f2, _⟩ := h.cells
  have hy := h.on_ true
  have hz := hy.1.left_ (-1)
  have hq := hy.2.trans hz.2
  simp only [Bool.not_true] at hz hq
  clear h hy
  go_enter Try.func19, Try.ntmps19
  go_wp2
  go_end0
  exact ⟨rfl, hz.1, hq⟩
set_option maxHeartbeats 400000 in
theorem rcut_all (n : Int) (h : Rk w g s d) : Calls Try.prog 30 #[.pointer (some ⟨g, 0, none⟩), .int .i64 n] w (RPost (.tuple #[]) g s (d.cut n) w) := by
  obtain ⟨cap, _, _, _, _, c2, _, _, _, f2, _⟩ := h.cells
  have hz := h.left_ n
  by_cases hn : n < 0
  · have hy := hz.1.left_ (-1)
    have hq := hz.2.trans hy.2
    have e : d.cut n = { d with left := -1 } := by unfold Dsk.cut; rw [if_pos hn]
    rw [e]
    clear h e hz
    go_enter Try.func30, Try.ntmps30
    go_wp2
    go_end0
    exact ⟨rfl, hy.1, hq⟩
  · have e : d.cut n = { d with left := n } := by unfold Dsk.cut; rw [if_neg hn]
    rw [e]
    clear h e
    go_enter Try.func30, Try.ntmps30
    go_wp2
    go_end0
    exact ⟨rfl, hz⟩

/-- Read, in all cases. -/
theorem rread_all (n : Int) (h : Rk w g s d) : Calls Try.prog 29 #[.pointer (some ⟨g, 0, none⟩), .int .i64 n] w (Same (.tuple #[.string ⟨(d.read n).toArray⟩, .int .i64 (d.rerr n)]) w) := by
  obtain ⟨cap, hc1, hc2, c0, c1, _⟩ := h.cells
  by_cases ho : d.on = false
  · rw [show d.rerr n = 6 from if_pos ho, show d.read n = [] by unfold Dsk.read; rw [show d.rerr n = 6 from if_pos ho]; rfl]
    rw [ho] at c1
    simp only [Bool.not_false] at c1
    clear h
    go_enter Try.func29, Try.ntmps29
    go_wp2
    go_ret2
    exact ⟨rfl, rfl⟩
  · have ho' : d.on = true := by simpa using ho
    rw [ho'] at c1
    simp only [Bool.not_true] at c1
    by_cases hb : d.Bad n
    · have e : d.rerr n = 1 := by unfold Dsk.rerr; rw [if_neg ho, if_pos hb]
      rw [show d.read n = [] by unfold Dsk.read; rw [e]; rfl, e]
      rcases hb with hb | hb
      · have b1 : decide (n < 0) = true := by simpa using hb
        clear h e ho ho'
        go_enter Try.func29, Try.ntmps29
        go_wp2
        go_ret2
        exact ⟨rfl, rfl⟩
      · have b1 : decide (n < 0) = false := by simp; omega
        have b2 : decide ((d.L.length : Int) ≤ n) = true := by simpa using hb
        clear h e ho ho'
        go_enter Try.func29, Try.ntmps29
        go_wp2
        go_ret2
        exact ⟨rfl, rfl⟩
    · have e : d.rerr n = 0 := by unfold Dsk.rerr; rw [if_neg ho, if_neg hb]
      obtain ⟨k, rfl⟩ : ∃ k : Nat, n = (k : Int) := ⟨n.toNat, by unfold Dsk.Bad at hb; omega⟩
      have hk : k < d.L.length := by unfold Dsk.Bad at hb; omega
      rw [show d.read (k : Int) = d.L[k] by unfold Dsk.read; rw [if_pos e, Int.toNat_natCast, List.getD_eq_getElem?_getD, List.getElem?_eq_getElem hk]; rfl, e]
      have hcell := (h.2.2.2 k hk).1
      have b1 : decide ((k : Int) < 0) = false := by simp
      have b2 : decide ((d.L.length : Int) ≤ (k : Int)) = false := by simp; omega
      clear h e ho ho' hb
      go_enter Try.func29, Try.ntmps29
      go_wp2
      go_ret2
      exact ⟨rfl, rfl⟩

theorem RPost.of_same {v : Value} {e : Ending} (h : Rk w g s d) (k : Same v w e w') : RPost v g s d w e w' := by
  obtain ⟨rfl, rfl⟩ := k
  exact ⟨rfl, h, Fr.refl _ _⟩

set_option maxRecDepth 100000 in
set_option maxHeartbeats 1000000 in
theorem rwrite_ok (k : Nat) (A : Option Addr) (b : List UInt8) (c : Nat) (h : Rk w g s d) (ho : d.on = true) (hk : k < d.L.length) (hb : b.length = 256) (hl : d.left ≠ 0) (hi : i64 d.left) (hwr : 0 ≤ d.wr ∧ d.wr ≤ 1000000000) (hL : Lie w A b) (hA : ∀ ad, A = some ad → ¬ Two g s ad.block) :
    Calls Try.prog 28 #[.pointer (some ⟨g, 0, none⟩), .int .i64 (k : Int), .slice A 256 c] w (RPost (.int .i64 0) g s (d.put k b) w) := by
  obtain ⟨_, _, _, e0, e1, e2, _, _, _, p2, _⟩ := h.cells
  rw [ho] at e1
  simp only [Bool.not_true] at e1
  clear ho
  unfold i64 at hi
  have b1 : decide ((k : Int) < 0) = false := by simp
  have b2 : decide ((d.L.length : Int) ≤ (k : Int)) = false := by simp; omega
  have b3 : (d.left == 0) = false := beq_eq_false_iff_ne.2 hl
  by_cases hp : 0 < d.left
  · obtain ⟨h1, q1⟩ := h.left_ (d.left - 1)
    have e : d.put k b = ⟨d.L.set k b, d.on, d.left - 1, d.wr + 1⟩ := by unfold Dsk.put less; rw [if_pos hp]
    rw [e]
    clear e h hl
    have hL1 := hL.fr q1 hA
    obtain ⟨cap, hc1, hc2, c0, _⟩ := h1.cells
    try simp only at hc1 c0
    have hcell := (h1.2.2.2 k hk).1
    have hfz := (h1.2.2.2 k hk).2
    obtain ⟨h2, q2⟩ := h1.drew_.txt_ k b
    try simp only at h2
    have f5 := q1.drew.trans q2
    have hcv := conv_lie c hL1.drew
    rw [hb] at hcv
    have hn0 : ((w.setCell ⟨g, 2, none⟩ (.int .i64 (d.left - 1))).drew.setCell ⟨s, k, none⟩ (.string ⟨b.toArray⟩)).cell? ⟨g, 0, none⟩ = some (.slice (some ⟨s, 0, none⟩) d.L.length cap) := (World.cell?_of_block (w := (w.setCell ⟨g, 2, none⟩ (.int .i64 (d.left - 1))).drew) (a := ⟨g, 0, none⟩) (Below.heap_setCell _ _ _ _ h1.2.1)).trans c0
    have hn1 := conv_lie c (hL1.drew.fr q2 hA)
    rw [hb] at hn1
    have k0 : (0 : Int) ≤ (k : Int) := Int.natCast_nonneg _
    have k1 : (k : Int) < (d.L.length : Int) := by omega
    clear hL hL1 q1 q2
    go_enter Try.func28, Try.ntmps28
    go_wp2_with fail
    go_region_held (fun w' => w'.cell? ⟨g, 0, none⟩ = some (.slice (some ⟨s, 0, none⟩) d.L.length cap) ∧ (convert 31 9 (.slice A 256 c)).run Try.prog w' = .ok (.string ⟨b.toArray⟩) w') (first | exact ⟨c0, hcv⟩ | exact ⟨hn0, hn1⟩ | assumption) (fail)
    obtain ⟨_, _, _, _, _, _, c3', _, _, _, f3'⟩ := h2.cells
    try simp only at c3'
    obtain ⟨h6, f6⟩ := h2.wr_ (d.wr + 1)
    have f7 := f5.trans f6
    clear f5 f6 h2 hn0 hn1 hcv c0 h1
    have ew : (w.setCell ⟨g, 2, none⟩ (.int .i64 (d.left - 1))).drew.setCell ⟨s, k, none⟩ (.string ⟨b.toArray⟩) = ((w.setCell ⟨g, 2, none⟩ (.int .i64 (d.left - 1))).setCell ⟨s, k, none⟩ (.string ⟨b.toArray⟩)).drew := rfl
    rw [ew] at h6 f7 c3' f3'
    clear ew
    generalize ((w.setCell ⟨g, 2, none⟩ (.int .i64 (d.left - 1))).setCell ⟨s, k, none⟩ (.string ⟨b.toArray⟩)).drew = w3 at *
    go_wp2
    go_ret
    exact ⟨rfl, h6, f7⟩
  · have e : d.put k b = ⟨d.L.set k b, d.on, d.left, d.wr + 1⟩ := by unfold Dsk.put less; rw [if_neg hp]
    rw [e]
    have q1 := Fr.refl (Two g s) w
    clear e hl
    have hL1 := hL.fr q1 hA
    obtain ⟨cap, hc1, hc2, c0, _⟩ := h.cells
    try simp only at hc1 c0
    have hcell := (h.2.2.2 k hk).1
    have hfz := (h.2.2.2 k hk).2
    obtain ⟨h2, q2⟩ := h.drew_.txt_ k b
    try simp only at h2
    have f5 := q1.drew.trans q2
    have hcv := conv_lie c hL1.drew
    rw [hb] at hcv
    have hn0 : (w.drew.setCell ⟨s, k, none⟩ (.string ⟨b.toArray⟩)).cell? ⟨g, 0, none⟩ = some (.slice (some ⟨s, 0, none⟩) d.L.length cap) := (World.cell?_of_block (w := w.drew) (a := ⟨g, 0, none⟩) (Below.heap_setCell _ _ _ _ h.2.1)).trans c0
    have hn1 := conv_lie c (hL1.drew.fr q2 hA)
    rw [hb] at hn1
    have k0 : (0 : Int) ≤ (k : Int) := Int.natCast_nonneg _
    have k1 : (k : Int) < (d.L.length : Int) := by omega
    clear hL hL1 q1 q2
    go_enter Try.func28, Try.ntmps28
    go_wp2_with fail
    go_region_held (fun w' => w'.cell? ⟨g, 0, none⟩ = some (.slice (some ⟨s, 0, none⟩) d.L.length cap) ∧ (convert 31 9 (.slice A 256 c)).run Try.prog w' = .ok (.string ⟨b.toArray⟩) w') (first | exact ⟨c0, hcv⟩ | exact ⟨hn0, hn1⟩ | assumption) (fail)
    obtain ⟨_, _, _, _, _, _, c3', _, _, _, f3'⟩ := h2.cells
    try simp only at c3'
    obtain ⟨h6, f6⟩ := h2.wr_ (d.wr + 1)
    have f7 := f5.trans f6
    clear f5 f6 h2 hn0 hn1 hcv c0 h
    have ew : w.drew.setCell ⟨s, k, none⟩ (.string ⟨b.toArray⟩) = (w.setCell ⟨s, k, none⟩ (.string ⟨b.toArray⟩)).drew := rfl
    rw [ew] at h6 f7 c3' f3'
    clear ew
    generalize (w.setCell ⟨s, k, none⟩ (.string ⟨b.toArray⟩)).drew = w3 at *
    go_wp2
    go_ret
    exact ⟨rfl, h6, f7⟩

set_option maxRecDepth 100000 in
set_option maxHeartbeats 1000000 in
/-- Write, in all cases. -/
theorem rwrite_all (n : Int) (A : Option Addr) (b : List UInt8) (c : Nat) (h : Rk w g s d) (hi : i64 d.left) (hwr : 0 ≤ d.wr ∧ d.wr ≤ 1000000000) (hL : Lie w A b) (hA : ∀ ad, A = some ad → ¬ Two g s ad.block) :
    Calls Try.prog 28 #[.pointer (some ⟨g, 0, none⟩), .int .i64 n, .slice A b.length c] w (RPost (.int .i64 (d.err n b.length)) g s (d.write n b) w) := by
  obtain ⟨cap, hc1, hc2, c0, c1, c2, c3, f0, f1, f2, f3⟩ := h.cells
  unfold Dsk.err Dsk.write
  by_cases ho : d.on = false
  · rw [if_pos ho, if_pos ho]
    rw [ho] at c1
    simp only [Bool.not_false] at c1
    go_enter Try.func28, Try.ntmps28
    go_wp2
    go_ret
    exact ⟨rfl, h, Fr.refl _ _⟩
  · have ho' : d.on = true := by simpa using ho
    rw [ho'] at c1
    simp only [Bool.not_true] at c1
    rw [if_neg ho, if_neg ho]
    by_cases hb : d.Bad n
    · rw [if_pos (.inl hb), if_pos (.inl hb)]
      rcases hb with hb | hb
      · have b1 : decide (n < 0) = true := by simpa using hb
        go_enter Try.func28, Try.ntmps28
        go_wp2
        go_ret
        exact ⟨rfl, h, Fr.refl _ _⟩
      · have b1 : decide (n < 0) = false := by simp; omega
        have b2 : decide ((d.L.length : Int) ≤ n) = true := by simpa using hb
        go_enter Try.func28, Try.ntmps28
        go_wp2
        go_ret
        exact ⟨rfl, h, Fr.refl _ _⟩
    · have hb0 := hb
      unfold Dsk.Bad at hb
      have b1 : decide (n < 0) = false := by simp; omega
      have b2 : decide ((d.L.length : Int) ≤ n) = false := by simp; omega
      by_cases hm : b.length = 256
      · have k1 : ¬ (d.Bad n ∨ b.length ≠ 256) := fun h => h.elim hb0 fun k => k hm
        rw [if_neg k1, if_neg k1]
        have hcv := conv_lie c hL.drew
        rw [hm] at hcv ⊢
        by_cases hl : d.left = 0
        · rw [if_pos hl, if_pos hl]
          rw [hl] at c2
          have hz := h.on_ false
          simp only [Bool.not_false] at hz
          clear h hcv hl
          go_enter Try.func28, Try.ntmps28
          go_wp2
          go_ret
          exact ⟨rfl, hz⟩
        · rw [if_neg hl, if_neg hl]
          obtain ⟨k, rfl⟩ : ∃ k : Nat, n = (k : Int) := ⟨n.toNat, by omega⟩
          rw [Int.toNat_natCast]
          have hk : k < d.L.length := by omega
          exact rwrite_ok k A b c h ho' hk hm hl hi hwr hL hA
      · rw [if_pos (.inr hm), if_pos (.inr hm)]
        have b3 : ((b.length : Int) != 256) = true := by simp; omega
        have b4 : ((b.length : Int) == 256) = false := beq_eq_false_iff_ne.2 (by omega)
        have b5 : (b.length == 256) = false := beq_eq_false_iff_ne.2 hm
        go_enter Try.func28, Try.ntmps28
        go_wp2
        go_ret
        exact ⟨rfl, h, Fr.refl _ _⟩
end
end Go.Proofs.Ytjhbeebednahhaa.Dk
