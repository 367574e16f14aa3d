/-
  Contracts of disk's small methods: Sectors, On, Writes, Cut, Up, access, fails.
-/
import Derived.Test.YtkklplccngdalaaDkB
namespace Go.Proofs.Ytkklplccngdalaa.Dk
open Go.RowKit

section
variable {w : World} {g s : Nat} {d : Dsk}

theorem Dk.cells (h : Dk w g s d) : ∃ cap, d.L.length ≤ cap ∧ cap ≤ maxLen ∧ w.cell? ⟨g, 0, none⟩ = some (.slice (some ⟨s, 0, none⟩) d.L.length cap) ∧ w.cell? ⟨g, 1, none⟩ = some (.bool d.on) ∧ w.cell? ⟨g, 2, none⟩ = some (.int .i64 d.left) ∧ w.cell? ⟨g, 3, none⟩ = some (.int .i64 d.wr) ∧
    w.frozen? ⟨g, 0, none⟩ = false ∧ w.frozen? ⟨g, 1, none⟩ = false ∧ w.frozen? ⟨g, 2, none⟩ = false ∧ w.frozen? ⟨g, 3, none⟩ = false := by
  obtain ⟨⟨cap, hx, h1, h2⟩, _⟩ := h
  exact ⟨cap, h1, h2, hx.cell 0, hx.cell 1, hx.cell 2, hx.cell 3, hx.frozen 0, hx.frozen 1, hx.frozen 2, hx.frozen 3⟩

def Same (v : Value) (w : World) (e : Ending) (w' : World) : Prop := e = .returned v ∧ w = w'

set_option maxHeartbeats 400000 in
theorem sectors_all (h : Dk w g s d) : Calls Try.prog 39 #[.pointer (some ⟨g, 0, none⟩)] w (Same (.int .i64 d.L.length) w) := by
  obtain ⟨cap, _, _, c0, _⟩ := h.cells
  clear h
  go_enter Try.func39, Try.ntmps39
  go_wp2
  go_ret
  exact ⟨rfl, rfl⟩
set_option maxHeartbeats 400000 in
theorem on_all (h : Dk w g s d) : Calls Try.prog 38 #[.pointer (some ⟨g, 0, none⟩)] w (Same (.bool d.on) w) := by
  obtain ⟨cap, _, _, _, c1, _⟩ := h.cells
  clear h
  go_enter Try.func38, Try.ntmps38
  go_wp2
  go_ret
  exact ⟨rfl, rfl⟩
set_option maxHeartbeats 400000 in
theorem writes_all (h : Dk w g s d) : Calls Try.prog 23 #[.pointer (some ⟨g, 0, none⟩)] w (Same (.int .i64 d.wr) w) := by
  obtain ⟨cap, _, _, _, _, _, c3, _⟩ := h.cells
  clear h
  go_enter Try.func23, Try.ntmps23
  go_wp2
  go_ret
  exact ⟨rfl, rfl⟩

def DPost (v : Value) (g s : Nat) (d : Dsk) (w : World) (e : Ending) (w' : World) : Prop := e = .returned v ∧ Dk w' g s d ∧ Fr (Two g s) w w'

theorem Dk.left_ (h : Dk w g s d) (n : Int) : Dk (w.setCell ⟨g, 2, none⟩ (.int .i64 n)) g s { d with left := n } ∧ Fr (Two g s) w (w.setCell ⟨g, 2, none⟩ (.int .i64 n)) := by
  obtain ⟨⟨cap, hx, hc⟩, hn, hl, hse⟩ := h
  refine ⟨⟨⟨cap, hx.set_ 2 _, hc⟩, hn, by simpa [World.setCell] using hl, hse.block (Below.heap_setCell _ _ _ _ (Ne.symm hn))⟩, (Fr.refl _ w).set_ (p := ⟨g, 2, none⟩) (.inl rfl) _⟩
theorem Dk.on_ (h : Dk w g s d) (b : Bool) : Dk (w.setCell ⟨g, 1, none⟩ (.bool b)) g s { d with on := b } ∧ Fr (Two g s) w (w.setCell ⟨g, 1, none⟩ (.bool b)) := by
  obtain ⟨⟨cap, hx, hc⟩, hn, hl, hse⟩ := h
  refine ⟨⟨⟨cap, hx.set_ 1 _, hc⟩, hn, by simpa [World.setCell] using hl, hse.block (Below.heap_setCell _ _ _ _ (Ne.symm hn))⟩, (Fr.refl _ w).set_ (p := ⟨g, 1, none⟩) (.inl rfl) _⟩
theorem Dk.wr_ (h : Dk w g s d) (n : Int) : Dk (w.setCell ⟨g, 3, none⟩ (.int .i64 n)) g s { d with wr := n } ∧ Fr (Two g s) w (w.setCell ⟨g, 3, none⟩ (.int .i64 n)) := by
  obtain ⟨⟨cap, hx, hc⟩, hn, hl, hse⟩ := h
  refine ⟨⟨⟨cap, hx.set_ 3 _, hc⟩, hn, by simpa [World.setCell] using hl, hse.block (Below.heap_setCell _ _ _ _ (Ne.symm hn))⟩, (Fr.refl _ w).set_ (p := ⟨g, 3, none⟩) (.inl rfl) _⟩
theorem Dk.secs_ (h : Dk w g s d) {k : Nat} (hk : k < d.L.length) {b : List UInt8} (hb : b.length = 256) : Dk (w.setCells s (k * 256) (u8C b)) g s { d with L := d.L.set k b } ∧ Fr (Two g s) w (w.setCells s (k * 256) (u8C b)) := by
  obtain ⟨⟨cap, hx, hc⟩, hn, hl, hse⟩ := h
  refine ⟨⟨⟨cap, ?_, ?_⟩, hn, by rw [setCells_size]; exact hl, hse.set_ hk hb⟩, (Fr.refl _ w).sets (.inr rfl) _ _⟩
  · have := hx.sets hn (k * 256) (u8C b)
    simpa using this
  · simpa using hc

set_option maxHeartbeats 400000 in
theorem cut_all (n : Int) (h : Dk w g s d) : Calls Try.prog 16 #[.pointer (some ⟨g, 0, none⟩), .int .i64 n] w (DPost (.tuple #[]) g s (d.cut n) w) := by
  obtain ⟨cap, _, _, _, _, c2, _, _, _, f2, _⟩ := h.cells
  by_cases hn : n < 0
  · have hz := h.left_ (-1)
    have e : d.cut n = { d with left := -1 } := by unfold Dsk.cut; rw [if_pos hn]
    rw [e]
    clear h e
    go_enter Try.func16, Try.ntmps16
    go_wp2
    · go_end0
      exact ⟨rfl, hz⟩
    · obtain rfl : n = -1 := by omega
      go_end0
      exact ⟨rfl, hz⟩
  · have hz := h.left_ n
    have e : d.cut n = { d with left := n } := by unfold Dsk.cut; rw [if_neg hn]
    rw [e]
    clear h e
    go_enter Try.func16, Try.ntmps16
    go_wp2
    go_end0
    exact ⟨rfl, hz⟩
set_option maxHeartbeats 400000 in
theorem up_all (h : Dk w g s d) : Calls Try.prog 20 #[.pointer (some ⟨g, 0, none⟩)] w (DPost (.tuple #[]) g s d.up w) := by
  obtain ⟨cap, _, _, _, c1, c2, _, _, f1, f2, _⟩ := h.cells
  have hy := h.on_ true
  have hz := hy.1.left_ (-1)
  have hq := hy.2.trans hz.2
  clear h hy
  go_enter Try.func20, Try.ntmps20
  go_wp2
  go_end0
  exact ⟨rfl, hz.1, hq⟩

set_option maxHeartbeats 400000 in
theorem access_off (n : Int) (h : Dk w g s d) (ho : d.on = false) : Calls Try.prog 41 #[.pointer (some ⟨g, 0, none⟩), .int .i64 n] w (Same (.int .i64 6) w) := by
  go_enter Try.func41, Try.ntmps41
  go_wp2_with fail
  refine (on_all h).mono ?_
  rintro e w' ⟨rfl, rfl⟩
  rw [ho]
  go_wp2
  go_ret
  exact ⟨rfl, rfl⟩
set_option maxHeartbeats 400000 in
theorem access_bad (n : Int) (h : Dk w g s d) (ho : d.on = true) (hb : d.Bad n) : Calls Try.prog 41 #[.pointer (some ⟨g, 0, none⟩), .int .i64 n] w (Same (.int .i64 1) w) := by
  obtain ⟨cap, _, _, c0, _⟩ := h.cells
  rcases hb with hb | hb
  · have b1 : decide (n < 0) = true := by simpa using hb
    go_enter Try.func41, Try.ntmps41
    go_wp2_with fail
    refine (on_all h).mono ?_
    rintro e w' ⟨rfl, rfl⟩
    rw [ho]
    go_wp2
    go_ret
    exact ⟨rfl, rfl⟩
  · have b1 : decide (n < 0) = false := by simp; omega
    have b2 : decide ((d.L.length : Int) ≤ n) = true := by simpa using hb
    go_enter Try.func41, Try.ntmps41
    go_wp2_with fail
    refine (on_all h).mono ?_
    rintro e w' ⟨rfl, rfl⟩
    rw [ho]
    go_wp2
    go_ret
    exact ⟨rfl, rfl⟩
set_option maxHeartbeats 400000 in
theorem access_ok (n : Int) (h : Dk w g s d) (ho : d.on = true) (hb : ¬ d.Bad n) : Calls Try.prog 41 #[.pointer (some ⟨g, 0, none⟩), .int .i64 n] w (Same (.int .i64 0) w) := by
  obtain ⟨cap, _, _, c0, _⟩ := h.cells
  unfold Dsk.Bad at hb
  have b1 : decide (n < 0) = false := by simp; omega
  have b2 : decide ((d.L.length : Int) ≤ n) = false := by simp; omega
  go_enter Try.func41, Try.ntmps41
  go_wp2_with fail
  refine (on_all h).mono ?_
  rintro e w' ⟨rfl, rfl⟩
  rw [ho]
  go_wp2
  go_ret
  exact ⟨rfl, rfl⟩

set_option maxHeartbeats 400000 in
theorem fails_yes (h : Dk w g s d) (ho : d.left = 0) : Calls Try.prog 42 #[.pointer (some ⟨g, 0, none⟩)] w (DPost (.bool true) g s d.off w) := by
  obtain ⟨cap, _, _, _, c1, c2, _, _, f1, f2, _⟩ := h.cells
  have hz := h.on_ false
  rw [ho] at c2
  clear h ho
  go_enter Try.func42, Try.ntmps42
  go_wp2
  go_ret
  exact ⟨rfl, hz⟩
set_option maxHeartbeats 400000 in
theorem fails_no (h : Dk w g s d) (ho : d.left ≠ 0) (hi : i64 d.left) : Calls Try.prog 42 #[.pointer (some ⟨g, 0, none⟩)] w (DPost (.bool false) g s { d with left := less d.left } w) := by
  obtain ⟨cap, _, _, _, c1, c2, _, _, f1, f2, _⟩ := h.cells
  have b1 : (d.left == 0) = false := beq_eq_false_iff_ne.2 ho
  unfold i64 at hi
  by_cases hp : 0 < d.left
  · have hz := h.left_ (d.left - 1)
    have e : less d.left = d.left - 1 := if_pos hp
    rw [e]
    clear h ho e
    go_enter Try.func42, Try.ntmps42
    go_wp2
    go_ret
    exact ⟨rfl, hz⟩
  · have e : less d.left = d.left := if_neg hp
    rw [e]
    clear ho e
    go_enter Try.func42, Try.ntmps42
    go_wp2
    go_ret
    exact ⟨rfl, h, Fr.refl _ _⟩
end
end Go.Proofs.Ytkklplccngdalaa.Dk
