/-
  Contracts of the log's small functions: Room, Sectors, indexOf, spare, data, has, usable, write.
-/
import Derived.Test.YtkklplccngdalaaDkW3
import Derived.Test.YtkklplccngdalaaWlN
import Derived.BigQuiet
namespace Go.Proofs.Ytkklplccngdalaa.Dk
open Go.RowKit

set_option maxRecDepth 100000 in
set_option maxHeartbeats 400000 in
theorem room_all (n : Nat) (w : World) (hn : n ≤ 1000000000) : Calls Try.prog 9 #[.int .i64 (n : Int)] w (Same (.int .i64 (room n : Nat)) w) := by
  by_cases h : n < 4
  · rw [room_small h]
    have b1 : decide ((n : Int) < 4) = true := by simp; omega
    go_enter Try.func9, Try.ntmps9
    go_wp2
    go_ret
    exact ⟨rfl, rfl⟩
  · have b1 : decide ((n : Int) < 4) = false := by simp; omega
    have e : ((room n : Nat) : Int) = ((n : Int) - 1) / 129 * 64 + (max (((n : Int) - 1) % 129 - 1) 0) / 2 := by unfold room; omega
    rw [e]
    clear e
    go_enter Try.func9, Try.ntmps9
    go_wp2
    · go_ret
      exact ⟨ret_int (by omega), rfl⟩
    · go_ret
      exact ⟨ret_int (by omega), rfl⟩

set_option maxHeartbeats 400000 in
theorem indexOf_all (i : Nat) (w : World) (hi : i ≤ 1000000000) : Calls Try.prog 45 #[.int .i64 (i : Int)] w (Same (.int .i64 ((1 + i / 64 : Nat) : Int)) w) := by
  have e : (((1 + i / 64 : Nat) : Int)) = 1 + (i : Int) / 64 := by omega
  rw [e]
  clear e
  go_enter Try.func45, Try.ntmps45
  go_wp2
  go_ret
  exact ⟨rfl, rfl⟩

/-- A log at a block, over a disk. -/
def Lg (w : World) (q g s : Nat) (d : Dsk) (dead : Bool) : Prop :=
  Box w q 68 #[.pointer (some ⟨g, 0, none⟩), .bool dead] ∧ Dk w g s d ∧ q ≠ g ∧ q ≠ s ∧ d.L.length ≤ 2048
def Tri (q g s : Nat) : Nat → Prop := fun k => k = q ∨ k = g ∨ k = s
theorem Tri.two {q g s k : Nat} (h : Two g s k) : Tri q g s k := .inr h
section
variable {w w' : World} {q g s : Nat} {d : Dsk} {dead : Bool}
theorem Lg.fr {S : Nat → Prop} (h : Lg w q g s d dead) (k : Fr S w w') (hq : ∀ b, Tri q g s b → ¬ S b) : Lg w' q g s d dead :=
  ⟨h.1.fr k (hq q (.inl rfl)), h.2.1.fr k (hq g (.inr (.inl rfl))) (hq s (.inr (.inr rfl))), h.2.2⟩
theorem Lg.below (h : Lg w q g s d dead) (k : Below w.heap.size w w') : Lg w' q g s d dead := h.fr (S := fun _ => False) (Fr.of_below k) (fun _ _ => id)
theorem Lg.alloc (h : Lg w q g s d dead) (o : Obj) : Lg (w.alloc o) q g s d dead := h.below ((Below.refl _ w).alloc (Nat.le_refl _) o)
theorem Lg.drew_ (h : Lg w q g s d dead) : Lg w.drew q g s d dead := h.fr (S := fun _ => False) (Fr.refl _ w).drew (fun _ _ => id)
theorem Lg.lt (h : Lg w q g s d dead) : q < w.heap.size ∧ g < w.heap.size ∧ s < w.heap.size := ⟨h.1.lt, h.2.1.lt.1, h.2.1.lt.2⟩
theorem Lg.cells (h : Lg w q g s d dead) : w.cell? ⟨q, 0, none⟩ = some (.pointer (some ⟨g, 0, none⟩)) ∧ w.cell? ⟨q, 1, none⟩ = some (.bool dead) ∧ w.frozen? ⟨q, 1, none⟩ = false := ⟨h.1.cell 0, h.1.cell 1, h.1.frozen 1⟩
theorem Lg.dead_ (h : Lg w q g s d dead) (b : Bool) : Lg (w.setCell ⟨q, 1, none⟩ (.bool b)) q g s d b ∧ Fr (Tri q g s) w (w.setCell ⟨q, 1, none⟩ (.bool b)) := by
  have hf : Fr (fun k => k = q) w (w.setCell ⟨q, 1, none⟩ (.bool b)) := (Fr.refl (fun k => k = q) w).set_ (p := ⟨q, 1, none⟩) rfl _
  exact ⟨⟨h.1.set_ 1 _, h.2.1.fr hf (Ne.symm h.2.2.1) (Ne.symm h.2.2.2.1), h.2.2⟩, hf.mono fun k hk => .inl hk⟩
/-- The disk has turned. -/
theorem Lg.disk {d' : Dsk} (h : Lg w q g s d dead) (k : Dk w' g s d') (f : Fr (Two g s) w w') (hl : d'.L.length = d.L.length) : Lg w' q g s d' dead ∧ Fr (Tri q g s) w w' :=
  ⟨⟨h.1.fr f (fun k => k.elim h.2.2.1 h.2.2.2.1), k, h.2.2.1, h.2.2.2.1, by rw [hl]; exact h.2.2.2.2⟩, f.mono fun _ => Tri.two⟩

set_option maxRecDepth 100000 in
set_option maxHeartbeats 400000 in
theorem lsectors_all (h : Lg w q g s d dead) : Calls Try.prog 25 #[.pointer (some ⟨q, 0, none⟩)] w (Same (.int .i64 (room d.L.length : Nat)) w) := by
  obtain ⟨c0, c1, _⟩ := h.cells
  have hl := h.2.2.2.2
  go_enter Try.func25, Try.ntmps25
  go_wp2_with fail
  refine (sectors_all h.2.1).mono ?_
  rintro e w' ⟨rfl, rfl⟩
  go_wp2_with fail
  refine (room_all _ w (by omega)).mono ?_
  rintro e w' ⟨rfl, rfl⟩
  go_wp2
  go_ret
  exact ⟨rfl, rfl⟩
set_option maxRecDepth 100000 in
set_option maxHeartbeats 400000 in
theorem spare_all (i : Nat) (h : Lg w q g s d dead) (hn : 4 ≤ d.L.length) (hi : i ≤ 1000000) : Calls Try.prog 44 #[.pointer (some ⟨q, 0, none⟩), .int .i64 (i : Int)] w (Same (.int .i64 ((spareAt d.L.length i : Nat) : Int)) w) := by
  have hl := h.2.2.2.2
  have hr := room_pos hn
  have hr2 := room_lt (n := d.L.length)
  have e1 : ((room d.L.length : Nat) : Int) - 1 = ((room d.L.length - 1 : Nat) : Int) := by omega
  have e2 : ((spareAt d.L.length i : Nat) : Int) = ((1 + (room d.L.length - 1) / 64 : Nat) : Int) + 1 + (i : Int) := by unfold spareAt; omega
  rw [e2]
  clear e2
  generalize hR : room d.L.length = R at *
  have hS := lsectors_all h
  rw [hR] at hS
  have HS := Lib.hid hS
  clear hS hR
  have hb : (1 + (R - 1) / 64) ≤ 100000 := by omega
  go_enter Try.func44, Try.ntmps44
  go_wp2_with fail
  refine HS.out.mono ?_
  rintro e w' ⟨rfl, rfl⟩
  go_wp2_with fail
  refine (indexOf_all (R - 1) w (by omega)).mono ?_
  rintro e w' ⟨rfl, rfl⟩
  go_wp2
  go_ret
  exact ⟨ret_int (by omega), rfl⟩
set_option maxRecDepth 100000 in
set_option maxHeartbeats 400000 in
theorem data_all (j : Nat) (h : Lg w q g s d dead) (hn : 4 ≤ d.L.length) (hj : j ≤ 1000000) : Calls Try.prog 37 #[.pointer (some ⟨q, 0, none⟩), .int .i64 (j : Int)] w (Same (.int .i64 ((dataAt d.L.length j : Nat) : Int)) w) := by
  have hl := h.2.2.2.2
  have hr2 := room_lt (n := d.L.length)
  have e2 : ((dataAt d.L.length j : Nat) : Int) = ((spareAt d.L.length (room d.L.length) : Nat) : Int) + (j : Int) := by unfold dataAt; omega
  rw [e2]
  clear e2
  have hb : spareAt d.L.length (room d.L.length) ≤ 100000 := by unfold spareAt; omega
  go_enter Try.func37, Try.ntmps37
  go_wp2_with fail
  refine (lsectors_all h).mono ?_
  rintro e w' ⟨rfl, rfl⟩
  go_wp2_with fail
  refine (spare_all _ h hn (by omega)).mono ?_
  rintro e w' ⟨rfl, rfl⟩
  generalize spareAt d.L.length (room d.L.length) = Y at *
  go_wp2
  go_ret
  exact ⟨rfl, rfl⟩
set_option maxRecDepth 100000 in
set_option maxHeartbeats 400000 in
theorem has_all (at_ : Int) (h : Lg w q g s d dead) : Calls Try.prog 35 #[.pointer (some ⟨q, 0, none⟩), .int .i64 at_] w (Same (.bool (decide (0 ≤ at_ ∧ at_ < (room d.L.length : Nat)))) w) := by
  by_cases h0 : 0 ≤ at_
  · have b1 : decide (0 ≤ at_) = true := by simpa using h0
    have e : decide (0 ≤ at_ ∧ at_ < (room d.L.length : Nat)) = decide (at_ < ((room d.L.length : Nat) : Int)) := by simp [h0]
    rw [e]
    clear e
    go_enter Try.func35, Try.ntmps35
    go_wp2_with fail
    refine (lsectors_all h).mono ?_
    rintro e w' ⟨rfl, rfl⟩
    go_wp2
    go_ret
    exact ⟨rfl, rfl⟩
  · have b1 : decide (0 ≤ at_) = false := by simpa using h0
    have e : decide (0 ≤ at_ ∧ at_ < (room d.L.length : Nat)) = false := by simp [h0]
    rw [e]
    clear e
    go_enter Try.func35, Try.ntmps35
    go_wp2
    go_ret
    exact ⟨rfl, rfl⟩

def LPost (v : Value) (q g s : Nat) (d : Dsk) (dead : Bool) (w : World) (e : Ending) (w' : World) : Prop := e = .returned v ∧ Lg w' q g s d dead ∧ Fr (Tri q g s) w w'
set_option maxRecDepth 100000 in
set_option maxHeartbeats 400000 in
theorem usable_all (h : Lg w q g s d dead) : Calls Try.prog 31 #[.pointer (some ⟨q, 0, none⟩)] w (LPost (.bool (!(dead || !d.on))) q g s d (dead || !d.on) w) := by
  obtain ⟨c0, c1, f1⟩ := h.cells
  have hz := h.dead_ (dead || !d.on)
  cases dead
  · simp only [Bool.false_or] at hz ⊢
    go_enter Try.func31, Try.ntmps31
    go_wp2_with fail
    refine (on_all h.2.1).mono ?_
    rintro e w' ⟨rfl, rfl⟩
    clear h
    go_wp2
    go_ret
    exact ⟨ret_bool (by simp), hz⟩
  · simp only [Bool.true_or] at hz ⊢
    clear h
    go_enter Try.func31, Try.ntmps31
    go_wp2
    go_ret
    exact ⟨rfl, hz⟩

/-- A write to the disk: the power fails, or not. -/
def er (d : Dsk) : Int := if d.on = true then 0 else 6
theorem er_on {d : Dsk} (h : d.on = true) : er d = 0 := if_pos h
theorem er_off {d : Dsk} (h : d.on = false) : er d = 6 := if_neg (by rw [h]; simp)
set_option maxRecDepth 100000 in
set_option maxHeartbeats 400000 in
theorem lwrite_all (k : Nat) (A : Option Addr) (b : List UInt8) (c : Nat) (h : Lg w q g s d dead) (ho : d.on = true) (hk : k < d.L.length) (hb : b.length = 256) (hi : i64 d.left) (hwr : 0 ≤ d.wr ∧ d.wr ≤ 1000000000) (hL : Lie w A b) (hA : ∀ ad, A = some ad → ¬ Two g s ad.block) :
    Calls Try.prog 43 #[.pointer (some ⟨q, 0, none⟩), .int .i64 (k : Int), .slice A 256 c] w (LPost (.int .i64 (er (d.write (k : Int) b))) q g s (d.write (k : Int) b) (!(d.write (k : Int) b).on) w) := by
  obtain ⟨c0, c1, f1⟩ := h.cells
  have hw := write_on ho hk hb
  by_cases hl : d.left = 0
  · rw [if_pos hl] at hw
    rw [hw, er_off rfl]
    have hbad : ¬ d.Bad (k : Int) := by unfold Dsk.Bad; omega
    have e2 : (!d.off.on) = true := rfl
    rw [e2]
    clear hw e2
    go_enter Try.func43, Try.ntmps43
    go_wp2_with fail
    refine (write_dead (k : Int) A c h.2.1 ho hbad hl).mono ?_
    rintro e w1 ⟨rfl, h1, f1⟩
    obtain ⟨h2, f2⟩ := h.disk h1 f1 rfl
    obtain ⟨c0, c1, f3⟩ := h2.cells
    obtain ⟨h4, f4⟩ := h2.dead_ true
    have f5 := f2.trans f4
    clear h h1 f1 f2 f4 h2 hL hA
    go_wp2
    go_ret
    exact ⟨rfl, h4, f5⟩
  · rw [if_neg hl] at hw
    have hon : (d.put k b).on = true := ho
    rw [hw, er_on hon, hon]
    have e2 : (!true) = false := rfl
    rw [e2]
    clear hw e2
    have HW := Lib.hid (write_ok k A b c w g s d h.2.1 ho hk hb hl hi hwr hL hA)
    rw [hb] at HW
    go_enter Try.func43, Try.ntmps43
    go_wp2_with fail
    refine HW.out.mono ?_
    rintro e w1 ⟨rfl, h1, f1⟩
    obtain ⟨h2, f2⟩ := h.disk h1 f1 (by simp [Dsk.put])
    obtain ⟨c0, c1, f3⟩ := h2.cells
    obtain ⟨h4, f4⟩ := h2.dead_ false
    have f5 := f2.trans f4
    clear h h1 f1 f2 f4 h2 hL hA HW
    go_wp2
    go_ret
    exact ⟨rfl, h4, f5⟩
end
end Go.Proofs.Ytkklplccngdalaa.Dk
