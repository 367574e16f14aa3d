/-
  The contract of the laws' own awake.
-/
import Derived.Test.YtjhbeebednahhaaDkW4
namespace Go.Proofs.Ytjhbeebednahhaa.Dk
open Go.RowKit

def TruePost (w : World) (e : Ending) (w' : World) : Prop := e = .returned (.bool true) ∧ Below w.heap.size w w'

theorem new_len (n : Nat) : (new n).L.length = n := List.length_replicate
theorem err_ok {d : Dsk} {k : Int} (h1 : d.on = true) (h2 : 0 ≤ k) (h3 : k < d.L.length) (h4 : d.left ≠ 0) : d.err k 256 = 0 := by
  unfold Dsk.err
  rw [if_neg (by rw [h1]; simp), if_neg (by unfold Dsk.Bad; simp; omega), if_neg h4]
theorem write_put {d : Dsk} {k : Int} {b : List UInt8} (h1 : d.on = true) (h2 : 0 ≤ k) (h3 : k < d.L.length) (h4 : d.left ≠ 0) (h5 : b.length = 256) : d.write k b = d.put k.toNat b := by
  unfold Dsk.write
  rw [if_neg (by rw [h1]; simp), if_neg (by unfold Dsk.Bad; simp; omega), if_neg h4]
theorem err_dead {d : Dsk} {k : Int} (h1 : d.on = true) (h2 : 0 ≤ k) (h3 : k < d.L.length) (h4 : d.left = 0) : d.err k 256 = 6 := by
  unfold Dsk.err
  rw [if_neg (by rw [h1]; simp), if_neg (by unfold Dsk.Bad; simp; omega), if_pos h4]
theorem write_off_ {d : Dsk} {k : Int} {b : List UInt8} (h1 : d.on = true) (h2 : 0 ≤ k) (h3 : k < d.L.length) (h4 : d.left = 0) (h5 : b.length = 256) : d.write k b = d.off := by
  unfold Dsk.write
  rw [if_neg (by rw [h1]; simp), if_neg (by unfold Dsk.Bad; simp; omega), if_pos h4]

def FullP (l : List UInt8) (w : World) (e : Ending) (w' : World) : Prop :=
  ∃ g, e = .returned (.slice (some ⟨g, 0, none⟩) 256 256) ∧ w.heap.size ≤ g ∧ Box w' g 5 (u8C l).toArray ∧ Below w.heap.size w w'
/-- Full, its bytes under a name. -/
theorem full_l (n : Int) (x : UInt8) (l : List UInt8) (w : World) (hn : n = (x.toNat : Int)) (hl : l = full x) : Calls Try.prog 13 #[.int .u8 n] w (FullP l w) := by
  subst hn
  subst hl
  exact full_all x w

section
variable {w : World} {g s : Nat} {d : Dsk}
/-- Write of 256 bytes that lie in a block of their own. -/
theorem write_box (n : Int) (gb : Nat) (t : TypeId) (b : List UInt8) (c : Nat) (h : Dk w g s d) (hi : i64 d.left) (hwr : 0 ≤ d.wr ∧ d.wr ≤ 1000000000) (hx : Box w gb t (u8C b).toArray) (hb : b.length = 256) (h1 : gb ≠ g) (h2 : gb ≠ s) :
    Calls Try.prog 12 #[.pointer (some ⟨g, 0, none⟩), .int .i64 n, .slice (some ⟨gb, 0, none⟩) 256 c] w (DPost (.int .i64 (d.err n 256)) g s (d.write n b) w) := by
  have := write_all n (some ⟨gb, 0, none⟩) b c h hi hwr (full_lie hx) (fun ad e => by
    injection e with e
    subst e
    exact fun k => k.elim h1 h2)
  rw [hb] at this
  exact this
theorem conv_box {gb : Nat} {t : TypeId} {b : List UInt8} (c : Nat) (hx : Box w gb t (u8C b).toArray) (hb : b.length = 256) : (convert 31 9 (.slice (some ⟨gb, 0, none⟩) 256 c)).run Try.prog w = .ok (.string ⟨b.toArray⟩) w := by
  have := conv_lie c (full_lie hx)
  rw [hb] at this
  exact this
theorem read_at (n : Int) (k : Nat) (l : List UInt8) (h : Dk w g s d) (ho : d.on = true) (hn : n = (k : Int)) (hl : d.L[k]? = some l) :
    Calls Try.prog 22 #[.pointer (some ⟨g, 0, none⟩), .int .i64 n] w (ReadPost l w) := by
  obtain ⟨hk, rfl⟩ := List.getElem?_eq_some_iff.1 hl
  subst hn
  exact read_ok k h ho hk
end

set_option maxRecDepth 100000 in
set_option maxHeartbeats 4000000 in
theorem awake_all (w : World) : Calls Try.prog 7 #[] w (TruePost w) := by
  go_enter Try.func7, Try.ntmps7
  go_wp2_with fail
  refine (new_ok 2 w (by omega) (by omega)).mono ?_
  rintro e w1 ⟨g, s, rfl, hg, hs, h1, hb1⟩
  go_wp2_with fail
  refine (sectors_all h1).mono ?_
  rintro e w' ⟨rfl, rfl⟩
  rw [new_len]
  go_wp2_with fail
  refine (on_all h1).mono ?_
  rintro e w' ⟨rfl, rfl⟩
  have hon : (new 2).on = true := rfl
  rw [hon]
  clear hon
  go_wp2_with fail
  refine (full_all 7 w1).mono ?_
  rintro e w2 ⟨g7, rfl, hg7, hx7, hb2⟩
  have h2 := h1.below hb2
  have hl1 := h1.lt
  have hc2 := hb1.trans (hb2.mono hb1.size)
  clear h1 hb1 hb2
  go_wp2_with fail
  refine (write_box 1 g7 _ (full 7) 256 h2 (by unfold i64; show _ ∧ _; decide) (by show _ ∧ _; decide) hx7 (full_len 7) (by omega) (by omega)).mono ?_
  rintro e w3 ⟨rfl, h3, f3⟩
  rw [err_ok rfl (by omega) (by rw [new_len]; omega) (by unfold new; simp)]
  rw [write_put rfl (by omega) (by rw [new_len]; omega) (by unfold new; simp) (full_len 7)] at h3
  have hc3 := hc2.trans (f3.below hc2.size (fun b hb => by rcases hb with rfl | rfl <;> omega))
  clear h2 hc2 f3 hx7
  go_wp2_with fail
  refine (read_at 1 1 (full 7) h3 rfl rfl rfl).mono ?_
  rintro e w4 ⟨g4, rfl, hg4, hx4, hb4⟩
  have h4 := h3.below hb4
  have hl3 := h3.lt
  have hc4 := hc3.trans (hb4.mono hc3.size)
  clear h3 hc3 hb4
  go_wp2_with fail
  refine (cut_all 0 h4).mono ?_
  rintro e w5 ⟨rfl, h5, f5⟩
  have hx5 := hx4.fr f5 (fun k => by rcases k with rfl | rfl <;> omega)
  have hc5 := hc4.trans (f5.below hc4.size (fun b hb => by rcases hb with rfl | rfl <;> omega))
  clear h4 hx4 hc4 f5
  go_wp2_with fail
  refine (full_all 8 w5).mono ?_
  rintro e w6 ⟨g8, rfl, hg8, hx8, hb6⟩
  have h6 := h5.below hb6
  have hx6 := hx5.below hb6 hx5.lt
  have hl5 := h5.lt
  have hc6 := hc5.trans (hb6.mono hc5.size)
  clear h5 hx5 hc5 hb6
  go_wp2_with fail
  refine (write_box 0 g8 _ (full 8) 256 h6 (by unfold i64; show _ ∧ _; decide) (by show _ ∧ _; decide) hx8 (full_len 8) (by omega) (by omega)).mono ?_
  rintro e w7 ⟨rfl, h7, f7⟩
  rw [err_dead rfl (by omega) (by decide) rfl]
  rw [write_off_ rfl (by omega) (by decide) rfl (full_len 8)] at h7
  have hx7 := hx6.fr f7 (fun k => by rcases k with rfl | rfl <;> omega)
  have hc7 := hc6.trans (f7.below hc6.size (fun b hb => by rcases hb with rfl | rfl <;> omega))
  clear h6 hx6 hc6 f7 hx8
  go_wp2_with fail
  refine (on_all h7).mono ?_
  rintro e w' ⟨rfl, rfl⟩
  have hoff : (((new 2).put (1 : Int).toNat (full 7)).cut 0).off.on = false := rfl
  rw [hoff]
  clear hoff
  go_wp2_with fail
  refine (up_all h7).mono ?_
  rintro e w8 ⟨rfl, h8, f8⟩
  have hx8 := hx7.fr f8 (fun k => by rcases k with rfl | rfl <;> omega)
  have hc8 := hc7.trans (f8.below hc7.size (fun b hb => by rcases hb with rfl | rfl <;> omega))
  clear h7 hx7 hc7 f8
  go_wp2_with fail
  refine (read_at 0 0 (full 0) h8 rfl rfl rfl).mono ?_
  rintro e w9 ⟨g9, rfl, hg9, hx9, hb9⟩
  have h9 := h8.below hb9
  have hx10 := hx8.below hb9 hx8.lt
  have hc9 := hc8.trans (hb9.mono hc8.size)
  clear h8 hx8 hc8 hb9
  have HW : Hid (∀ w : World, Dk w g s ((((new 2).put (1 : Int).toNat (full 7)).cut 0).off.up) → Calls Try.prog 17 #[.pointer (some ⟨g, 0, none⟩)] w (Same (.int .i64 1) w)) := fun _ h => writes_all h
  generalize ((((new 2).put (1 : Int).toNat (full 7)).cut 0).off.up) = D at *
  have H7 : Hid (∀ w, Calls Try.prog 13 #[.int .u8 7] w (FullP (full 7) w)) := fun w => full_l 7 7 _ w rfl rfl
  have H0 : Hid (∀ w, Calls Try.prog 13 #[.int .u8 0] w (FullP (full 0) w)) := fun w => full_l 0 0 _ w rfl rfl
  have l7 := full_len 7
  have l0 := full_len 0
  generalize full 7 = F7 at *
  generalize full 0 = F0 at *
  have L7 := Lib.hid l7
  have L0 := Lib.hid l0
  clear l7 l0
  have cv4 := conv_box 256 hx10.drew L7.out
  have cv9 := conv_box 256 hx9.drew L0.out
  go_wp2_with fail
  go_region_held (fun w' => (convert 31 9 (.slice (some ⟨g4, 0, none⟩) 256 256)).run Try.prog w' = .ok (.string ⟨F7.toArray⟩) w' ∧ (convert 31 9 (.slice (some ⟨g9, 0, none⟩) 256 256)).run Try.prog w' = .ok (.string ⟨F0.toArray⟩) w') (first | exact ⟨cv4, cv9⟩ | exact ⟨cv5, cv10⟩ | exact ⟨cv6, cv11⟩ | assumption)
    (first | (go_at_call 13; (with_reducible refine (H7.out _).mono ?_); rintro e wA ⟨gA, rfl, hgA, hxA, hbA⟩; have cvA := conv_box 256 hxA L7.out; have hx12 := hx10.drew.below hbA (by exact hx10.lt); have cv5 := conv_box 256 hx12 L7.out; have hx11 := hx9.drew.below hbA (by exact hx9.lt); have cv10 := conv_box 256 hx11 L0.out; have h10 := h9.drew_.below hbA; have hc10 := hc9.drew.trans (hbA.mono (by exact hc9.size))) | (go_at_call 13; (with_reducible refine (H0.out wA).mono ?_); rintro e wB ⟨gB, rfl, hgB, hxB, hbB⟩; have cvB := conv_box 256 hxB L0.out; have cv6 := conv_box 256 (hx12.below hbB hx12.lt) L7.out; have cv11 := conv_box 256 (hx11.below hbB hx11.lt) L0.out; have h11 := h10.below hbB; have hc11 := hc10.trans (hbB.mono (by exact hc10.size))) | (go_at_call 17; (with_reducible refine (HW.out wB h11).mono ?_); rintro e w' ⟨rfl, rfl⟩))
  go_wp2
  go_ret
  exact ⟨rfl, hc11⟩
end Go.Proofs.Ytjhbeebednahhaa.Dk
