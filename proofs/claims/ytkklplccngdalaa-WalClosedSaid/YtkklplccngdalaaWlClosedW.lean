/-
  WalClosed, walked.
-/
import Derived.Test.YtkklplccngdalaaWlL4
namespace Go.Proofs.Ytkklplccngdalaa.Dk
open Go.RowKit

set_option maxRecDepth 100000 in
set_option maxHeartbeats 1000000 in
theorem closed_bad (n : Int) (w : World) (h : n < 1 ∨ 2048 < n) : Calls Try.prog 7 #[.int .i64 n] w (TruePost w) := by
  have HA := Lib.hid (awake_all w)
  go_enter Try.func7, Try.ntmps7
  go_wp2_with fail
  refine HA.out.mono ?_
  rintro e w1 ⟨rfl, hb1⟩
  go_wp2_with fail
  refine (open_nil w1).mono ?_
  rintro e w' ⟨rfl, rfl⟩
  go_wp2_with fail
  refine (new_bad n w1 h).mono ?_
  rintro e w' ⟨rfl, rfl⟩
  go_wp2
  go_ret
  exact ⟨rfl, hb1⟩

theorem cut_off_left (n : Nat) : ((new n).cut 0).left = 0 := rfl
set_option maxRecDepth 100000 in
set_option maxHeartbeats 2000000 in
theorem closed_small (n : Nat) (w : World) (h1 : 1 ≤ n) (h2 : n < 4) : Calls Try.prog 7 #[.int .i64 (n : Int)] w (TruePost w) := by
  have HA := Lib.hid (awake_all w)
  have hmk := run_make256
  have hln := new_len n
  have b1 : decide ((n : Int) < 4) = true := by simp; omega
  go_enter Try.func7, Try.ntmps7
  go_wp2_with fail
  refine HA.out.mono ?_
  rintro e w1 ⟨rfl, hb1⟩
  go_wp2_with fail
  refine (open_nil w1).mono ?_
  rintro e w' ⟨rfl, rfl⟩
  go_wp2_with fail
  refine (new_ok n w1 h1 (by omega)).mono ?_
  rintro e w2 ⟨g, s, rfl, hg, hs, k2, hb2⟩
  have hB2 := hb1.trans (hb2.mono hb1.size)
  have hsz := hb1.size
  clear hb1 hb2
  go_wp2_with fail
  refine (cut_all 0 k2).mono ?_
  rintro e w3 ⟨rfl, k3, f3⟩
  have hB3 := hB2.trans (f3.below hB2.size (fun b hb => by rcases hb with rfl | rfl <;> omega))
  have hL3 : ((new n).cut 0).L.length = n := hln
  have ho3 : ((new n).cut 0).on = true := rfl
  have hl3 : ((new n).cut 0).left = 0 := rfl
  clear k2 f3 hB2
  generalize (new n).cut 0 = D3 at *
  have k4 := k3.below ((Below.refl _ w3).alloc (Nat.le_refl _) (.cells (u8C (full 0)).toArray 5))
  have hB4 := hB3.alloc hB3.size (.cells (u8C (full 0)).toArray 5)
  have HW := Lib.hid (write_dead 0 (some ⟨w3.heap.size, 0, none⟩) 256 k4 ho3 (by unfold Dsk.Bad; omega) hl3)
  clear k3 k4 hB3
  generalize u8C (full 0) = cs at *
  go_wp2_with fail
  clear hmk
  generalize w3.alloc (.cells cs.toArray 5) = w4 at *
  refine HW.out.mono ?_
  rintro e w5 ⟨rfl, k5, f5⟩
  have hB5 := hB4.trans (f5.below hB4.size (fun b hb => by rcases hb with rfl | rfl <;> omega))
  clear HW f5 hB4
  go_wp2_with fail
  refine (open_small k5 (by show D3.L.length < 4; omega)).mono ?_
  rintro e w' ⟨rfl, rfl⟩
  go_wp2
  go_ret
  exact ⟨rfl, hB5⟩
set_option maxRecDepth 100000 in
set_option maxHeartbeats 2000000 in
theorem closed_ok (n : Nat) (w : World) (h1 : 4 ≤ n) (h2 : n ≤ 2048) : Calls Try.prog 7 #[.int .i64 (n : Int)] w (TruePost w) := by
  have HA := Lib.hid (awake_all w)
  have hmk := run_make256
  have hln := new_len n
  have b1 : decide ((n : Int) < 4) = false := by simp; omega
  have hS := St.new h1
  go_enter Try.func7, Try.ntmps7
  go_wp2_with fail
  refine HA.out.mono ?_
  rintro e w1 ⟨rfl, hb1⟩
  go_wp2_with fail
  refine (open_nil w1).mono ?_
  rintro e w' ⟨rfl, rfl⟩
  go_wp2_with fail
  refine (new_ok n w1 (by omega) (by omega)).mono ?_
  rintro e w2 ⟨g, s, rfl, hg, hs, k2, hb2⟩
  have hB2 := hb1.trans (hb2.mono hb1.size)
  have hsz := hb1.size
  clear hb1 hb2
  go_wp2_with fail
  refine (cut_all 0 k2).mono ?_
  rintro e w3 ⟨rfl, k3, f3⟩
  have hB3 := hB2.trans (f3.below hB2.size (fun b hb => by rcases hb with rfl | rfl <;> omega))
  have hL3 : ((new n).cut 0).L.length = n := hln
  have hS3 : St n ((new n).cut 0).L (List.replicate (room n) (full 0)) := hS
  have ho3 : ((new n).cut 0).on = true := rfl
  have hl3 : ((new n).cut 0).left = 0 := rfl
  clear k2 f3 hB2 hS hln
  generalize (new n).cut 0 = D3 at *
  have k4 := k3.below ((Below.refl _ w3).alloc (Nat.le_refl _) (.cells (u8C (full 0)).toArray 5))
  have hB4 := hB3.alloc hB3.size (.cells (u8C (full 0)).toArray 5)
  have HW := Lib.hid (write_dead 0 (some ⟨w3.heap.size, 0, none⟩) 256 k4 ho3 (by unfold Dsk.Bad; omega) hl3)
  clear k3 k4 hB3
  have hh3 := hS3.2.1
  clear hS3
  generalize u8C (full 0) = cs at *
  go_wp2_with fail
  clear hmk
  generalize w3.alloc (.cells cs.toArray 5) = w4 at *
  refine HW.out.mono ?_
  rintro e w5 ⟨rfl, k5, f5⟩
  have hB5 := hB4.trans (f5.below hB4.size (fun b hb => by rcases hb with rfl | rfl <;> omega))
  clear HW f5 hB4
  go_wp2_with fail
  refine (open_off k5 rfl (by show 4 ≤ D3.L.length; omega) (by show D3.L.length ≤ 2048; omega)).mono ?_
  rintro e w6 ⟨rfl, hb6⟩
  have k6 := k5.below hb6
  have hB6 := hB5.trans (hb6.mono hB5.size)
  clear k5 hB5 hb6
  go_wp2_with fail
  refine (up_all k6).mono ?_
  rintro e w7 ⟨rfl, k7, f7⟩
  have hB7 := hB6.trans (f7.below hB6.size (fun b hb => by rcases hb with rfl | rfl <;> omega))
  clear k6 hB6 f7
  have HO := Lib.hid (open_st k7 rfl (by show 4 ≤ D3.L.length; omega) (by show D3.L.length ≤ 2048; omega) hh3)
  have hL7 : D3.off.up.L.length = n := hL3
  clear k7
  generalize D3.off.up = D7 at *
  go_wp2_with fail
  refine HO.out.mono ?_
  rintro e w8 ⟨q, rfl, hq, hLg, hb8⟩
  have hB8 := hB7.trans (hb8.mono hB7.size)
  have HS := Lib.hid (lsectors_all hLg)
  rw [hL7] at HS
  have HR := Lib.hid (room_all n w8 (by omega))
  clear HO hLg hb8 hB7
  generalize room n = R at *
  go_wp2_with fail
  refine HS.out.mono ?_
  rintro e w' ⟨rfl, rfl⟩
  go_wp2_with fail
  refine HR.out.mono ?_
  rintro e w' ⟨rfl, rfl⟩
  go_wp2
  go_ret
  exact ⟨rfl, hB8⟩
theorem closed_walk (n : Int) (w : World) (_hi : i64 n) : Calls Try.prog 7 #[.int .i64 n] w (TruePost w) := by
  by_cases h : n < 1 ∨ 2048 < n
  · exact closed_bad n w h
  · obtain ⟨k, rfl⟩ : ∃ k : Nat, n = (k : Int) := ⟨n.toNat, by omega⟩
    by_cases h4 : k < 4
    · exact closed_small k w (by omega) h4
    · exact closed_ok k w (by omega) (by omega)
end Go.Proofs.Ytkklplccngdalaa.Dk
