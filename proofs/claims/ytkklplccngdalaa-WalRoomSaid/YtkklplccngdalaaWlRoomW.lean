/-
  WalRoom, walked.
-/
import Derived.Test.YtkklplccngdalaaWlL4
namespace Go.Proofs.Ytkklplccngdalaa.Dk
open Go.RowKit

set_option maxHeartbeats 400000 in
theorem room_lo (n : Int) (w : World) (h : n < 4) : Calls Try.prog 9 #[.int .i64 n] w (Same (.int .i64 0) w) := by
  go_enter Try.func9, Try.ntmps9
  go_wp2
  go_ret
  exact ⟨rfl, rfl⟩
theorem room_both (n : Int) (hn : n ≤ 100000) (hi : i64 n) : ∃ r : Nat, (∀ w, Calls Try.prog 9 #[.int .i64 n] w (Same (.int .i64 (r : Int)) w)) ∧ ∀ w, Calls Try.prog 10 #[.int .i64 n] w (Same (.int .i64 (r : Int)) w) := by
  unfold i64 at hi
  by_cases h0 : n < 0
  · exact ⟨0, fun w => room_lo n w (by omega), fun w => rroom_neg n w h0 hi.1⟩
  · obtain ⟨k, rfl⟩ : ∃ k : Nat, n = (k : Int) := ⟨n.toNat, by omega⟩
    exact ⟨room k, fun w => room_all k w (by omega), fun w => rroom_all k w (by omega)⟩

set_option maxRecDepth 100000 in
set_option maxHeartbeats 1000000 in
theorem room_walk (n : Int) (w : World) (hi : i64 n) : Calls Try.prog 3 #[.int .i64 n] w (TruePost w) := by
  have HA := Lib.hid (awake_all w)
  by_cases hn : 100000 < n
  · have b1 : decide ((100000 : Int) < n) = true := by simpa using hn
    clear hi
    go_enter Try.func3, Try.ntmps3
    go_wp2_with fail
    refine HA.out.mono ?_
    rintro e w1 ⟨rfl, hb1⟩
    go_wp2
    go_ret
    exact ⟨rfl, hb1⟩
  · have b1 : decide ((100000 : Int) < n) = false := by simpa using hn
    obtain ⟨r, h1, h2⟩ := room_both n (by omega) hi
    have H1 := Lib.hid h1
    have H2 := Lib.hid h2
    clear h1 h2 hi
    go_enter Try.func3, Try.ntmps3
    go_wp2_with fail
    refine HA.out.mono ?_
    rintro e w1 ⟨rfl, hb1⟩
    go_wp2_with fail
    refine (H1.out _).mono ?_
    rintro e w' ⟨rfl, rfl⟩
    go_wp2_with fail
    refine (H2.out _).mono ?_
    rintro e w' ⟨rfl, rfl⟩
    go_wp2
    go_ret
    exact ⟨rfl, hb1⟩
end Go.Proofs.Ytkklplccngdalaa.Dk
