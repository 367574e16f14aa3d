/-
  The walk of ExprLines, for any two numbers.
-/
import Derived.Test.YtknkoaghffhfhaaDoorExLnN
import Derived.Test.YtknkoaghffhfhaaDoorExLnS
namespace Go.Proofs.YtknkoaghffhfhaaDoor.Ep
open Go.RowKit Lx

theorem lines_in (i k : Nat) (hi : i < 13) (hk : k < 13) (w : World) (hTab : Tab w) (hO : Ops w) :
    Calls Tryd.prog 6 #[.int .i64 i, .int .i64 k] w fun e w' => e = .returned (.bool true) ∧ Below w.heap.size w w' := by
  have hall := ln_all ⟨i, hi⟩ ⟨k, hk⟩
  unfold lnOK at hall
  simp only at hall
  generalize hp : parseP (lnT i k) = r at hall
  obtain ⟨t, f, a⟩ := r
  match t, hp, hall with
  | none, hp, _ => exact lines_none i k hi hk w hTab hO f a hp
  | some (.mk op n nm [x, y]), hp, _ => exact lines_some i k hi hk w hTab hO op n nm x y f a hp
  | some (.mk op n nm []), _, hall => cases hall
  | some (.mk op n nm [x]), _, hall => cases hall
  | some (.mk op n nm (x :: y :: z :: r)), _, hall => cases hall

set_option maxRecDepth 100000 in
set_option maxHeartbeats 4000000 in
theorem lines_out (i k : Int) (w : World) (hTab : Tab w) (hO : Ops w) (h : i < 0 ∨ (0 ≤ i ∧ 13 ≤ i) ∨ (0 ≤ i ∧ i < 13 ∧ k < 0) ∨ (0 ≤ i ∧ i < 13 ∧ 0 ≤ k ∧ 13 ≤ k)) :
    Calls Tryd.prog 6 #[.int .i64 i, .int .i64 k] w fun e w' => e = .returned (.bool true) ∧ Below w.heap.size w w' := by
  rcases h with h | ⟨h, h'⟩ | ⟨h, h', h''⟩ | ⟨h, h', h'', h3⟩
  all_goals
    go_enter Tryd.func6, Tryd.ntmps6
    go_wp2_with fail
    refine (awake_any _ hO hTab).mono ?_
    rintro e w1 ⟨rfl, hb1⟩
    go_wp2
    go_ret
    exact ⟨rfl, (hb1.alloc hb1.size _).alloc (by have := hb1.size; simp; omega) _⟩

theorem lines_any (i k : Int) (w : World) (_h1 : -9223372036854775808 ≤ i) (_h2 : i ≤ 9223372036854775807) (_h3 : -9223372036854775808 ≤ k) (_h4 : k ≤ 9223372036854775807) (hTab : Tab w) (hO : Ops w) :
    Calls Tryd.prog 6 #[.int .i64 i, .int .i64 k] w fun e w' => e = .returned (.bool true) ∧ Below w.heap.size w w' := by
  by_cases h : 0 ≤ i ∧ i < 13 ∧ 0 ≤ k ∧ k < 13
  · have := lines_in i.toNat k.toNat (by omega) (by omega) w hTab hO
    rw [show ((i.toNat : Nat) : Int) = i by omega, show ((k.toNat : Nat) : Int) = k by omega] at this
    exact this
  · exact lines_out i k w hTab hO (by omega)
end Go.Proofs.YtknkoaghffhfhaaDoor.Ep
