/-
  The contract of the laws' own Same, at two rows of the same tokens.
-/
import Derived.Test.YtbbebnbofalmlaaDoorLexK
import Derived.BigQuiet
import Derived.LoopN
import Derived.Deep.QuietTactic
namespace Go.Proofs.YtbbebnbofalmlaaDoor.Lx
open Go.RowKit

set_option maxHeartbeats 4000000 in
theorem Same_rows (g c g' c' : Nat) (L : List Tok) (w : World) (hl : L.length ≤ 100000) (_h1 : L.length ≤ c) (_h2 : L.length ≤ c')
    (hc : ∀ k (_hk : k < L.length), w.cell? ⟨g, k * 4, none⟩ = some (.int .i64 (L.getD k zTok).kind) ∧ w.cell? ⟨g, k * 4 + 1, none⟩ = some (.string ⟨(L.getD k zTok).text.toArray⟩) ∧
      w.cell? ⟨g, k * 4 + 2, none⟩ = some (.int .i64 (L.getD k zTok).n) ∧ w.cell? ⟨g, k * 4 + 3, none⟩ = some (.int .i64 (L.getD k zTok).at_))
    (hc' : ∀ k (_hk : k < L.length), w.cell? ⟨g', k * 4, none⟩ = some (.int .i64 (L.getD k zTok).kind) ∧ w.cell? ⟨g', k * 4 + 1, none⟩ = some (.string ⟨(L.getD k zTok).text.toArray⟩) ∧
      w.cell? ⟨g', k * 4 + 2, none⟩ = some (.int .i64 (L.getD k zTok).n) ∧ w.cell? ⟨g', k * 4 + 3, none⟩ = some (.int .i64 (L.getD k zTok).at_)) :
    Calls Tryd.prog 15 #[.slice (some ⟨g, 0, none⟩) L.length c, .slice (some ⟨g', 0, none⟩) L.length c'] w fun e w' => e = .returned (.bool true) ∧ Below w.heap.size w w' := by
  have HC := Lib.hid hc
  have HC' := Lib.hid hc'
  clear hc hc'
  have t0 : ((L.length : Int) != (L.length : Int)) = false := by simp
  go_enter Tryd.func15, Tryd.ntmps15
  go_wp2
  go_loopw [5] (fun i wr => ∃ k : Nat, k ≤ L.length ∧ i = .int .i64 k ∧ ∃ n, wr = w.drewN n) (fun i _ => L.length - (intOf i).toNat)
  case atStart => exact ⟨0, by omega, rfl, 0, rfl⟩
  case round =>
    obtain ⟨k, hk, rfl, nd, rfl⟩ := hrel
    by_cases hlt : k < L.length
    · obtain ⟨x0, x1, x2, x3⟩ := HC.out k hlt
      obtain ⟨y0, y1, y2, y3⟩ := HC'.out k hlt
      generalize L.getD k zTok = x at *
      obtain ⟨xk, xt, xn, xa⟩ := x
      simp only at *
      clear HC HC' t0
      go_wp2
      go_quiet (fail)
      go_wp2
      go_roundw
      case rel => exact ⟨k + 1, by omega, by go_num, _, rfl⟩
      case measure => simp [intOf]; omega
    · go_wp2
      go_ret
      exact ⟨rfl, below_drewN (Below.refl _ _) _⟩

set_option maxHeartbeats 4000000 in
theorem Same_none (A A' : Option Addr) (c c' : Nat) (w : World) :
    Calls Tryd.prog 15 #[.slice A 0 c, .slice A' 0 c'] w fun e w' => e = .returned (.bool true) ∧ Below w.heap.size w w' := by
  go_enter Tryd.func15, Tryd.ntmps15
  go_wp2
  refine wp_loop_rounds 1 ?_
  rw [rounds_succ]
  go_wp2
  go_ret
  exact ⟨rfl, Below.refl _ _⟩

/-- Two rows that own the same tokens. -/
theorem Same_own {b b' n n' c c' : Nat} {A A' : Option Addr} {L : List Tok} {w : World} (hl : L.length ≤ 100000) (h : w.ownsRow b 42 4 (.slice A n c) L.length (toksC L)) (h' : w.ownsRow b' 42 4 (.slice A' n' c') L.length (toksC L)) :
    Calls Tryd.prog 15 #[.slice A n c, .slice A' n' c'] w fun e w' => e = .returned (.bool true) ∧ Below w.heap.size w w' := by
  obtain ⟨rfl, h1, hr⟩ := own_toks h
  obtain ⟨rfl, h2, hr'⟩ := own_toks h'
  by_cases h0 : 0 < L.length
  · obtain ⟨g, rfl, _, hc⟩ := hr h0
    obtain ⟨g', rfl, _, hc'⟩ := hr' h0
    exact Same_rows g c g' c' L w hl h1 h2 hc hc'
  · have : L.length = 0 := by omega
    rw [this]
    exact Same_none A A' c c' w
end Go.Proofs.YtbbebnbofalmlaaDoor.Lx
