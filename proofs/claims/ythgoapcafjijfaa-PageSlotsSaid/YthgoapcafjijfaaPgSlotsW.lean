/-
  PageSlots, walked.
-/
import Derived.Test.YthgoapcafjijfaaPgL1
import Derived.Test.YthgoapcafjijfaaPgR1
namespace Go.Proofs.Ythgoapcafjijfaa.Pg
open Go.RowKit

set_option maxRecDepth 100000 in
set_option maxHeartbeats 1000000 in
theorem slotsW (s : ByteArray) (A : Option Addr) (l : List UInt8) (c : Nat) (w : World) (_hs : s.size ≤ maxLen) (_hc : l.length ≤ c) (_hm : c ≤ maxLen) (_hl : Lie w A l) :
    Calls Try.prog 5 #[.string s, .slice A l.length c] w (TruePost w) := by
  have HS : Hid (∀ wx, s.size ≤ 1000000 → l.length ≤ 1000000 → Calls Try.prog 18 #[.agg #[.string s, .slice A l.length c]] wx (Val (.int .i64 ((slotsP (s, l) : Nat) : Int)) wx)) := fun wx h1 h2 => slots_all (s, l) A c wx h1 h2
  have HR : Hid (∀ wx, Calls Try.prog 19 #[.agg #[.string s, .slice A l.length c]] wx (Val (.int .i64 ((slotsP (s, l) : Nat) : Int)) wx)) := fun wx => refSlots_all (s, l) A c wx
  generalize slotsP (s, l) = S at *
  generalize hn : s.size = n at *
  generalize l.length = m at *
  by_cases h1 : 10000 < n
  · have d1 : decide ((10000 : Int) < (n : Int)) = true := decide_eq_true (by omega)
    go_enter Try.func5, Try.ntmps5
    go_wp2_with fail
    refine (awake_all w).mono ?_
    rintro e w1 ⟨rfl, hb1⟩
    go_wp2
    all_goals first | (exfalso; omega) | skip
    go_ret
    exact ⟨rfl, hb1⟩
  · have d1 : decide ((10000 : Int) < (n : Int)) = false := decide_eq_false (by omega)
    by_cases h2 : 10000 < m
    · have d2 : decide ((10000 : Int) < (m : Int)) = true := decide_eq_true (by omega)
      go_enter Try.func5, Try.ntmps5
      go_wp2_with fail
      refine (awake_all w).mono ?_
      rintro e w1 ⟨rfl, hb1⟩
      go_wp2
      all_goals first | (exfalso; omega) | skip
      go_ret
      exact ⟨rfl, hb1⟩
    · have d2 : decide ((10000 : Int) < (m : Int)) = false := decide_eq_false (by omega)
      go_enter Try.func5, Try.ntmps5
      go_wp2_with fail
      refine (awake_all w).mono ?_
      rintro e w1 ⟨rfl, hb1⟩
      have hx1 := Box.new w1 37 #[.string s, .slice A m c]
      have hb2 := hb1.alloc hb1.size (.cells #[.string s, .slice A m c] 37)
      go_wp2_with fail
      generalize w1.alloc (.cells #[.string s, .slice A m c] 37) = w2 at *
      have c0 : w2.drew.cell? ⟨w1.heap.size, 0, none⟩ = some (.string s) := hx1.cell 0
      have c1 : w2.drew.cell? ⟨w1.heap.size, 1, none⟩ = some (.slice A m c) := hx1.cell 1
      go_region_held (fun w' => w'.cell? ⟨w1.heap.size, 0, none⟩ = some (.string s) ∧ w'.cell? ⟨w1.heap.size, 1, none⟩ = some (.slice A m c)) (first | exact ⟨c0, c1⟩ | exact ⟨e0, e1⟩ | exact ⟨f0, f1⟩ | assumption)
        (first | (go_at_call 18; refine (HS.out _ (by omega) (by omega)).mono ?_; rintro e w3 ⟨rfl, hb3⟩; have hx3 := hx1.drew.below hb3 hx1.drew.lt; have e0 : w3.cell? ⟨w1.heap.size, 0, none⟩ = some (.string s) := hx3.cell 0; have e1 : w3.cell? ⟨w1.heap.size, 1, none⟩ = some (.slice A m c) := hx3.cell 1; have hB3 := hb2.drew.trans (hb3.mono (by exact hb2.size))) | (go_at_call 19; refine (HR.out _).mono ?_; rintro e w4 ⟨rfl, hb4⟩; have hx4 := hx3.below hb4 hx3.lt; have f0 : w4.cell? ⟨w1.heap.size, 0, none⟩ = some (.string s) := hx4.cell 0; have f1 : w4.cell? ⟨w1.heap.size, 1, none⟩ = some (.slice A m c) := hx4.cell 1; have hB4 := hB3.trans (hb4.mono (by exact hB3.size))))
      all_goals go_wp2
      all_goals go_ret
      all_goals exact ⟨rfl, hB4⟩
end Go.Proofs.Ythgoapcafjijfaa.Pg
