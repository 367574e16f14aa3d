/-
  The contract of the laws' own small; Made, of a group of the argument.
-/
import Derived.Test.YtkklplccngdalaaWlL4
import Derived.Test.YtkklplccngdalaaWlO
namespace Go.Proofs.Ytkklplccngdalaa.Dk
open Go.RowKit

def smallP (l : List Gp) (most : Nat) : Prop := l.length ≤ most ∧ ∀ p ∈ l, p.ats.length ≤ 40 ∧ p.odd.length ≤ 5
instance (l : List Gp) (most : Nat) : Decidable (smallP l most) := inferInstanceAs (Decidable (_ ∧ _))
def SmRel (l : List Gp) (w : World) (i : Value) (wr : World) : Prop := ∃ k : Nat, i = .int .i64 (k : Int) ∧ k ≤ l.length ∧ (∀ p ∈ l.take k, p.ats.length ≤ 40 ∧ p.odd.length ≤ 5) ∧ w = wr
set_option maxRecDepth 100000 in
set_option maxHeartbeats 1000000 in
theorem small_all (B : Nat) (A : Option Addr) (l : List Gp) (c most : Nat) (w : World) (h : Gps B w A l) (_hc : l.length ≤ c) (_hm : c ≤ maxLen) (hmost : most ≤ 100) :
    Calls Try.prog 11 #[.slice A l.length c, .int .i64 (most : Int)] w (Same (.bool (decide (smallP l most))) w) := by
  by_cases hgt : most < l.length
  · have b1 : decide ((most : Int) < (l.length : Int)) = true := by simp; omega
    have hd : decide (smallP l most) = false := decide_eq_false fun h => by have := h.1; omega
    rw [hd]
    clear hd h
    go_enter Try.func11, Try.ntmps11
    go_wp2
    all_goals first | (exfalso; omega) | skip
    go_ret
    exact ⟨rfl, rfl⟩
  · have b1 : decide ((most : Int) < (l.length : Int)) = false := by simp; omega
    have hnl : ¬ most < l.length := hgt
    go_enter Try.func11, Try.ntmps11
    go_wp2
    all_goals first | (exfalso; omega) | skip
    go_loopw [5] (SmRel l w) (fun i _ => l.length - (intOf i).toNat)
    case atStart => exact ⟨0, rfl, by omega, by simp, rfl⟩
    case round =>
      obtain ⟨k, rfl, hk, hall, rfl⟩ := hrel
      by_cases hlt : k < l.length
      · obtain ⟨ad, v0, v1, v2, rfl, g0, g1, g2, A1, c1, A2, c2, rfl, rfl, rfl, r4, r5, r6, r7, _⟩ := h.at_ hlt
        have hk0 : (0 : Int) ≤ (k : Int) := Int.natCast_nonneg _
        have hkl : (k : Int) < (l.length : Int) := by omega
        have hmem := List.getElem_mem hlt
        have htk := take_snoc hlt
        have HN : Hid (¬ (l[k].ats.length ≤ 40 ∧ l[k].odd.length ≤ 5) → decide (smallP l most) = false) := fun hn => decide_eq_false fun h => hn (h.2 _ hmem)
        have HS : Hid (l[k].ats.length ≤ 40 ∧ l[k].odd.length ≤ 5 → ∀ p ∈ l.take (k + 1), p.ats.length ≤ 40 ∧ p.odd.length ≤ 5) := fun ho p hp => by
          rw [htk] at hp
          rcases List.mem_append.1 hp with hp | hp
          · exact hall p hp
          · rw [List.mem_singleton.1 hp]
            exact ho
        clear h hmem htk hall
        generalize l[k].ats.length = n1 at *
        generalize l[k].odd.length = n2 at *
        by_cases h40 : n1 ≤ 40
        · have b3 : decide ((40 : Int) < (n1 : Int)) = false := by simp; omega
          by_cases h5 : n2 ≤ 5
          · have b4 : decide ((5 : Int) < (n2 : Int)) = false := by simp; omega
            go_wp2
            all_goals first | (exfalso; omega) | skip
            go_roundw
            case rel => exact ⟨k + 1, by go_num, by omega, HS.out ⟨h40, h5⟩, rfl⟩
            case measure => simp [intOf]; omega
          · have b4 : decide ((5 : Int) < (n2 : Int)) = true := by simp; omega
            have hd := HN.out (fun h => h5 h.2)
            go_wp2
            all_goals first | (exfalso; omega) | skip
            go_ret
            exact ⟨ret_bool hd.symm, rfl⟩
        · have b3 : decide ((40 : Int) < (n1 : Int)) = true := by simp; omega
          have hd := HN.out (fun h => h40 h.1)
          go_wp2
          all_goals first | (exfalso; omega) | skip
          go_ret
          exact ⟨ret_bool hd.symm, rfl⟩
      · obtain rfl : k = l.length := by omega
        rw [List.take_length] at hall
        have hd : decide (smallP l most) = true := decide_eq_true ⟨by omega, hall⟩
        clear h
        go_wp2
        go_ret
        exact ⟨ret_bool hd.symm, rfl⟩

theorem made_gp {B : Nat} {w : World} {v0 v1 v2 : Value} {p : Gp} {X : Nat → Prop} (h : GpVal B w v0 v1 v2 p) (hX : ∀ b, X b → B ≤ b ∧ b < w.heap.size) (hn : p.ats.length + p.odd.length ≤ 3000000) :
    Calls Try.prog 14 #[.agg #[v0, v1, v2]] w (MadePost X p.made w) := by
  obtain ⟨A1, c1, A2, c2, rfl, rfl, rfl, r4, r5, r6, r7, r8, r9, ra⟩ := h
  exact made_all X A1 A2 p.ats p.x p.odd c1 c2 w r8 (ra.mono fun b _ hx => (hX b hx).1) (fun b hx => (hX b hx).2) r4 r6 r5 r7 hn
theorem made_len {p : Gp} : p.made.length = p.ats.length + p.odd.length := by unfold Gp.made madeG; rw [List.length_append, madeT_len]
end Go.Proofs.Ytkklplccngdalaa.Dk
