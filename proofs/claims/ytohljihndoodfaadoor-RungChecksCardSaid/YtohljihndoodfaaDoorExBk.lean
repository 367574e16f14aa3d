/-
  The contracts of the document's Weight and of the laws' Light: that they answer; what they answer is not asked.
-/
import Derived.Test.YtohljihndoodfaaDoorExC
namespace Go.Proofs.YtohljihndoodfaaDoor.Ep
open Go.RowKit Lx

def WtPost (w : World) (e : Ending) (w' : World) : Prop := ∃ z : Int, e = .returned (.int .i64 z) ∧ 0 ≤ z ∧ z ≤ 400 ∧ Below w.heap.size w w'
def WtRel (len : Nat) (w0 : World) (B : Nat) (m i : Value) (wr : World) : Prop := ∃ (z : Int) (k : Nat), k ≤ len ∧ i = .int .i64 (k : Int) ∧ m = .int .i64 z ∧ -1 ≤ z ∧ z ≤ 400 ∧ Below B w0 wr

set_option maxRecDepth 100000 in
set_option maxHeartbeats 4000000 in
theorem weight_any (t : Ex) : ∀ (lo : Nat → Prop) (v : Value) (m : Int) (w : World), TreeV lo w t v → -1 ≤ m → m ≤ 400 → Calls Tryd.prog 17 #[v, .int .i64 m] w (WtPost w) := by
  induction t using Ex.ind with
  | h op n nm ks ih =>
    intro lo v m w hT hm1 hm2
    have IH := Lib.hid ih
    clear ih
    unfold TreeV at hT
    obtain ⟨a, cap, rfl, hcap, hk⟩ := hT
    have HK := Lib.hid hk
    clear hk
    generalize hL : ks.length = len at *
    have HL := Lib.hid hL
    clear hL
    unfold exV
    generalize hnm : (⟨nm.toArray⟩ : ByteArray) = nb at *
    clear hnm
    by_cases h1 : m < (len : Int)
    · have b1 : decide (m < (len : Int)) = true := by simpa using h1
      clear IH HK
      go_enter Tryd.func17, Tryd.ntmps17
      go_wp2
      all_goals first | (exfalso; omega) | skip
      go_ret
      exact ⟨0, rfl, by omega, by omega, (Below.refl _ _).alloc (Nat.le_refl _) _⟩
    · have b1 : decide (m < (len : Int)) = false := by simpa using h1
      by_cases h2 : (200 : Int) < (nb.size : Int)
      · have b2 : decide ((200 : Int) < (nb.size : Int)) = true := by simpa using h2
        clear IH HK
        go_enter Tryd.func17, Tryd.ntmps17
        go_wp2
        all_goals first | (exfalso; omega) | skip
        go_ret
        exact ⟨0, rfl, by omega, by omega, (Below.refl _ _).alloc (Nat.le_refl _) _⟩
      · have b2 : decide ((200 : Int) < (nb.size : Int)) = false := by simpa using h2
        have hb0 : Below (w.heap.size + 1) (w.alloc (.cells #[.int .i64 op, .int .i64 n, .string nb, .slice a len cap] 34)) (w.alloc (.cells #[.int .i64 op, .int .i64 n, .string nb, .slice a len cap] 34)) := Below.refl _ _
        go_enter Tryd.func17, Tryd.ntmps17
        go_wp2
        all_goals first | (exfalso; omega) | skip
        go_loopw [1, 5] (WtRel len (w.alloc (.cells #[.int .i64 op, .int .i64 n, .string nb, .slice a len cap] 34)) (w.heap.size + 1)) (fun _ i _ => len - (intOf i).toNat)
        case atStart => exact ⟨m - 1, 0, by omega, rfl, rfl, by omega, by omega, hb0⟩
        case round =>
          obtain ⟨z, k, hkl, rfl, rfl, hz1, hz2, hbr⟩ := hrel
          clear hb0
          have b3 : wr.cell? ⟨w.heap.size, 3, none⟩ = some (.slice a len cap) := by rw [hbr.cell (by simp)]; simp
          have hsz : w.heap.size < wr.heap.size := by have := hbr.size; simp at this; omega
          have hbw : Below w.heap.size w wr := (((Below.refl _ _).alloc (Nat.le_refl _) _).trans (hbr.mono (by simp)))
          by_cases hlt : k < len
          · by_cases hz : 0 < z
            · have bz : decide (0 < z) = true := by simpa using hz
              have hne : ks ≠ [] := by intro e; have := HL.out; rw [e] at this; simp at this; omega
              obtain ⟨g, off, rfl, hg1, hg2, hTL⟩ := HK.out hne
              have hTr := TreeL.keep (w' := wr) hbw.size (fun b _ hb => hbw.block b hb) g hg1 hg2 off ks hTL
              have hki : k < ks.length := by rw [HL.out]; exact hlt
              obtain ⟨ka, kcap, c0, c1, c2, c3, hkt⟩ := TreeL.at_ ks off k hki hTr
              have hIH := Lib.hid (IH.out (ks[k]) (List.getElem_mem hki) lo _ z wr hkt hz1 hz2)
              have hk0 : (0 : Int) ≤ (k : Int) := Int.natCast_nonneg _
              have hkl2 : (k : Int) < (len : Int) := by omega
              unfold exV at hIH
              generalize ks[k] = kid at *
              clear hTr hTL hkt
              go_wp2_with fail
              refine hIH.out.mono ?_
              rintro e w2 ⟨z2, rfl, q1, q2, hb2⟩
              have hb3 := hbr.trans (hb2.mono (by omega))
              clear hIH hb2 hbr hbw
              go_wp2
              go_roundw
              case rel => exact ⟨z2, k + 1, by omega, by go_num, rfl, by omega, by omega, hb3⟩
              case measure => simp [intOf]; omega
            · have bz : decide (0 < z) = false := by simpa using hz
              have hkl2 : (k : Int) < (len : Int) := by omega
              by_cases hneg : z < 0
              · have bn : decide (z < 0) = true := by simpa using hneg
                go_wp2
                all_goals first | (exfalso; omega) | skip
                go_ret
                exact ⟨0, rfl, by omega, by omega, hbw⟩
              · have bn : decide (z < 0) = false := by simpa using hneg
                go_wp2
                all_goals first | (exfalso; omega) | skip
                go_ret
                exact ⟨z, rfl, by omega, by omega, hbw⟩
          · obtain rfl : k = len := by omega
            by_cases hneg : z < 0
            · have bn : decide (z < 0) = true := by simpa using hneg
              go_wp2
              all_goals first | (exfalso; omega) | skip
              go_ret
              exact ⟨0, rfl, by omega, by omega, hbw⟩
            · have bn : decide (z < 0) = false := by simpa using hneg
              go_wp2
              all_goals first | (exfalso; omega) | skip
              go_ret
              exact ⟨z, rfl, by omega, by omega, hbw⟩

end Go.Proofs.YtohljihndoodfaaDoor.Ep
