/-
  The contract of the laws' own alike.
-/
import Derived.Test.YtjhbeebednahhaaDkR2
namespace Go.Proofs.Ytjhbeebednahhaa.Dk
open Go.RowKit

def AlikeRel (d : Dsk) (g s g' s' : Nat) (w : World) (i : Value) (wr : World) : Prop :=
  ∃ k : Nat, i = .int .i64 (k : Int) ∧ k ≤ d.L.length ∧ Dk wr g s d ∧ Rk wr g' s' d ∧ Below w.heap.size w wr

def OffRel (w : World) (i : Value) (wr : World) : Prop := i = .int .i64 0 ∧ w = wr

theorem Dk.each {w : World} {g s : Nat} {d : Dsk} (h : Dk w g s d) : ∀ x ∈ d.L, x.length = 256 := h.2.2.2.1

set_option maxRecDepth 100000 in
set_option maxHeartbeats 4000000 in
theorem alike_all (g s g' s' : Nat) (d : Dsk) (w : World) (hD : Dk w g s d) (hR : Rk w g' s' d) (h0 : 1 ≤ d.L.length) (h1 : d.L.length ≤ 2048) :
    Calls Try.prog 18 #[.pointer (some ⟨g, 0, none⟩), .pointer (some ⟨g', 0, none⟩)] w (TruePost w) := by
  obtain ⟨cap, hc1, hc2, c0, c1, _, c3, _⟩ := hR.cells
  cases ho : d.on with
  | false =>
    rw [ho] at c1
    simp only [Bool.not_false] at c1
    have HO := Lib.hid ho
    clear ho
    have hon := on_all hD.drew_
    rw [HO.out] at hon
    have HON := Lib.hid hon
    clear hon
    have HR : Hid (Rk w.drew g' s' d) := hR.drew_
    have hbr : ((d.L.length : Int) != (d.L.length : Int)) = false := by simp
    go_enter Try.func18, Try.ntmps18
    go_wp2_with fail
    go_region_held (fun w' => w'.cell? ⟨g', 0, none⟩ = some (.slice (some ⟨s', 0, none⟩) d.L.length cap) ∧ w'.cell? ⟨g', 1, none⟩ = some (.bool true) ∧ w'.cell? ⟨g', 3, none⟩ = some (.int .i64 d.wr)) (first | exact ⟨c0, c1, c3⟩ | assumption)
      (first | (go_at_call 23; (with_reducible refine (sectors_all (by exact hD.drew_)).mono ?_); rintro e w' ⟨rfl, rfl⟩) | (go_at_call 16; (with_reducible refine HON.out.mono ?_); rintro e w' ⟨rfl, rfl⟩) | (go_at_call 17; (with_reducible refine (writes_all (by exact hD.drew_)).mono ?_); rintro e w' ⟨rfl, rfl⟩))
    go_wp2_with fail
    go_loopw [5] (OffRel w.drew) (fun _ _ => 0)
    case atStart => exact ⟨rfl, rfl⟩
    case round =>
      obtain ⟨rfl, rfl⟩ := hrel
      have b1 : decide ((0 : Int) < (d.L.length : Int)) = true := by simp; omega
      have b2 : 0 < d.L.length := h0
      go_wp2
      go_ret
      exact ⟨rfl, (Below.refl _ _).drew⟩
  | true =>
    rw [ho] at c1
    simp only [Bool.not_true] at c1
    have HO := Lib.hid ho
    clear ho
    have hon := on_all hD.drew_
    rw [HO.out] at hon
    have HON := Lib.hid hon
    clear hon
    have HR : Hid (Rk w.drew g' s' d) := hR.drew_
    have hbr : ((d.L.length : Int) != (d.L.length : Int)) = false := by simp
    go_enter Try.func18, Try.ntmps18
    go_wp2_with fail
    go_region_held (fun w' => w'.cell? ⟨g', 0, none⟩ = some (.slice (some ⟨s', 0, none⟩) d.L.length cap) ∧ w'.cell? ⟨g', 1, none⟩ = some (.bool false) ∧ w'.cell? ⟨g', 3, none⟩ = some (.int .i64 d.wr)) (first | exact ⟨c0, c1, c3⟩ | assumption)
      (first | (go_at_call 23; (with_reducible refine (sectors_all (by exact hD.drew_)).mono ?_); rintro e w' ⟨rfl, rfl⟩) | (go_at_call 16; (with_reducible refine HON.out.mono ?_); rintro e w' ⟨rfl, rfl⟩) | (go_at_call 17; (with_reducible refine (writes_all (by exact hD.drew_)).mono ?_); rintro e w' ⟨rfl, rfl⟩))
    have hD1 := hD.drew_
    clear HON hD hR c0 c1 c3
    go_wp2_with fail
    go_loopw [5] (AlikeRel d g s g' s' w) (fun i _ => d.L.length - (intOf i).toNat)
    case atStart => exact ⟨0, rfl, by omega, hD1, HR.out, (Below.refl _ _).drew⟩
    case round =>
      obtain ⟨k, rfl, hk, hDk, hRk, hbw⟩ := hrel
      clear hD1 HR
      obtain ⟨cap', _, _, c0, c1, _⟩ := hRk.cells
      rw [HO.out] at c1
      simp only [Bool.not_true] at c1
      by_cases hlt : k < d.L.length
      · have b5 : (k : Int) < (d.L.length : Int) := by omega
        have HLk : Hid (d.L[k]? = some d.L[k]) := List.getElem?_eq_getElem hlt
        have HLn : Hid (d.L[k].length = 256) := hDk.each _ (List.getElem_mem hlt)
        have HT : Hid (∀ w', Rk w' g' s' d → w'.cell? ⟨s', k, none⟩ = some (.string ⟨d.L[k].toArray⟩)) := fun w' h => (h.2.2.2 k hlt).1
        go_wp2_with fail
        refine (read_at (k : Int) k _ hDk HO.out rfl HLk.out).mono ?_
        rintro e w5 ⟨g5, rfl, hg5, hx5, hb5⟩
        have hD5 := hDk.below hb5
        have hR5 := hRk.below hb5
        have hc5 := hbw.trans (hb5.mono hbw.size)
        have t5 := HT.out _ hR5
        have d0 : w5.cell? ⟨g', 0, none⟩ = some (.slice (some ⟨s', 0, none⟩) d.L.length cap') := (hb5.cell (p := ⟨g', 0, none⟩) hRk.lt.1).trans c0
        clear hDk hRk hbw hb5 c0 c1 HLk HT
        generalize d.L[k] = F at *
        have cv5 := conv_box 256 hx5.drew HLn.out
        have k0 : (0 : Int) ≤ (k : Int) := by omega
        go_wp2_with fail
        go_region_held (fun w' => (convert 31 9 (.slice (some ⟨g5, 0, none⟩) 256 256)).run Try.prog w' = .ok (.string ⟨F.toArray⟩) w' ∧ w'.cell? ⟨g', 0, none⟩ = some (.slice (some ⟨s', 0, none⟩) d.L.length cap') ∧ w'.cell? ⟨s', k, none⟩ = some (.string ⟨F.toArray⟩)) (first | exact ⟨cv5, d0, t5⟩ | assumption) (fail)
        have hD6 := hD5.drew_
        have hR6 := hR5.drew_
        have hc6 := hc5.drew
        clear cv5 d0 t5 hD5 hR5 hc5 hx5
        go_wp2
        go_roundw
        case rel => exact ⟨k + 1, by go_num, by omega, hD6, hR6, hc6⟩
        case measure => simp [intOf]; omega
      · have b6 : decide ((k : Int) < (d.L.length : Int)) = false := by simp; omega
        have b7 : decide (k < d.L.length) = false := by simp; omega
        go_wp2
        go_ret
        exact ⟨rfl, hbw⟩
end Go.Proofs.Ytjhbeebednahhaa.Dk
