/-
  The law's own example: awake.
-/
import Derived.Test.YtbbebnbofalmlaaDoorLexW9
import Derived.Deep.AppendLies
namespace Go.Proofs.YtbbebnbofalmlaaDoor.Lx
open Go.RowKit

theorem cut_ex : cutL [97, 49, 32, 58, 61, 32, 50, 48, 32, 35, 32, 120] = ([⟨1, [97, 49], 0, 0⟩, ⟨4, [58, 61], 0, 3⟩, ⟨2, [50, 48], 20, 6⟩, ⟨0, [], 0, 12⟩], 0, 0) := by kernel_rfl
theorem num_ex : numberL [50, 48] = some 20 := by decide +kernel
theorem itoa_ex : Lib.itoa (-7) = [45, 55] := by
  unfold Lib.itoa
  rw [if_pos (by decide), show Int.natAbs (-7) = 7 from rfl, Lib.decDigits_one (by decide)]
  rfl

set_option maxHeartbeats 4000000 in
theorem awake_any (w : World) (ht : Tab w) :
    Calls Tryd.prog 12 #[] w fun e w' => e = .returned (.bool true) ∧ Below w.heap.size w w' := by
  go_enter Tryd.func12, Tryd.ntmps12
  go_wp2_with fail
  refine (Cut_any _ _ (by decide)).mono ?_
  rintro e w1 ⟨v, rfl, hown, hb1⟩
  rw [show (⟨#[97, 49, 32, 58, 61, 32, 50, 48, 32, 35, 32, 120]⟩ : ByteArray).data.toList = [97, 49, 32, 58, 61, 32, 50, 48, 32, 35, 32, 120] from rfl, cut_ex] at *
  have ht1 := ht.below hb1
  obtain ⟨g, cap, rfl, hg, hgl⟩ := hown.form (by decide)
  have c0 : w1.cell? ⟨g, 0, none⟩ = some (.int .i64 1) := hown.cellAt 0 (by decide)
  have c1 : w1.cell? ⟨g, 1, none⟩ = some (.string ⟨#[97, 49]⟩) := hown.cellAt 1 (by decide)
  have c2 : w1.cell? ⟨g, 2, none⟩ = some (.int .i64 0) := hown.cellAt 2 (by decide)
  have c3 : w1.cell? ⟨g, 3, none⟩ = some (.int .i64 0) := hown.cellAt 3 (by decide)
  have c8 : w1.cell? ⟨g, 8, none⟩ = some (.int .i64 2) := hown.cellAt 8 (by decide)
  have c9 : w1.cell? ⟨g, 9, none⟩ = some (.string ⟨#[50, 48]⟩) := hown.cellAt 9 (by decide)
  have c10 : w1.cell? ⟨g, 10, none⟩ = some (.int .i64 20) := hown.cellAt 10 (by decide)
  have c11 : w1.cell? ⟨g, 11, none⟩ = some (.int .i64 6) := hown.cellAt 11 (by decide)
  have c12 : w1.cell? ⟨g, 12, none⟩ = some (.int .i64 0) := hown.cellAt 12 (by decide)
  have c13 : w1.cell? ⟨g, 13, none⟩ = some (.string ⟨#[]⟩) := hown.cellAt 13 (by decide)
  have c14 : w1.cell? ⟨g, 14, none⟩ = some (.int .i64 0) := hown.cellAt 14 (by decide)
  have c15 : w1.cell? ⟨g, 15, none⟩ = some (.int .i64 12) := hown.cellAt 15 (by decide)
  clear hown
  go_wp2_with fail
  refine (Number_any _ _).mono ?_
  rintro e w2 ⟨he, hb2⟩
  rw [show (⟨#[50, 48]⟩ : ByteArray).data.toList = [50, 48] from rfl, num_ex] at he
  simp only [numE] at he
  subst he
  have ht2 := ht1.below hb2
  rw [← hb2.cell (p := ⟨g, 0, none⟩) hgl] at c0
  rw [← hb2.cell (p := ⟨g, 1, none⟩) hgl] at c1
  rw [← hb2.cell (p := ⟨g, 2, none⟩) hgl] at c2
  rw [← hb2.cell (p := ⟨g, 3, none⟩) hgl] at c3
  rw [← hb2.cell (p := ⟨g, 8, none⟩) hgl] at c8
  rw [← hb2.cell (p := ⟨g, 9, none⟩) hgl] at c9
  rw [← hb2.cell (p := ⟨g, 10, none⟩) hgl] at c10
  rw [← hb2.cell (p := ⟨g, 11, none⟩) hgl] at c11
  rw [← hb2.cell (p := ⟨g, 12, none⟩) hgl] at c12
  rw [← hb2.cell (p := ⟨g, 13, none⟩) hgl] at c13
  rw [← hb2.cell (p := ⟨g, 14, none⟩) hgl] at c14
  rw [← hb2.cell (p := ⟨g, 15, none⟩) hgl] at c15
  have hb12 := hb1.trans (hb2.mono hb1.size)
  clear hb1 hb2 ht1 ht
  go_wp2_with fail
  refine (Show_any _ _ (by decide) (by decide) ht2).mono ?_
  rintro e w3 ⟨rfl, hb3⟩
  rw [itoa_ex]
  have hb123 := hb12.trans (hb3.mono hb12.size)
  go_wp2_with fail
  go_ret
  exact ⟨rfl, hb123⟩
end Go.Proofs.YtbbebnbofalmlaaDoor.Lx
