/-
  The contract of the document's own Class.
-/
import Derived.Test.YtinocaggponpmaaGreatDoorLexW1
import Derived.Lib.Hide
import Derived.LoopTactic
namespace Go.Proofs.YtinocaggponpmaaGreatDoor.Lx
open Go.RowKit

def sgI (k : Nat) : Int := [40, 41, 123, 125, 44, 59, 58, 61, 43, 45, 42, 47, 37, 60, 62, 33, 38, 124].getD k 0
theorem sg_at : ∀ k : Fin 18, (((⟨#[40, 41, 123, 125, 44, 59, 58, 61, 43, 45, 42, 47, 37, 60, 62, 33, 38, 124]⟩ : ByteArray)[k.val]'(by have := k.isLt; exact this)).toNat : Int) = sgI k.val := by decide
theorem sg_index (k : Nat) (hk : k < 18) (W : World) :
    (Instr.index 9 (.string ⟨#[40, 41, 123, 125, 44, 59, 58, 61, 43, 45, 42, 47, 37, 60, 62, 33, 38, 124]⟩) (.int .i64 (k : Int))).run Tryz.prog W = .ok (.int .u8 (sgI k)) W := by
  have h := run_index_string (P := Tryz.prog) (w := W) 9 ⟨#[40, 41, 123, 125, 44, 59, 58, 61, 43, 45, 42, 47, 37, 60, 62, 33, 38, 124]⟩ .i64 (k : Int) Tryz.underlying9
  rw [dif_pos ⟨by omega, by show (k : Int) < 18; omega⟩] at h
  rw [h, ← sg_at ⟨k, hk⟩]
  simp
theorem sgI_bound : ∀ k : Fin 18, 0 ≤ sgI k.val ∧ sgI k.val ≤ 255 := by decide
theorem signI_iff (r : Int) : signI r = true ↔ ∃ k : Fin 18, sgI k.val = r := by
  constructor
  · intro h
    simp only [signI, decide_eq_true_eq] at h
    rcases h with rfl | rfl | rfl | rfl | rfl | rfl | rfl | rfl | rfl | rfl | rfl | rfl | rfl | rfl | rfl | rfl | rfl | rfl
    all_goals decide
  · rintro ⟨k, rfl⟩
    revert k
    decide

set_option maxHeartbeats 4000000 in
theorem refClass_any (r : Int) (w : World) :
    Calls Tryz.prog 70 #[.int .i64 r] w fun e w' => e = .returned (.int .i64 (clsI r)) ∧ w = w' := by
  by_cases hbl : r = 32 ∨ r = 9 ∨ r = 13 ∨ r = 10 ∨ r = 34 ∨ r = 35 ∨ r = 95
  · rcases hbl with rfl | rfl | rfl | rfl | rfl | rfl | rfl
    all_goals
      go_enter Tryz.func70, Tryz.ntmps70
      go_wp2
      go_ret
      exact ⟨ret_int (by decide), rfl⟩
  · have b1 : (r == 32) = false := by simp; omega
    have b2 : (r == 9) = false := by simp; omega
    have b3 : (r == 13) = false := by simp; omega
    have b4 : (r == 10) = false := by simp; omega
    have b5 : (r == 34) = false := by simp; omega
    have b6 : (r == 35) = false := by simp; omega
    have b7 : (r == 95) = false := by simp; omega
    by_cases hd : (48 ≤ r ∧ r ≤ 57) ∨ (65 ≤ r ∧ r ≤ 90) ∨ (97 ≤ r ∧ r ≤ 122) ∨ (192 ≤ r ∧ r ≤ 591 ∧ ¬ r = 215 ∧ ¬ r = 247)
    · rcases hd with ⟨x1, x2⟩ | ⟨x1, x2⟩ | ⟨x1, x2⟩ | ⟨x1, x2, x3, x4⟩
      · have HC : Hid (clsI r = 3) := by
          unfold Hid clsI signI letterI digitI; simp only [decide_eq_true_eq, Bool.or_eq_true, Bool.and_eq_true, Bool.not_eq_true', decide_eq_false_iff_not]
          rw [if_neg (by omega), if_neg (by omega), if_neg (by omega), if_neg (by omega), if_neg (by omega), if_pos (by omega)]
        clear hbl
        go_enter Tryz.func70, Tryz.ntmps70
        go_wp2
        go_ret
        exact ⟨ret_int HC.out.symm, rfl⟩
      all_goals
        have HC : Hid (clsI r = 2) := by
          unfold Hid clsI signI letterI digitI; simp only [decide_eq_true_eq, Bool.or_eq_true, Bool.and_eq_true, Bool.not_eq_true', decide_eq_false_iff_not]
          rw [if_neg (by omega), if_neg (by omega), if_neg (by omega), if_neg (by omega), if_pos (by omega)]
        clear hbl
        try (have y3 : (r != 215) = true := by simp [x3])
        try (have y4 : (r != 247) = true := by simp [x4])
        try clear x3 x4
        go_enter Tryz.func70, Tryz.ntmps70
        go_wp2
        go_ret
        exact ⟨ret_int HC.out.symm, rfl⟩
    · have HC : Hid (clsI r = if signI r = true then 4 else 0) := by
        unfold Hid clsI
        rw [if_neg (by omega), if_neg (by omega), if_neg (by omega)]
        have hl : letterI r = false := by
          simp only [letterI, Bool.or_eq_false_iff, Bool.and_eq_false_iff, decide_eq_false_iff_not, Bool.not_eq_false', decide_eq_true_eq]; omega
        have hg : digitI r = false := by simp only [digitI, decide_eq_false_iff_not]; omega
        rw [hl, hg]
        simp
      have hcs : (r < 48) ∨ (58 ≤ r ∧ r ≤ 64) ∨ (91 ≤ r ∧ r ≤ 96) ∨ (123 ≤ r ∧ r ≤ 191) ∨ (215 ≤ r ∧ r ≤ 215 ∧ (r != 215) = false) ∨ (247 ≤ r ∧ r ≤ 247 ∧ (r != 215) = true ∧ (r != 247) = false) ∨ 592 ≤ r := by
        by_cases h1 : r = 215
        · subst h1; decide
        · by_cases h2 : r = 247
          · subst h2; decide
          · omega
      clear hd hbl
      rcases hcs with x | ⟨x, y⟩ | ⟨x, y⟩ | ⟨x, y⟩ | ⟨x, y, z⟩ | ⟨x, y, z, z2⟩ | x
      all_goals
        go_enter Tryz.func70, Tryz.ntmps70
        go_wp2
        go_loop [4] (fun i => ∃ k : Nat, k ≤ 18 ∧ i = .int .i64 k ∧ Hid (∀ j, j < k → sgI j ≠ r)) (fun i => 18 - (intOf i).toNat)
        case atStart => exact ⟨0, by omega, rfl, fun j hj => absurd hj (by omega)⟩
        case round =>
          obtain ⟨k, hk, rfl, HJ⟩ := hrel
          by_cases hlt : k < 18
          · have hix := sg_index k hlt
            obtain ⟨hc0, hc1⟩ := sgI_bound ⟨k, hlt⟩
            simp only at hc0 hc1
            by_cases hcr : sgI k = r
            · have HF : Hid (clsI r = 4) := by unfold Hid; rw [HC.out, if_pos ((signI_iff r).2 ⟨⟨k, hlt⟩, hcr⟩)]
              have hb : (sgI k == r) = true := by simp [hcr]
              have HR := Lib.hid hcr
              clear hcr
              go_wp2
              go_ret
              exact ⟨ret_int HF.out.symm, rfl⟩
            · have hb : (sgI k == r) = false := by simp [hcr]
              have HR := Lib.hid hcr
              clear hcr
              go_wp2
              go_round
              case rel =>
                refine ⟨k + 1, by omega, by go_num, fun j hj => ?_⟩
                by_cases he : j = k
                · rw [he]; exact HR.out
                · exact HJ.out j (by omega)
              case measure => simp [intOf]; omega
          · have HF : Hid (clsI r = 0) := by
              unfold Hid; rw [HC.out, if_neg]
              intro h
              obtain ⟨q, hq⟩ := (signI_iff r).1 h
              exact HJ.out q.val (by have := q.isLt; omega) hq
            obtain rfl : k = 18 := by omega
            go_wp2
            go_ret
            exact ⟨ret_int HF.out.symm, rfl⟩
end Go.Proofs.YtinocaggponpmaaGreatDoor.Lx
