/-
  The contract of the document's own Rune.
-/
import Derived.Test.YtinocaggponpmaaGreatDoorLexRu
import Derived.Test.YtinocaggponpmaaGreatDoorLexW2
namespace Go.Proofs.YtinocaggponpmaaGreatDoor.Lx
open Go.RowKit

theorem ret_two {a b c d : Int} (h1 : a = b) (h2 : c = d) : Ending.returned (.tuple #[.int .i64 a, .int .i64 c]) = .returned (.tuple #[.int .i64 b, .int .i64 d]) := by rw [h1, h2]

theorem pow_bound (k v : Nat) (hk1 : 1 ≤ k) (hk3 : k ≤ 3) (h : v < 32 * 64 ^ (k - 1)) : v ≤ 131071 := by
  rcases (show k = 1 ∨ k = 2 ∨ k = 3 from by omega) with rfl | rfl | rfl <;> simp at h <;> omega
theorem pow_next (k v c : Nat) (hk1 : 1 ≤ k) (hc : c < 192) (h : v < 32 * 64 ^ (k - 1)) : 64 * v + c - 128 < 32 * 64 ^ (k + 1 - 1) := by
  obtain ⟨m, rfl⟩ : ∃ m, k = m + 1 := ⟨k - 1, by omega⟩
  simp only [Nat.add_sub_cancel] at h ⊢
  rw [Nat.pow_succ]
  omega

/-- What stands behind the first byte of a rune of n bytes, as a walk through it has it. -/
def RuneRel (s : ByteArray) (i n v0 : Nat) (b k : Value) : Prop :=
  ∃ (j v : Nat), b = .int .i64 v ∧ k = .int .i64 j ∧ 1 ≤ j ∧ j ≤ n ∧ v < 32 * 64 ^ (j - 1) ∧ contF (n - j) (s.data.toList.drop (i + j)) v = contF (n - 1) (s.data.toList.drop (i + 1)) v0

set_option maxRecDepth 100000 in
set_option maxHeartbeats 8000000 in
theorem refRune_2 (s : ByteArray) (i : Nat) (w : World) (hi : i < s.size) (hs : s.size ≤ 20000) (q : Nat) (hq1 : 192 ≤ q) (hq2 : q < 224) (X : Nat × Nat)
    (hix : ∀ W, (Instr.index 9 (.string s) (.int .i64 (i : Int))).run Tryz.prog W = .ok (.int .u8 (q : Int)) W)
    (HL : Hid (s.data.toList.length = s.size)) (HE : Hid (X = finR 2 128 (q - 192) (s.data.toList.drop (i + 1)))) :
    Calls Tryz.prog 69 #[.string s, .int .i64 i] w fun e w' => e = .returned (.tuple #[.int .i64 (X.1 : Nat), .int .i64 (X.2 : Nat)]) ∧ w = w' := by
  have hlen1 : (s.data.toList.drop (i + 1)).length + 1 = s.size - i := by rw [List.length_drop, HL.out]; omega
  unfold finR at HE
  rw [hlen1] at HE
  clear hlen1
  by_cases hsh : s.size - i < 2
  · have HF : Hid (X = (0, 0)) := by unfold Hid; rw [HE.out, if_pos hsh]
    clear HE
    have hsh' : s.size < i + 2 := by omega
    clear hsh
    go_enter Tryz.func69, Tryz.ntmps69
    go_wp2
    go_ret2
    exact ⟨by rw [HF.out]; rfl, rfl⟩
  · have hsh' : i + 2 ≤ s.size := by omega
    have t0 : decide ((q : Int) < 128) = false := by simp; omega
    have t1 : decide (192 ≤ (q : Int)) = true := by simp; omega
    have t2 : decide ((q : Int) < 224) = true := by simp; omega
    have t3 : decide ((s.size : Int) - (i : Int) < 2) = false := by simp; omega
    rw [if_neg hsh] at HE
    clear hsh
    go_enter Tryz.func69, Tryz.ntmps69
    go_wp2
    clear hix
    go_loop [6, 9] (fun b k => RuneRel s i 2 (q - 192) b k) (fun _ k => 2 - (intOf k).toNat)
    case atStart => exact ⟨1, q - 192, congrArg (Value.int .i64) (by omega), rfl, by omega, by omega, by simp; omega, rfl⟩
    case round =>
      obtain ⟨j, v, rfl, rfl, hj1, hj2, hv, hI⟩ := hrel
      have HI := Lib.hid hI
      have HV := Lib.hid hv
      clear hI hv
      by_cases hlt : j < 2
      · have hix2 : ∀ W, (Instr.index 9 (.string s) (.int .i64 ((i : Int) + j))).run Tryz.prog W = .ok (.int .u8 ((s.data.toList.getD (i + j) 0).toNat : Int)) W := fun W => by
          have h := str_index s (i + j) (by omega) W
          rw [Int.natCast_add] at h
          exact h
        have HC : Hid (s.data.toList.drop (i + j) = s.data.toList.getD (i + j) 0 :: s.data.toList.drop (i + (j + 1))) := by
          unfold Hid
          rw [List.drop_eq_getElem_cons (by rw [HL.out]; omega), List.getD_eq_getElem?_getD, List.getElem?_eq_getElem (by rw [HL.out]; omega)]; rfl
        generalize s.data.toList.getD (i + j) 0 = c at *
        have hcl := c.toNat_lt
        have hvb := pow_bound j v hj1 (by omega) HV.out
        have HN : Hid (2 - j = (2 - (j + 1)) + 1) := by unfold Hid; omega
        by_cases hbad : c.toNat < 128 ∨ 192 ≤ c.toNat
        · have HF : Hid (X = (0, 0)) := by
            unfold Hid; rw [HE.out, ← HI.out, HN.out, HC.out]; simp only [contF]; rw [if_pos hbad]
          clear HN HC HI HE
          generalize c.toNat = g at *
          rcases (show g < 128 ∨ (128 ≤ g ∧ 192 ≤ g) from by omega) with h | ⟨h, h'⟩
          all_goals
            clear hbad
            go_wp2
            go_ret2
            exact ⟨by rw [HF.out]; rfl, rfl⟩
        · have HI2 : Hid (contF (2 - (j + 1)) (s.data.toList.drop (i + (j + 1))) (64 * v + c.toNat - 128) = contF (2 - 1) (s.data.toList.drop (i + 1)) (q - 192)) := by
            unfold Hid; rw [← HI.out, HN.out, HC.out]; simp only [contF]; rw [if_neg hbad]
          have HV2 := Lib.hid (pow_next j v c.toNat hj1 (by omega) HV.out)
          have hc1 : 128 ≤ c.toNat := by omega
          have hc2 : c.toNat < 192 := by omega
          clear hbad HN HC
          generalize c.toNat = g at *
          go_wp2
          go_round
          case rel => exact ⟨j + 1, 64 * v + g - 128, congrArg (Value.int .i64) (by omega), by go_num, by omega, by omega, HV2.out, HI2.out⟩
          case measure => simp [intOf]; omega
      · obtain rfl : j = 2 := by omega
        have hE2 : X = if outR 128 v then (0, 0) else (v, 2) := by
          rw [HE.out, ← HI.out]; rfl
        have hvb : v < 32 * 64 ^ (2 - 1) := HV.out
        simp only [Nat.reduceSub, Nat.reducePow, Nat.reduceMul] at hvb
        by_cases ho : outR 128 v
        · rw [if_pos ho] at hE2
          have HF := Lib.hid hE2
          clear hE2 HE HI HV
          unfold outR at ho
          rcases (show v < 128 ∨ (128 ≤ v ∧ 1114111 < v) ∨ (128 ≤ v ∧ v ≤ 1114111 ∧ 55296 ≤ v ∧ v ≤ 57343) from by omega) with h | ⟨h, h'⟩ | ⟨h, h', x, y⟩
          all_goals
            clear ho
            go_wp2
            all_goals go_ret2
            all_goals exact ⟨by rw [HF.out]; rfl, rfl⟩
        · rw [if_neg ho] at hE2
          have HF := Lib.hid hE2
          clear hE2 HE HI HV
          unfold outR at ho
          rcases (show (128 ≤ v ∧ v ≤ 1114111 ∧ v < 55296) ∨ (128 ≤ v ∧ v ≤ 1114111 ∧ 55296 ≤ v ∧ 57343 < v) from by omega) with ⟨h, h', x⟩ | ⟨h, h', x, y⟩
          all_goals
            clear ho
            go_wp2
            all_goals go_ret2
            all_goals exact ⟨by rw [HF.out]; rfl, rfl⟩

set_option maxRecDepth 100000 in
set_option maxHeartbeats 8000000 in
theorem refRune_3 (s : ByteArray) (i : Nat) (w : World) (hi : i < s.size) (hs : s.size ≤ 20000) (q : Nat) (hq1 : 224 ≤ q) (hq2 : q < 240) (X : Nat × Nat)
    (hix : ∀ W, (Instr.index 9 (.string s) (.int .i64 (i : Int))).run Tryz.prog W = .ok (.int .u8 (q : Int)) W)
    (HL : Hid (s.data.toList.length = s.size)) (HE : Hid (X = finR 3 2048 (q - 224) (s.data.toList.drop (i + 1)))) :
    Calls Tryz.prog 69 #[.string s, .int .i64 i] w fun e w' => e = .returned (.tuple #[.int .i64 (X.1 : Nat), .int .i64 (X.2 : Nat)]) ∧ w = w' := by
  have hlen1 : (s.data.toList.drop (i + 1)).length + 1 = s.size - i := by rw [List.length_drop, HL.out]; omega
  unfold finR at HE
  rw [hlen1] at HE
  clear hlen1
  by_cases hsh : s.size - i < 3
  · have HF : Hid (X = (0, 0)) := by unfold Hid; rw [HE.out, if_pos hsh]
    clear HE
    have hsh' : s.size < i + 3 := by omega
    clear hsh
    go_enter Tryz.func69, Tryz.ntmps69
    go_wp2
    go_ret2
    exact ⟨by rw [HF.out]; rfl, rfl⟩
  · have hsh' : i + 3 ≤ s.size := by omega
    have t0 : decide ((q : Int) < 128) = false := by simp; omega
    have t1 : decide (192 ≤ (q : Int)) = true := by simp; omega
    have t2 : decide ((q : Int) < 224) = false := by simp; omega
    have t3 : decide (224 ≤ (q : Int)) = true := by simp; omega
    have t4 : decide ((q : Int) < 240) = true := by simp; omega
    have t5 : decide ((s.size : Int) - (i : Int) < 3) = false := by simp; omega
    rw [if_neg hsh] at HE
    clear hsh
    go_enter Tryz.func69, Tryz.ntmps69
    go_wp2
    clear hix
    go_loop [6, 9] (fun b k => RuneRel s i 3 (q - 224) b k) (fun _ k => 3 - (intOf k).toNat)
    case atStart => exact ⟨1, q - 224, congrArg (Value.int .i64) (by omega), rfl, by omega, by omega, by simp; omega, rfl⟩
    case round =>
      obtain ⟨j, v, rfl, rfl, hj1, hj2, hv, hI⟩ := hrel
      have HI := Lib.hid hI
      have HV := Lib.hid hv
      clear hI hv
      by_cases hlt : j < 3
      · have hix2 : ∀ W, (Instr.index 9 (.string s) (.int .i64 ((i : Int) + j))).run Tryz.prog W = .ok (.int .u8 ((s.data.toList.getD (i + j) 0).toNat : Int)) W := fun W => by
          have h := str_index s (i + j) (by omega) W
          rw [Int.natCast_add] at h
          exact h
        have HC : Hid (s.data.toList.drop (i + j) = s.data.toList.getD (i + j) 0 :: s.data.toList.drop (i + (j + 1))) := by
          unfold Hid
          rw [List.drop_eq_getElem_cons (by rw [HL.out]; omega), List.getD_eq_getElem?_getD, List.getElem?_eq_getElem (by rw [HL.out]; omega)]; rfl
        generalize s.data.toList.getD (i + j) 0 = c at *
        have hcl := c.toNat_lt
        have hvb := pow_bound j v hj1 (by omega) HV.out
        have HN : Hid (3 - j = (3 - (j + 1)) + 1) := by unfold Hid; omega
        by_cases hbad : c.toNat < 128 ∨ 192 ≤ c.toNat
        · have HF : Hid (X = (0, 0)) := by
            unfold Hid; rw [HE.out, ← HI.out, HN.out, HC.out]; simp only [contF]; rw [if_pos hbad]
          clear HN HC HI HE
          generalize c.toNat = g at *
          rcases (show g < 128 ∨ (128 ≤ g ∧ 192 ≤ g) from by omega) with h | ⟨h, h'⟩
          all_goals
            clear hbad
            go_wp2
            go_ret2
            exact ⟨by rw [HF.out]; rfl, rfl⟩
        · have HI2 : Hid (contF (3 - (j + 1)) (s.data.toList.drop (i + (j + 1))) (64 * v + c.toNat - 128) = contF (3 - 1) (s.data.toList.drop (i + 1)) (q - 224)) := by
            unfold Hid; rw [← HI.out, HN.out, HC.out]; simp only [contF]; rw [if_neg hbad]
          have HV2 := Lib.hid (pow_next j v c.toNat hj1 (by omega) HV.out)
          have hc1 : 128 ≤ c.toNat := by omega
          have hc2 : c.toNat < 192 := by omega
          clear hbad HN HC
          generalize c.toNat = g at *
          go_wp2
          go_round
          case rel => exact ⟨j + 1, 64 * v + g - 128, congrArg (Value.int .i64) (by omega), by go_num, by omega, by omega, HV2.out, HI2.out⟩
          case measure => simp [intOf]; omega
      · obtain rfl : j = 3 := by omega
        have hE2 : X = if outR 2048 v then (0, 0) else (v, 3) := by
          rw [HE.out, ← HI.out]; rfl
        have hvb : v < 32 * 64 ^ (3 - 1) := HV.out
        simp only [Nat.reduceSub, Nat.reducePow, Nat.reduceMul] at hvb
        by_cases ho : outR 2048 v
        · rw [if_pos ho] at hE2
          have HF := Lib.hid hE2
          clear hE2 HE HI HV
          unfold outR at ho
          rcases (show v < 2048 ∨ (2048 ≤ v ∧ 1114111 < v) ∨ (2048 ≤ v ∧ v ≤ 1114111 ∧ 55296 ≤ v ∧ v ≤ 57343) from by omega) with h | ⟨h, h'⟩ | ⟨h, h', x, y⟩
          all_goals
            clear ho
            go_wp2
            all_goals go_ret2
            all_goals exact ⟨by rw [HF.out]; rfl, rfl⟩
        · rw [if_neg ho] at hE2
          have HF := Lib.hid hE2
          clear hE2 HE HI HV
          unfold outR at ho
          rcases (show (2048 ≤ v ∧ v ≤ 1114111 ∧ v < 55296) ∨ (2048 ≤ v ∧ v ≤ 1114111 ∧ 55296 ≤ v ∧ 57343 < v) from by omega) with ⟨h, h', x⟩ | ⟨h, h', x, y⟩
          all_goals
            clear ho
            go_wp2
            all_goals go_ret2
            all_goals exact ⟨by rw [HF.out]; rfl, rfl⟩

set_option maxRecDepth 100000 in
set_option maxHeartbeats 8000000 in
theorem refRune_4 (s : ByteArray) (i : Nat) (w : World) (hi : i < s.size) (hs : s.size ≤ 20000) (q : Nat) (hq1 : 240 ≤ q) (hq2 : q < 248) (X : Nat × Nat)
    (hix : ∀ W, (Instr.index 9 (.string s) (.int .i64 (i : Int))).run Tryz.prog W = .ok (.int .u8 (q : Int)) W)
    (HL : Hid (s.data.toList.length = s.size)) (HE : Hid (X = finR 4 65536 (q - 240) (s.data.toList.drop (i + 1)))) :
    Calls Tryz.prog 69 #[.string s, .int .i64 i] w fun e w' => e = .returned (.tuple #[.int .i64 (X.1 : Nat), .int .i64 (X.2 : Nat)]) ∧ w = w' := by
  have hlen1 : (s.data.toList.drop (i + 1)).length + 1 = s.size - i := by rw [List.length_drop, HL.out]; omega
  unfold finR at HE
  rw [hlen1] at HE
  clear hlen1
  by_cases hsh : s.size - i < 4
  · have HF : Hid (X = (0, 0)) := by unfold Hid; rw [HE.out, if_pos hsh]
    clear HE
    have hsh' : s.size < i + 4 := by omega
    clear hsh
    go_enter Tryz.func69, Tryz.ntmps69
    go_wp2
    go_ret2
    exact ⟨by rw [HF.out]; rfl, rfl⟩
  · have hsh' : i + 4 ≤ s.size := by omega
    have t0 : decide ((q : Int) < 128) = false := by simp; omega
    have t1 : decide (192 ≤ (q : Int)) = true := by simp; omega
    have t2 : decide ((q : Int) < 224) = false := by simp; omega
    have t3 : decide (224 ≤ (q : Int)) = true := by simp; omega
    have t4 : decide ((q : Int) < 240) = false := by simp; omega
    have t5 : decide (240 ≤ (q : Int)) = true := by simp; omega
    have t6 : decide ((q : Int) < 248) = true := by simp; omega
    have t7 : decide ((s.size : Int) - (i : Int) < 4) = false := by simp; omega
    rw [if_neg hsh] at HE
    clear hsh
    go_enter Tryz.func69, Tryz.ntmps69
    go_wp2
    clear hix
    go_loop [6, 9] (fun b k => RuneRel s i 4 (q - 240) b k) (fun _ k => 4 - (intOf k).toNat)
    case atStart => exact ⟨1, q - 240, congrArg (Value.int .i64) (by omega), rfl, by omega, by omega, by simp; omega, rfl⟩
    case round =>
      obtain ⟨j, v, rfl, rfl, hj1, hj2, hv, hI⟩ := hrel
      have HI := Lib.hid hI
      have HV := Lib.hid hv
      clear hI hv
      by_cases hlt : j < 4
      · have hix2 : ∀ W, (Instr.index 9 (.string s) (.int .i64 ((i : Int) + j))).run Tryz.prog W = .ok (.int .u8 ((s.data.toList.getD (i + j) 0).toNat : Int)) W := fun W => by
          have h := str_index s (i + j) (by omega) W
          rw [Int.natCast_add] at h
          exact h
        have HC : Hid (s.data.toList.drop (i + j) = s.data.toList.getD (i + j) 0 :: s.data.toList.drop (i + (j + 1))) := by
          unfold Hid
          rw [List.drop_eq_getElem_cons (by rw [HL.out]; omega), List.getD_eq_getElem?_getD, List.getElem?_eq_getElem (by rw [HL.out]; omega)]; rfl
        generalize s.data.toList.getD (i + j) 0 = c at *
        have hcl := c.toNat_lt
        have hvb := pow_bound j v hj1 (by omega) HV.out
        have HN : Hid (4 - j = (4 - (j + 1)) + 1) := by unfold Hid; omega
        by_cases hbad : c.toNat < 128 ∨ 192 ≤ c.toNat
        · have HF : Hid (X = (0, 0)) := by
            unfold Hid; rw [HE.out, ← HI.out, HN.out, HC.out]; simp only [contF]; rw [if_pos hbad]
          clear HN HC HI HE
          generalize c.toNat = g at *
          rcases (show g < 128 ∨ (128 ≤ g ∧ 192 ≤ g) from by omega) with h | ⟨h, h'⟩
          all_goals
            clear hbad
            go_wp2
            go_ret2
            exact ⟨by rw [HF.out]; rfl, rfl⟩
        · have HI2 : Hid (contF (4 - (j + 1)) (s.data.toList.drop (i + (j + 1))) (64 * v + c.toNat - 128) = contF (4 - 1) (s.data.toList.drop (i + 1)) (q - 240)) := by
            unfold Hid; rw [← HI.out, HN.out, HC.out]; simp only [contF]; rw [if_neg hbad]
          have HV2 := Lib.hid (pow_next j v c.toNat hj1 (by omega) HV.out)
          have hc1 : 128 ≤ c.toNat := by omega
          have hc2 : c.toNat < 192 := by omega
          clear hbad HN HC
          generalize c.toNat = g at *
          go_wp2
          go_round
          case rel => exact ⟨j + 1, 64 * v + g - 128, congrArg (Value.int .i64) (by omega), by go_num, by omega, by omega, HV2.out, HI2.out⟩
          case measure => simp [intOf]; omega
      · obtain rfl : j = 4 := by omega
        have hE2 : X = if outR 65536 v then (0, 0) else (v, 4) := by
          rw [HE.out, ← HI.out]; rfl
        have hvb : v < 32 * 64 ^ (4 - 1) := HV.out
        simp only [Nat.reduceSub, Nat.reducePow, Nat.reduceMul] at hvb
        by_cases ho : outR 65536 v
        · rw [if_pos ho] at hE2
          have HF := Lib.hid hE2
          clear hE2 HE HI HV
          unfold outR at ho
          rcases (show v < 65536 ∨ (65536 ≤ v ∧ 1114111 < v) ∨ (65536 ≤ v ∧ v ≤ 1114111 ∧ 55296 ≤ v ∧ v ≤ 57343) from by omega) with h | ⟨h, h'⟩ | ⟨h, h', x, y⟩
          all_goals
            clear ho
            go_wp2
            all_goals go_ret2
            all_goals exact ⟨by rw [HF.out]; rfl, rfl⟩
        · rw [if_neg ho] at hE2
          have HF := Lib.hid hE2
          clear hE2 HE HI HV
          unfold outR at ho
          rcases (show (65536 ≤ v ∧ v ≤ 1114111 ∧ v < 55296) ∨ (65536 ≤ v ∧ v ≤ 1114111 ∧ 55296 ≤ v ∧ 57343 < v) from by omega) with ⟨h, h', x⟩ | ⟨h, h', x, y⟩
          all_goals
            clear ho
            go_wp2
            all_goals go_ret2
            all_goals exact ⟨by rw [HF.out]; rfl, rfl⟩

set_option maxRecDepth 100000 in
set_option maxHeartbeats 8000000 in
theorem refRune_any (s : ByteArray) (i : Nat) (w : World) (hi : i < s.size) (hs : s.size ≤ 20000) :
    Calls Tryz.prog 69 #[.string s, .int .i64 i] w fun e w' => e = .returned (.tuple #[.int .i64 ((runeR (s.data.toList.drop i)).1 : Nat), .int .i64 ((runeR (s.data.toList.drop i)).2 : Nat)]) ∧ w = w' := by
  have hll : s.data.toList.length = s.size := Array.length_toList
  have hix := str_index s i hi
  have hdr : s.data.toList.drop i = s.data.toList.getD i 0 :: s.data.toList.drop (i + 1) := by
    rw [List.drop_eq_getElem_cons (by omega), List.getD_eq_getElem?_getD, List.getElem?_eq_getElem (by omega)]; rfl
  have hR := runeR_eq (s.data.toList.getD i 0) (s.data.toList.drop (i + 1))
  rw [← hdr] at hR
  clear hdr
  generalize runeR (s.data.toList.drop i) = X at *
  generalize s.data.toList.getD i 0 = b at *
  have hbl := b.toNat_lt
  have HR := Lib.hid hR
  have HL := Lib.hid hll
  clear hR hll
  by_cases h0 : b.toNat < 128
  · have HE : Hid (X = (b.toNat, 1)) := by unfold Hid; rw [HR.out, if_pos h0]
    clear HR
    generalize b.toNat = q at *
    go_enter Tryz.func69, Tryz.ntmps69
    go_wp2
    go_ret2
    exact ⟨by rw [HE.out]; rfl, rfl⟩
  by_cases h2 : 192 ≤ b.toNat ∧ b.toNat < 224
  · exact refRune_2 s i w hi hs b.toNat h2.1 h2.2 X hix HL (by unfold Hid; rw [HR.out, if_neg h0, if_pos h2])
  by_cases h3 : 224 ≤ b.toNat ∧ b.toNat < 240
  · exact refRune_3 s i w hi hs b.toNat h3.1 h3.2 X hix HL (by unfold Hid; rw [HR.out, if_neg h0, if_neg h2, if_pos h3])
  by_cases h4 : 240 ≤ b.toNat ∧ b.toNat < 248
  · exact refRune_4 s i w hi hs b.toNat h4.1 h4.2 X hix HL (by unfold Hid; rw [HR.out, if_neg h0, if_neg h2, if_neg h3, if_pos h4])
  have HE : Hid (X = (0, 0)) := by unfold Hid; rw [HR.out, if_neg h0, if_neg h2, if_neg h3, if_neg h4]
  clear HR
  generalize b.toNat = q at *
  rcases (show (128 ≤ q ∧ q < 192) ∨ 248 ≤ q from by omega) with ⟨h, h'⟩ | h
  all_goals
    clear h0 h2 h3 h4
    go_enter Tryz.func69, Tryz.ntmps69
    go_wp2
    go_ret2
    exact ⟨by rw [HE.out]; rfl, rfl⟩
end Go.Proofs.YtinocaggponpmaaGreatDoor.Lx
