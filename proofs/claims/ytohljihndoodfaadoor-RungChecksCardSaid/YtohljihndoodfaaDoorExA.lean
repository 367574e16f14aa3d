/-
  Contracts of expr's arithmetic.
-/
import Derived.Test.YtohljihndoodfaaDoorExT
import Derived.IntWalk
namespace Go.Proofs.YtohljihndoodfaaDoor.Ep
open Go.RowKit Lx

/-- A number and an error, handed back. -/
theorem ret_two {a b : Int} {p : Int × Int} (h : (a, b) = p) : Ending.returned (.tuple #[.int .i64 a, .int .i64 b]) = .returned (.tuple #[.int .i64 p.1, .int .i64 p.2]) := by subst h; rfl
def quoZ (a b : Int) : Int × Int := if b = 0 then (0, 23) else chk (Int.tdiv a b)
def remZ (a b : Int) : Int × Int := if b = 0 then (0, 23) else (Int.tmod a b, 0)

theorem chk_in {z : Int} (h : -9223372036854775808 ≤ z ∧ z ≤ 9223372036854775807) : chk z = (z, 0) := by unfold chk in64; rw [if_pos (by simpa using h)]
theorem chk_out {z : Int} (h : ¬ (-9223372036854775808 ≤ z ∧ z ≤ 9223372036854775807)) : chk z = (0, 22) := by unfold chk in64; rw [if_neg (by simpa using h)]

set_option maxHeartbeats 400000 in
theorem truth_any (b : Bool) (w : World) :
    Calls Tryd.prog 61 #[.bool b] w fun e w' => e = .returned (.int .i64 (tru b)) ∧ w = w' := by
  cases b
  all_goals
    go_enter Tryd.func61, Tryd.ntmps61
    go_wp2
    go_ret
    exact ⟨rfl, rfl⟩

set_option maxHeartbeats 400000 in
theorem negative_any (a : Int) (w : World) (h0 : -9223372036854775808 ≤ a) (h1 : a ≤ 9223372036854775807) :
    Calls Tryd.prog 60 #[.int .i64 a] w fun e w' => e = .returned (.tuple #[.int .i64 (chk (-a)).1, .int .i64 (chk (-a)).2]) ∧ w = w' := by
  by_cases h : a = -9223372036854775808
  · have HX : Hid (chk (-a) = (0, 22)) := chk_out (by omega)
    have hb : (a == -9223372036854775808) = true := by simpa using h
    clear h
    go_enter Tryd.func60, Tryd.ntmps60
    go_wp2
    go_ret2
    exact ⟨ret_two HX.out.symm, rfl⟩
  · have HX : Hid (chk (-a) = (-a, 0)) := chk_in (by omega)
    have hb : (a == -9223372036854775808) = false := by simpa using h
    have h2 : -9223372036854775807 ≤ a := by omega
    clear h
    go_enter Tryd.func60, Tryd.ntmps60
    go_wp2
    go_ret2
    exact ⟨ret_two HX.out.symm, rfl⟩

theorem tdiv_bd (p b : Int) (h0 : -9223372036854775808 ≤ p) (h1 : p ≤ 9223372036854775807) (hb : b ≠ 0) (hb1 : b ≠ -1) : -9223372036854775808 ≤ Int.tdiv p b ∧ Int.tdiv p b ≤ 9223372036854775807 := by
  have e : (Int.tdiv p b).natAbs = p.natAbs / b.natAbs := Int.natAbs_tdiv p b
  by_cases h2 : b = 1
  · subst h2; rw [Int.tdiv_one]; omega
  · have hb2 : 2 ≤ b.natAbs := by omega
    have h3 : p.natAbs / b.natAbs ≤ p.natAbs / 2 := Nat.div_le_div_left hb2 (by omega)
    generalize p.natAbs / b.natAbs = q at e h3
    generalize p.tdiv b = f at e ⊢
    omega
theorem mul_back (a b : Int) (_h0 : -9223372036854775808 ≤ a) (_h1 : a ≤ 9223372036854775807) (k0 : -9223372036854775808 ≤ b) (k1 : b ≤ 9223372036854775807) (hb : b ≠ 0) (hb1 : b ≠ -1) :
    wrap64 (Int.tdiv (wrap64 (a * b)) b) = a ↔ (-9223372036854775808 ≤ a * b ∧ a * b ≤ 9223372036854775807) := by
  have hw : -9223372036854775808 ≤ wrap64 (a * b) ∧ wrap64 (a * b) ≤ 9223372036854775807 := by unfold wrap64; omega
  rw [IntWalk.wrap64_in _ (tdiv_bd _ b hw.1 hw.2 hb hb1)]
  constructor
  · intro h
    have e := Int.mul_tdiv_add_tmod (wrap64 (a * b)) b
    rw [h] at e
    have hm : ((wrap64 (a * b)).tmod b).natAbs < b.natAbs := by
      rw [Int.natAbs_tmod]; exact Nat.mod_lt _ (by omega)
    have hd : wrap64 (a * b) = a * b + (wrap64 (a * b)).tmod b := by rw [Int.mul_comm a b]; rw [Int.mul_comm b a] at e ⊢; omega
    generalize (wrap64 (a * b)).tmod b = r at *
    unfold wrap64 at hd
    generalize a * b = z at *
    omega
  · intro h
    rw [IntWalk.wrap64_in _ h, Int.mul_tdiv_cancel _ hb]

set_option maxHeartbeats 400000 in
theorem sum_any (a b : Int) (w : World) (h0 : -9223372036854775808 ≤ a) (h1 : a ≤ 9223372036854775807) (k0 : -9223372036854775808 ≤ b) (k1 : b ≤ 9223372036854775807) :
    Calls Tryd.prog 62 #[.int .i64 a, .int .i64 b] w fun e w' => e = .returned (.tuple #[.int .i64 (chk (a + b)).1, .int .i64 (chk (a + b)).2]) ∧ w = w' := by
  go_enter Tryd.func62, Tryd.ntmps62
  go_wp2
  all_goals go_ret2
  all_goals refine ⟨ret_two ?_, rfl⟩
  · rename_i h
    rw [chk_out]
    simp only [Bool.not_eq_true', beq_eq_false_iff_ne, ne_eq, decide_eq_decide] at h
    unfold wrap64 at h
    omega
  · rename_i h
    simp only [Bool.not_eq_false', beq_iff_eq, decide_eq_decide] at h
    have hin : -9223372036854775808 ≤ a + b ∧ a + b ≤ 9223372036854775807 := by unfold wrap64 at h; omega
    rw [chk_in hin, IntWalk.wrap64_in _ hin]

set_option maxHeartbeats 400000 in
theorem difference_any (a b : Int) (w : World) (h0 : -9223372036854775808 ≤ a) (h1 : a ≤ 9223372036854775807) (k0 : -9223372036854775808 ≤ b) (k1 : b ≤ 9223372036854775807) :
    Calls Tryd.prog 63 #[.int .i64 a, .int .i64 b] w fun e w' => e = .returned (.tuple #[.int .i64 (chk (a - b)).1, .int .i64 (chk (a - b)).2]) ∧ w = w' := by
  go_enter Tryd.func63, Tryd.ntmps63
  go_wp2
  all_goals go_ret2
  all_goals refine ⟨ret_two ?_, rfl⟩
  · rename_i h
    rw [chk_out]
    simp only [Bool.not_eq_true', beq_eq_false_iff_ne, ne_eq, decide_eq_decide] at h
    unfold wrap64 at h
    omega
  · rename_i h
    simp only [Bool.not_eq_false', beq_iff_eq, decide_eq_decide] at h
    have hin : -9223372036854775808 ≤ a - b ∧ a - b ≤ 9223372036854775807 := by unfold wrap64 at h; omega
    rw [chk_in hin, IntWalk.wrap64_in _ hin]

set_option maxHeartbeats 400000 in
theorem quotient_any (a b : Int) (w : World) (h0 : -9223372036854775808 ≤ a) (h1 : a ≤ 9223372036854775807) :
    Calls Tryd.prog 65 #[.int .i64 a, .int .i64 b] w fun e w' => e = .returned (.tuple #[.int .i64 (quoZ a b).1, .int .i64 (quoZ a b).2]) ∧ w = w' := by
  by_cases hb : b = 0
  · have HX : Hid (quoZ a b = (0, 23)) := by unfold Hid quoZ; rw [if_pos hb]
    have d0 : (b == 0) = true := by simpa using hb
    clear hb
    go_enter Tryd.func65, Tryd.ntmps65
    go_wp2
    go_ret2
    exact ⟨ret_two HX.out.symm, rfl⟩
  · have d0 : (b == 0) = false := by simpa using hb
    by_cases hb1 : b = -1
    · have HX : Hid (quoZ a b = chk (-a)) := by unfold Hid quoZ; rw [if_neg hb, hb1, Int.tdiv_neg, Int.tdiv_one]
      have d1 : (b == -1) = true := by simpa using hb1
      clear hb hb1
      go_enter Tryd.func65, Tryd.ntmps65
      go_wp2_with (go_at_call 60; refine (negative_any _ _ h0 h1).mono ?_; rintro e w' ⟨rfl, rfl⟩)
      go_ret2
      exact ⟨ret_two HX.out.symm, rfl⟩
    · have d1 : (b == -1) = false := by simpa using hb1
      have HX : Hid ((wrap64 (Int.tdiv a b), 0) = quoZ a b) := by
        unfold Hid quoZ; rw [if_neg hb, chk_in (tdiv_bd a b h0 h1 hb hb1), IntWalk.wrap64_in _ (tdiv_bd a b h0 h1 hb hb1)]
      clear hb1
      go_enter Tryd.func65, Tryd.ntmps65
      go_wp2
      go_ret2
      exact ⟨ret_two HX.out, rfl⟩

set_option maxHeartbeats 400000 in
theorem remainder_any (a b : Int) (w : World) (_h0 : -9223372036854775808 ≤ a) (_h1 : a ≤ 9223372036854775807) :
    Calls Tryd.prog 66 #[.int .i64 a, .int .i64 b] w fun e w' => e = .returned (.tuple #[.int .i64 (remZ a b).1, .int .i64 (remZ a b).2]) ∧ w = w' := by
  by_cases hb : b = 0
  · have HX : Hid (remZ a b = (0, 23)) := by unfold Hid remZ; rw [if_pos hb]
    have d0 : (b == 0) = true := by simpa using hb
    clear hb
    go_enter Tryd.func66, Tryd.ntmps66
    go_wp2
    go_ret2
    exact ⟨ret_two HX.out.symm, rfl⟩
  · have d0 : (b == 0) = false := by simpa using hb
    have HX : Hid ((Int.tmod a b, 0) = remZ a b) := by unfold Hid remZ; rw [if_neg hb]
    go_enter Tryd.func66, Tryd.ntmps66
    go_wp2
    go_ret2
    exact ⟨ret_two HX.out, rfl⟩

set_option maxHeartbeats 400000 in
theorem product_any (a b : Int) (w : World) (h0 : -9223372036854775808 ≤ a) (h1 : a ≤ 9223372036854775807) (k0 : -9223372036854775808 ≤ b) (k1 : b ≤ 9223372036854775807) :
    Calls Tryd.prog 64 #[.int .i64 a, .int .i64 b] w fun e w' => e = .returned (.tuple #[.int .i64 (chk (a * b)).1, .int .i64 (chk (a * b)).2]) ∧ w = w' := by
  by_cases hb : b = 0
  · have HX : Hid (chk (a * b) = (0, 0)) := by unfold Hid; rw [hb, Int.mul_zero]; rfl
    have d0 : (b == 0) = true := by simpa using hb
    clear hb
    go_enter Tryd.func64, Tryd.ntmps64
    go_wp2
    go_ret2
    exact ⟨ret_two HX.out.symm, rfl⟩
  · have d0 : (b == 0) = false := by simpa using hb
    by_cases hb1 : b = -1
    · have HX : Hid (chk (a * b) = chk (-a)) := by unfold Hid; rw [hb1]; congr 1; omega
      have d1 : (b == -1) = true := by simpa using hb1
      clear hb hb1
      go_enter Tryd.func64, Tryd.ntmps64
      go_wp2_with (go_at_call 60; refine (negative_any _ _ h0 h1).mono ?_; rintro e w' ⟨rfl, rfl⟩)
      go_ret2
      exact ⟨ret_two HX.out.symm, rfl⟩
    · have d1 : (b == -1) = false := by simpa using hb1
      have HM := Lib.hid (mul_back a b h0 h1 k0 k1 hb hb1)
      clear hb1
      go_enter Tryd.func64, Tryd.ntmps64
      go_wp2
      all_goals go_ret2
      all_goals refine ⟨ret_two ?_, rfl⟩
      · rename_i h
        rw [chk_out (fun hh => (bne_iff_ne.1 h) (HM.out.2 hh))]
      · rename_i h
        have hin := HM.out.1 (by simpa using h)
        rw [chk_in hin, IntWalk.wrap64_in _ hin]

set_option maxHeartbeats 1000000 in
theorem holds_any (op a b : Int) (w : World) :
    Calls Tryd.prog 67 #[.int .i64 op, .int .i64 a, .int .i64 b] w fun e w' => e = .returned (.bool (holdsZ op a b)) ∧ w = w' := by
  go_enter Tryd.func67, Tryd.ntmps67
  go_wp2
  all_goals go_ret
  all_goals refine ⟨ret_bool ?_, rfl⟩
  all_goals (unfold holdsZ; simp_all; try (rw [Bool.eq_iff_iff]; simp_all; try omega))
end Go.Proofs.YtohljihndoodfaaDoor.Ep
