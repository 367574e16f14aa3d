/-
  The document's arithmetic: Add, Sub, Mul, truth, Two.
-/
import Derived.Test.YtlbmojflinkfcaaDoorExC
namespace Go.Proofs.YtlbmojflinkfcaaDoor.Ep
open Go.RowKit Lx

def okB (z : Int) : Int × Bool := if in64 z = true then (z, true) else (0, false)
def IbP (z : Int) (w : World) (e : Ending) (w' : World) : Prop := e = .returned (.tuple #[.int .i64 (okB z).1, .bool (okB z).2]) ∧ w = w'
theorem okB_in {z : Int} (h : -9223372036854775808 ≤ z ∧ z ≤ 9223372036854775807) : okB z = (z, true) := by unfold okB in64; rw [if_pos (by simpa using h)]
theorem okB_out {z : Int} (h : ¬ (-9223372036854775808 ≤ z ∧ z ≤ 9223372036854775807)) : okB z = (0, false) := by unfold okB in64; rw [if_neg (by simpa using h)]
theorem ret_ib {a : Int} {b : Bool} {p : Int × Bool} (h : p = (a, b)) : Ending.returned (.tuple #[.int .i64 a, .bool b]) = .returned (.tuple #[.int .i64 p.1, .bool p.2]) := by subst h; rfl

set_option maxRecDepth 100000 in
set_option maxHeartbeats 400000 in
theorem refTruth_any (b : Bool) (w : World) :
    Calls Tryd.prog 31 #[.bool b] w fun e w' => e = .returned (.int .i64 (tru b)) ∧ w = w' := by
  cases b
  all_goals
    go_enter Tryd.func31, Tryd.ntmps31
    go_wp2
    go_ret
    exact ⟨rfl, rfl⟩

set_option maxRecDepth 100000 in
set_option maxHeartbeats 1000000 in
theorem refAdd_any (a b : Int) (w : World) (h0 : -9223372036854775808 ≤ a) (h1 : a ≤ 9223372036854775807) (k0 : -9223372036854775808 ≤ b) (k1 : b ≤ 9223372036854775807) :
    Calls Tryd.prog 53 #[.int .i64 a, .int .i64 b] w (IbP (a + b) w) := by
  rcases Int.lt_trichotomy b 0 with hb | hb | hb
  · have d1 : decide (0 < b) = false := by simp; omega
    have d2 : decide (b < 0) = true := by simpa using hb
    by_cases hc : a < -9223372036854775808 - b
    · have HX : Hid (okB (a + b) = (0, false)) := okB_out (by omega)
      go_enter Tryd.func53, Tryd.ntmps53
      go_wp2
      all_goals first | (exfalso; omega) | skip
      go_ret2
      exact ⟨ret_ib HX.out, rfl⟩
    · have HX : Hid (okB (a + b) = (a + b, true)) := okB_in (by omega)
      go_enter Tryd.func53, Tryd.ntmps53
      go_wp2
      all_goals first | (exfalso; omega) | skip
      go_ret2
      exact ⟨ret_ib HX.out, rfl⟩
  · subst hb
    have HX : Hid (okB (a + 0) = (a, true)) := by unfold Hid; rw [Int.add_zero]; exact okB_in (by omega)
    go_enter Tryd.func53, Tryd.ntmps53
    go_wp2
    all_goals first | (exfalso; omega) | skip
    go_ret2
    exact ⟨ret_ib HX.out, rfl⟩
  · have d1 : decide (0 < b) = true := by simpa using hb
    have d2 : decide (b < 0) = false := by simp; omega
    by_cases hc : 9223372036854775807 - b < a
    · have HX : Hid (okB (a + b) = (0, false)) := okB_out (by omega)
      go_enter Tryd.func53, Tryd.ntmps53
      go_wp2
      all_goals first | (exfalso; omega) | skip
      go_ret2
      exact ⟨ret_ib HX.out, rfl⟩
    · have HX : Hid (okB (a + b) = (a + b, true)) := okB_in (by omega)
      go_enter Tryd.func53, Tryd.ntmps53
      go_wp2
      all_goals first | (exfalso; omega) | skip
      go_ret2
      exact ⟨ret_ib HX.out, rfl⟩

set_option maxRecDepth 100000 in
set_option maxHeartbeats 1000000 in
theorem refSub_any (a b : Int) (w : World) (h0 : -9223372036854775808 ≤ a) (h1 : a ≤ 9223372036854775807) (k0 : -9223372036854775808 ≤ b) (k1 : b ≤ 9223372036854775807) :
    Calls Tryd.prog 54 #[.int .i64 a, .int .i64 b] w (IbP (a - b) w) := by
  rcases Int.lt_trichotomy b 0 with hb | hb | hb
  · have d1 : decide (0 < b) = false := by simp; omega
    have d2 : decide (b < 0) = true := by simpa using hb
    by_cases hc : 9223372036854775807 + b < a
    · have HX : Hid (okB (a - b) = (0, false)) := okB_out (by omega)
      go_enter Tryd.func54, Tryd.ntmps54
      go_wp2
      all_goals first | (exfalso; omega) | skip
      go_ret2
      exact ⟨ret_ib HX.out, rfl⟩
    · have HX : Hid (okB (a - b) = (a - b, true)) := okB_in (by omega)
      go_enter Tryd.func54, Tryd.ntmps54
      go_wp2
      all_goals first | (exfalso; omega) | skip
      go_ret2
      exact ⟨ret_ib HX.out, rfl⟩
  · subst hb
    have HX : Hid (okB (a - 0) = (a, true)) := by unfold Hid; rw [Int.sub_zero]; exact okB_in (by omega)
    go_enter Tryd.func54, Tryd.ntmps54
    go_wp2
    all_goals first | (exfalso; omega) | skip
    go_ret2
    exact ⟨ret_ib HX.out, rfl⟩
  · have d1 : decide (0 < b) = true := by simpa using hb
    have d2 : decide (b < 0) = false := by simp; omega
    by_cases hc : a < -9223372036854775808 + b
    · have HX : Hid (okB (a - b) = (0, false)) := okB_out (by omega)
      go_enter Tryd.func54, Tryd.ntmps54
      go_wp2
      all_goals first | (exfalso; omega) | skip
      go_ret2
      exact ⟨ret_ib HX.out, rfl⟩
    · have HX : Hid (okB (a - b) = (a - b, true)) := okB_in (by omega)
      go_enter Tryd.func54, Tryd.ntmps54
      go_wp2
      all_goals first | (exfalso; omega) | skip
      go_ret2
      exact ⟨ret_ib HX.out, rfl⟩

/-- A product that is divided back, where b is none of 0, -1; where b is -1, a is not the least. -/
theorem mul_back1 (a : Int) (h0 : -9223372036854775808 < a) (h1 : a ≤ 9223372036854775807) : wrap64 (Int.tdiv (wrap64 (a * -1)) (-1)) = a := by
  have e : a * -1 = -a := by omega
  rw [e, IntWalk.wrap64_in (-a) (by omega), Int.tdiv_neg, Int.tdiv_one, IntWalk.wrap64_in _ (by omega)]
  omega

set_option maxRecDepth 100000 in
set_option maxHeartbeats 1000000 in
theorem refMul_any (a b : Int) (w : World) (h0 : -9223372036854775808 ≤ a) (h1 : a ≤ 9223372036854775807) (k0 : -9223372036854775808 ≤ b) (k1 : b ≤ 9223372036854775807) :
    Calls Tryd.prog 55 #[.int .i64 a, .int .i64 b] w (IbP (a * b) w) := by
  by_cases ha : a = 0
  · have HX : Hid (okB (a * b) = (0, true)) := by unfold Hid; rw [ha, Int.zero_mul]; rfl
    have d0 : (a == 0) = true := by simpa using ha
    clear ha
    go_enter Tryd.func55, Tryd.ntmps55
    go_wp2
    go_ret2
    exact ⟨ret_ib HX.out, rfl⟩
  · have d0 : (a == 0) = false := by simpa using ha
    by_cases hb : b = 0
    · have HX : Hid (okB (a * b) = (0, true)) := by unfold Hid; rw [hb, Int.mul_zero]; rfl
      have d1 : (b == 0) = true := by simpa using hb
      clear ha hb
      go_enter Tryd.func55, Tryd.ntmps55
      go_wp2
      go_ret2
      exact ⟨ret_ib HX.out, rfl⟩
    · have d1 : (b == 0) = false := by simpa using hb
      by_cases hx : a = -1 ∧ b = -9223372036854775808
      · obtain ⟨rfl, rfl⟩ := hx
        have HX : Hid (okB (-1 * -9223372036854775808) = (0, false)) := by unfold Hid; decide
        go_enter Tryd.func55, Tryd.ntmps55
        go_wp2
        go_ret2
        exact ⟨ret_ib HX.out, rfl⟩
      · have d2 : (if a == -1 then b == -9223372036854775808 else false) = false := by
          by_cases h : a = -1
          · simp [h]; omega
          · simp [h]
        by_cases hb1 : b = -1
        · by_cases hl : a = -9223372036854775808
          · subst hb1 hl
            have HX : Hid (okB (-9223372036854775808 * -1) = (0, false)) := by unfold Hid; decide
            go_enter Tryd.func55, Tryd.ntmps55
            go_wp2
            go_ret2
            exact ⟨ret_ib HX.out, rfl⟩
          · have e3 : (a == -9223372036854775808) = false := by simpa using hl
            have HM := Lib.hid (mul_back1 a (by omega) h1)
            have HX : Hid (okB (a * -1) = (wrap64 (a * -1), true)) := by
              unfold Hid; rw [IntWalk.wrap64_in _ (by omega)]; exact okB_in (by omega)
            have h0' : -9223372036854775807 ≤ a := by omega
            subst hb1
            clear hl hx d2
            by_cases h : a = -1
            · subst h
              go_enter Tryd.func55, Tryd.ntmps55
              go_wp2
              all_goals first | (exfalso; omega) | skip
              go_ret2
              refine ⟨ret_ib ?_, rfl⟩; rw [HX.out]; simp [wrap64]
            · have e4 : (a == -1) = false := by simpa using h
              have d3 : (wrap64 (-wrap64 (-a)) != a) = false := by rw [IntWalk.wrap64_in (-a) (by omega), IntWalk.wrap64_in (- -a) (by omega)]; simp
              clear h
              go_enter Tryd.func55, Tryd.ntmps55
              go_wp2
              go_ret2
              refine ⟨ret_ib ?_, rfl⟩; rw [HX.out]; simp; exact IntWalk.wrap64_in _ (by omega)
        · have e3 : (b == -1) = false := by simpa using hb1
          have HM := Lib.hid (mul_back a b h0 h1 k0 k1 hb hb1)
          clear hb1
          by_cases h : a = -1
          · have e4 : (a == -1) = true := by simpa using h
            have e5 : (b == -9223372036854775808) = false := by simp; omega
            clear d2 hx h
            go_enter Tryd.func55, Tryd.ntmps55
            go_wp2
            all_goals go_ret2
            all_goals refine ⟨ret_ib ?_, rfl⟩
            · rename_i h
              rw [okB_out (fun hh => (bne_iff_ne.1 h) (HM.out.2 hh))]
            · rename_i h
              have hin := HM.out.1 (by simpa using h)
              rw [okB_in hin, IntWalk.wrap64_in _ hin]
          · have e4 : (a == -1) = false := by simpa using h
            clear d2 hx h
            go_enter Tryd.func55, Tryd.ntmps55
            go_wp2
            all_goals go_ret2
            all_goals refine ⟨ret_ib ?_, rfl⟩
            · rename_i h
              rw [okB_out (fun hh => (bne_iff_ne.1 h) (HM.out.2 hh))]
            · rename_i h
              have hin := HM.out.1 (by simpa using h)
              rw [okB_in hin, IntWalk.wrap64_in _ hin]

theorem chk_ok {z : Int} (h : (okB z).2 = true) : chk z = ((okB z).1, 0) := by
  unfold okB chk at *
  split at h <;> simp_all
theorem chk_no {z : Int} (h : (okB z).2 = false) : chk z = (0, 22) := by
  unfold okB chk at *
  split at h <;> simp_all

def TwP (op a b : Int) (w : World) (e : Ending) (w' : World) : Prop := e = .returned (.tuple #[.int .i64 (twoZ op a b).1, .int .i64 (twoZ op a b).2]) ∧ w = w'
theorem ret_tw {a b : Int} {p : Int × Int} (h : p = (a, b)) : Ending.returned (.tuple #[.int .i64 a, .int .i64 b]) = .returned (.tuple #[.int .i64 p.1, .int .i64 p.2]) := by subst h; rfl

set_option maxRecDepth 100000 in
set_option maxHeartbeats 4000000 in
theorem refTwo_456 (op a b : Int) (w : World) (hop : op = 4 ∨ op = 5 ∨ op = 6) (h0 : -9223372036854775808 ≤ a) (h1 : a ≤ 9223372036854775807) (k0 : -9223372036854775808 ≤ b) (k1 : b ≤ 9223372036854775807) :
    Calls Tryd.prog 30 #[.int .i64 op, .int .i64 a, .int .i64 b] w (TwP op a b w) := by
  have HA := Lib.hid (fun w => refAdd_any a b w h0 h1 k0 k1)
  have HB := Lib.hid (fun w => refSub_any a b w h0 h1 k0 k1)
  have HC := Lib.hid (fun w => refMul_any a b w h0 h1 k0 k1)
  rcases hop with rfl | rfl | rfl
  · have HT : Hid (twoZ 4 a b = chk (a + b)) := rfl
    go_enter Tryd.func30, Tryd.ntmps30
    go_wp2_with fail
    refine (HA.out _).mono ?_
    rintro e w' ⟨rfl, rfl⟩
    generalize a + b = z at *
    cases hq : (okB z).2
    · have HR : Hid (twoZ 4 a b = (0, 22)) := by unfold Hid; rw [HT.out]; exact chk_no hq
      go_wp2
      go_ret2
      exact ⟨ret_tw HR.out, rfl⟩
    · have HR : Hid (twoZ 4 a b = ((okB z).1, 0)) := by unfold Hid; rw [HT.out]; exact chk_ok hq
      go_wp2
      go_ret2
      exact ⟨ret_tw HR.out, rfl⟩
  · have HT : Hid (twoZ 5 a b = chk (a - b)) := rfl
    go_enter Tryd.func30, Tryd.ntmps30
    go_wp2_with fail
    refine (HB.out _).mono ?_
    rintro e w' ⟨rfl, rfl⟩
    generalize a - b = z at *
    cases hq : (okB z).2
    · have HR : Hid (twoZ 5 a b = (0, 22)) := by unfold Hid; rw [HT.out]; exact chk_no hq
      go_wp2
      go_ret2
      exact ⟨ret_tw HR.out, rfl⟩
    · have HR : Hid (twoZ 5 a b = ((okB z).1, 0)) := by unfold Hid; rw [HT.out]; exact chk_ok hq
      go_wp2
      go_ret2
      exact ⟨ret_tw HR.out, rfl⟩
  · have HT : Hid (twoZ 6 a b = chk (a * b)) := rfl
    go_enter Tryd.func30, Tryd.ntmps30
    go_wp2_with fail
    refine (HC.out _).mono ?_
    rintro e w' ⟨rfl, rfl⟩
    generalize a * b = z at *
    cases hq : (okB z).2
    · have HR : Hid (twoZ 6 a b = (0, 22)) := by unfold Hid; rw [HT.out]; exact chk_no hq
      go_wp2
      go_ret2
      exact ⟨ret_tw HR.out, rfl⟩
    · have HR : Hid (twoZ 6 a b = ((okB z).1, 0)) := by unfold Hid; rw [HT.out]; exact chk_ok hq
      go_wp2
      go_ret2
      exact ⟨ret_tw HR.out, rfl⟩

set_option maxRecDepth 100000 in
set_option maxHeartbeats 4000000 in
theorem refTwo_7 (a b : Int) (w : World) (h0 : -9223372036854775808 ≤ a) (h1 : a ≤ 9223372036854775807) :
    Calls Tryd.prog 30 #[.int .i64 7, .int .i64 a, .int .i64 b] w (TwP 7 a b w) := by
  have HT : Hid (twoZ 7 a b = if b = 0 then (0, 23) else chk (Int.tdiv a b)) := rfl
  by_cases hb : b = 0
  · have HR : Hid (twoZ 7 a b = (0, 23)) := by unfold Hid; rw [HT.out, if_pos hb]
    have d0 : (b == 0) = true := by simpa using hb
    clear hb
    go_enter Tryd.func30, Tryd.ntmps30
    go_wp2
    go_ret2
    exact ⟨ret_tw HR.out, rfl⟩
  · have d0 : (b == 0) = false := by simpa using hb
    by_cases hb1 : b = -1
    · have HT2 : Hid (twoZ 7 a b = chk (0 - a)) := by unfold Hid; rw [HT.out, if_neg hb, hb1, Int.tdiv_neg, Int.tdiv_one, Int.zero_sub]
      have d1 : (b == -1) = true := by simpa using hb1
      have HB := Lib.hid (fun w => refSub_any 0 a w (by omega) (by omega) h0 h1)
      clear hb hb1 HT
      go_enter Tryd.func30, Tryd.ntmps30
      go_wp2_with fail
      refine (HB.out _).mono ?_
      rintro e w' ⟨rfl, rfl⟩
      generalize 0 - a = z at *
      cases hq : (okB z).2
      · have HR : Hid (twoZ 7 a b = (0, 22)) := by unfold Hid; rw [HT2.out]; exact chk_no hq
        go_wp2
        go_ret2
        exact ⟨ret_tw HR.out, rfl⟩
      · have HR : Hid (twoZ 7 a b = ((okB z).1, 0)) := by unfold Hid; rw [HT2.out]; exact chk_ok hq
        go_wp2
        go_ret2
        exact ⟨ret_tw HR.out, rfl⟩
    · have d1 : (b == -1) = false := by simpa using hb1
      have HR : Hid (twoZ 7 a b = (wrap64 (Int.tdiv a b), 0)) := by
        unfold Hid; rw [HT.out, if_neg hb, chk_in (tdiv_bd a b h0 h1 hb hb1), IntWalk.wrap64_in _ (tdiv_bd a b h0 h1 hb hb1)]
      clear hb1 HT
      go_enter Tryd.func30, Tryd.ntmps30
      go_wp2
      go_ret2
      exact ⟨ret_tw HR.out, rfl⟩

set_option maxRecDepth 100000 in
set_option maxHeartbeats 4000000 in
theorem refTwo_8 (a b : Int) (w : World) (h0 : -9223372036854775808 ≤ a) (h1 : a ≤ 9223372036854775807) :
    Calls Tryd.prog 30 #[.int .i64 8, .int .i64 a, .int .i64 b] w (TwP 8 a b w) := by
  have HT : Hid (twoZ 8 a b = if b = 0 then (0, 23) else (Int.tmod a b, 0)) := rfl
  by_cases hb : b = 0
  · have HR : Hid (twoZ 8 a b = (0, 23)) := by unfold Hid; rw [HT.out, if_pos hb]
    have d0 : (b == 0) = true := by simpa using hb
    clear hb
    go_enter Tryd.func30, Tryd.ntmps30
    go_wp2
    go_ret2
    exact ⟨ret_tw HR.out, rfl⟩
  · have d0 : (b == 0) = false := by simpa using hb
    by_cases hb1 : b = -1
    · have HR : Hid (twoZ 8 a b = (0, 0)) := by unfold Hid; rw [HT.out, if_neg hb, hb1, Int.tmod_neg, Int.tmod_one]
      have d1 : (b == -1) = true := by simpa using hb1
      have HB := Lib.hid (fun w => refSub_any 0 a w (by omega) (by omega) h0 h1)
      clear hb hb1 HT
      go_enter Tryd.func30, Tryd.ntmps30
      go_wp2_with fail
      refine (HB.out _).mono ?_
      rintro e w' ⟨rfl, rfl⟩
      generalize 0 - a = z at *
      go_wp2
      go_ret2
      exact ⟨ret_tw HR.out, rfl⟩
    · have d1 : (b == -1) = false := by simpa using hb1
      have HR : Hid (twoZ 8 a b = (Int.tmod a b, 0)) := by unfold Hid; rw [HT.out, if_neg hb]
      clear hb1 HT
      go_enter Tryd.func30, Tryd.ntmps30
      go_wp2
      go_ret2
      exact ⟨ret_tw HR.out, rfl⟩

set_option maxRecDepth 100000 in
set_option maxHeartbeats 4000000 in
theorem refTwo_ge (op a b : Int) (w : World) (hop : 9 ≤ op) (hop2 : op ≤ 16) :
    Calls Tryd.prog 30 #[.int .i64 op, .int .i64 a, .int .i64 b] w (TwP op a b w) := by
  have : op = 9 ∨ op = 10 ∨ op = 11 ∨ op = 12 ∨ op = 13 ∨ op = 14 ∨ op = 15 ∨ op = 16 := by omega
  clear hop hop2
  have HT := Lib.hid refTruth_any
  rcases this with rfl | rfl | rfl | rfl | rfl | rfl | rfl | rfl
  all_goals
    go_enter Tryd.func30, Tryd.ntmps30
    go_wp2_with (go_at_call 31; refine (HT.out _ _).mono ?_; rintro e w' ⟨rfl, rfl⟩)
  all_goals go_ret2
  all_goals refine ⟨ret_tw ?_, rfl⟩
  all_goals (unfold twoZ holdsZ; simp_all [tru])
  all_goals trace_state

theorem refTwo_any (op a b : Int) (w : World) (hop : 4 ≤ op) (hop2 : op ≤ 16) (h0 : -9223372036854775808 ≤ a) (h1 : a ≤ 9223372036854775807) (k0 : -9223372036854775808 ≤ b) (k1 : b ≤ 9223372036854775807) :
    Calls Tryd.prog 30 #[.int .i64 op, .int .i64 a, .int .i64 b] w (TwP op a b w) := by
  by_cases h : op ≤ 6
  · exact refTwo_456 op a b w (by omega) h0 h1 k0 k1
  · by_cases h7 : op = 7
    · subst h7; exact refTwo_7 a b w h0 h1
    · by_cases h8 : op = 8
      · subst h8; exact refTwo_8 a b w h0 h1
      · exact refTwo_ge op a b w (by omega) hop2
end Go.Proofs.YtlbmojflinkfcaaDoor.Ep
