/-
  Contracts of collect, underway, together, Roll.
-/
import Derived.Test.YtadindhnaidmeaaDoorChW2
namespace Go.Proofs.YtadindhnaidmeaaDoor.Ch
open Go.RowKit

theorem under_and (n o : Nat) (hn : n < 65536) (ho : o < 65536) : (!(bits .and .u16 (n : Int) (o : Int) == 0)) = decide (n &&& o ≠ 0) := by
  rw [bits_and_u16 n o hn ho, Bool.eq_iff_iff, decide_eq_true_iff]
  simp
set_option maxRecDepth 100000 in
theorem under_any (n o : Nat) (a b : Int) (ka kb : Nat) (hn : n < 65536) (ho : o < 65536) (ha : hasB n a = n.testBit ka) (hb : hasB n b = n.testBit kb) (w : World) : Calls Tryd.prog 35 #[.int .u16 (n : Int), .int .i64 a, .int .i64 b, .int .u16 (o : Int)] w (BPost (underB n ka kb o) w) := by
  have h1 := has_any n hn a w
  have h2 := has_any n hn b w
  have hX : underB n ka kb o = (n.testBit ka || (n.testBit kb && decide (n &&& o ≠ 0))) := rfl
  have HO := Lib.hid (under_and n o hn ho)
  rw [ha] at h1
  rw [hb] at h2
  rw [hX]
  clear hX ha hb
  generalize decide (n &&& o ≠ 0) = c3 at *
  generalize n.testBit ka = c1 at *
  generalize n.testBit kb = c2 at *
  cases c1
  · cases c2
    · go_enter Tryd.func35, Tryd.ntmps35
      go_wp2_with fail
      refine h1.mono ?_
      rintro e w1 ⟨rfl, rfl⟩
      go_wp2_with fail
      refine h2.mono ?_
      rintro e w1 ⟨rfl, rfl⟩
      go_wp2
      go_ret
      exact ⟨rfl, rfl⟩
    · go_enter Tryd.func35, Tryd.ntmps35
      go_wp2_with fail
      refine h1.mono ?_
      rintro e w1 ⟨rfl, rfl⟩
      go_wp2_with fail
      refine h2.mono ?_
      rintro e w1 ⟨rfl, rfl⟩
      go_wp2
      go_ret
      exact ⟨ret_bool HO.out, rfl⟩
  · go_enter Tryd.func35, Tryd.ntmps35
    go_wp2_with fail
    refine h1.mono ?_
    rintro e w1 ⟨rfl, rfl⟩
    go_wp2
    go_ret
    exact ⟨rfl, rfl⟩

theorem hasB_lit (n k : Nat) (hk : k < 12) : hasB n (k : Int) = n.testBit k := by
  unfold hasB exB
  have h1 : decide ((0 : Int) ≤ (k : Int)) = true := decide_eq_true (by omega)
  have h2 : decide ((k : Int) < 12) = true := decide_eq_true (by omega)
  rw [h1, h2, Int.toNat_natCast]
  rfl

set_option maxRecDepth 100000 in
set_option maxHeartbeats 4000000 in
theorem together_any (n : Nat) (hn : n < 4096) (w : World) : Calls Tryd.prog 33 #[.int .u16 (n : Int)] w (IPost (togP n) w) := by
  have hn' : n < 65536 := by omega
  have u1 := under_any n 726 9 10 9 10 hn' (by decide) (hasB_lit n 9 (by decide)) (hasB_lit n 10 (by decide)) w
  have u2 := under_any n 726 7 8 7 8 hn' (by decide) (hasB_lit n 7 (by decide)) (hasB_lit n 8 (by decide)) w
  have u3 := under_any n 726 4 5 4 5 hn' (by decide) (hasB_lit n 4 (by decide)) (hasB_lit n 5 (by decide)) w
  have u4 := under_any n 2 2 3 2 3 hn' (by decide) (hasB_lit n 2 (by decide)) (hasB_lit n 3 (by decide)) w
  have t10 := has_any n hn' 10 w
  have t8 := has_any n hn' 8 w
  have t5 := has_any n hn' 5 w
  have t6 := has_any n hn' 6 w
  have t3 := has_any n hn' 3 w
  have t1 := has_any n hn' 1 w
  rw [show hasB n 10 = n.testBit 10 from hasB_lit n 10 (by decide)] at t10
  rw [show hasB n 8 = n.testBit 8 from hasB_lit n 8 (by decide)] at t8
  rw [show hasB n 5 = n.testBit 5 from hasB_lit n 5 (by decide)] at t5
  rw [show hasB n 6 = n.testBit 6 from hasB_lit n 6 (by decide)] at t6
  rw [show hasB n 3 = n.testBit 3 from hasB_lit n 3 (by decide)] at t3
  rw [show hasB n 1 = n.testBit 1 from hasB_lit n 1 (by decide)] at t1
  generalize hX : togP n = X
  have HX := Lib.hid hX
  clear hX
  unfold togP at HX
  generalize underB n 9 10 726 = b1 at *
  generalize underB n 7 8 726 = b2 at *
  generalize underB n 4 5 726 = b3 at *
  generalize underB n 2 3 2 = b4 at *
  generalize n.testBit 10 = a10 at *
  generalize n.testBit 8 = a8 at *
  generalize n.testBit 5 = a5 at *
  generalize n.testBit 6 = a6 at *
  generalize n.testBit 3 = a3 at *
  generalize n.testBit 1 = a1 at *
  by_cases hn0 : n = 0
  · have HV : Hid (0 = X) := by unfold Hid; rw [← HX.out, if_pos hn0]
    clear HX
    subst hn0
    go_enter Tryd.func33, Tryd.ntmps33
    go_wp2
    go_ret
    exact ⟨ret_int HV.out, rfl⟩
  have d0 : ((n : Int) == 0) = false := by simpa using hn0
  cases b1 with
  | true =>
    have HV : Hid (9 = X) := by unfold Hid; rw [← HX.out]; simp [hn0]
    clear HX hn0
    go_enter Tryd.func33, Tryd.ntmps33
    go_wp2_with fail
    refine u1.mono ?_
    rintro e w1 ⟨rfl, rfl⟩
    go_wp2
    go_ret
    exact ⟨ret_int HV.out, rfl⟩
  | false =>
  cases a10 with
  | true =>
    have HV : Hid (10 = X) := by unfold Hid; rw [← HX.out]; simp [hn0]
    clear HX hn0
    go_enter Tryd.func33, Tryd.ntmps33
    go_wp2_with fail
    refine u1.mono ?_
    rintro e w1 ⟨rfl, rfl⟩
    go_wp2_with fail
    refine t10.mono ?_
    rintro e w1 ⟨rfl, rfl⟩
    go_wp2
    go_ret
    exact ⟨ret_int HV.out, rfl⟩
  | false =>
  cases b2 with
  | true =>
    have HV : Hid (7 = X) := by unfold Hid; rw [← HX.out]; simp [hn0]
    clear HX hn0
    go_enter Tryd.func33, Tryd.ntmps33
    go_wp2_with fail
    refine u1.mono ?_
    rintro e w1 ⟨rfl, rfl⟩
    go_wp2_with fail
    refine t10.mono ?_
    rintro e w1 ⟨rfl, rfl⟩
    go_wp2_with fail
    refine u2.mono ?_
    rintro e w1 ⟨rfl, rfl⟩
    go_wp2
    go_ret
    exact ⟨ret_int HV.out, rfl⟩
  | false =>
  cases a8 with
  | true =>
    have HV : Hid (8 = X) := by unfold Hid; rw [← HX.out]; simp [hn0]
    clear HX hn0
    go_enter Tryd.func33, Tryd.ntmps33
    go_wp2_with fail
    refine u1.mono ?_
    rintro e w1 ⟨rfl, rfl⟩
    go_wp2_with fail
    refine t10.mono ?_
    rintro e w1 ⟨rfl, rfl⟩
    go_wp2_with fail
    refine u2.mono ?_
    rintro e w1 ⟨rfl, rfl⟩
    go_wp2_with fail
    refine t8.mono ?_
    rintro e w1 ⟨rfl, rfl⟩
    go_wp2
    go_ret
    exact ⟨ret_int HV.out, rfl⟩
  | false =>
  cases b3 with
  | true =>
    have HV : Hid (4 = X) := by unfold Hid; rw [← HX.out]; simp [hn0]
    clear HX hn0
    go_enter Tryd.func33, Tryd.ntmps33
    go_wp2_with fail
    refine u1.mono ?_
    rintro e w1 ⟨rfl, rfl⟩
    go_wp2_with fail
    refine t10.mono ?_
    rintro e w1 ⟨rfl, rfl⟩
    go_wp2_with fail
    refine u2.mono ?_
    rintro e w1 ⟨rfl, rfl⟩
    go_wp2_with fail
    refine t8.mono ?_
    rintro e w1 ⟨rfl, rfl⟩
    go_wp2_with fail
    refine u3.mono ?_
    rintro e w1 ⟨rfl, rfl⟩
    go_wp2
    go_ret
    exact ⟨ret_int HV.out, rfl⟩
  | false =>
  cases a5 with
  | true =>
    have HV : Hid (5 = X) := by unfold Hid; rw [← HX.out]; simp [hn0]
    clear HX hn0
    go_enter Tryd.func33, Tryd.ntmps33
    go_wp2_with fail
    refine u1.mono ?_
    rintro e w1 ⟨rfl, rfl⟩
    go_wp2_with fail
    refine t10.mono ?_
    rintro e w1 ⟨rfl, rfl⟩
    go_wp2_with fail
    refine u2.mono ?_
    rintro e w1 ⟨rfl, rfl⟩
    go_wp2_with fail
    refine t8.mono ?_
    rintro e w1 ⟨rfl, rfl⟩
    go_wp2_with fail
    refine u3.mono ?_
    rintro e w1 ⟨rfl, rfl⟩
    go_wp2_with fail
    refine t5.mono ?_
    rintro e w1 ⟨rfl, rfl⟩
    go_wp2
    go_ret
    exact ⟨ret_int HV.out, rfl⟩
  | false =>
  cases a6 with
  | true =>
    have HV : Hid (6 = X) := by unfold Hid; rw [← HX.out]; simp [hn0]
    clear HX hn0
    go_enter Tryd.func33, Tryd.ntmps33
    go_wp2_with fail
    refine u1.mono ?_
    rintro e w1 ⟨rfl, rfl⟩
    go_wp2_with fail
    refine t10.mono ?_
    rintro e w1 ⟨rfl, rfl⟩
    go_wp2_with fail
    refine u2.mono ?_
    rintro e w1 ⟨rfl, rfl⟩
    go_wp2_with fail
    refine t8.mono ?_
    rintro e w1 ⟨rfl, rfl⟩
    go_wp2_with fail
    refine u3.mono ?_
    rintro e w1 ⟨rfl, rfl⟩
    go_wp2_with fail
    refine t5.mono ?_
    rintro e w1 ⟨rfl, rfl⟩
    go_wp2_with fail
    refine t6.mono ?_
    rintro e w1 ⟨rfl, rfl⟩
    go_wp2
    go_ret
    exact ⟨ret_int HV.out, rfl⟩
  | false =>
  cases b4 with
  | true =>
    have HV : Hid (2 = X) := by unfold Hid; rw [← HX.out]; simp [hn0]
    clear HX hn0
    go_enter Tryd.func33, Tryd.ntmps33
    go_wp2_with fail
    refine u1.mono ?_
    rintro e w1 ⟨rfl, rfl⟩
    go_wp2_with fail
    refine t10.mono ?_
    rintro e w1 ⟨rfl, rfl⟩
    go_wp2_with fail
    refine u2.mono ?_
    rintro e w1 ⟨rfl, rfl⟩
    go_wp2_with fail
    refine t8.mono ?_
    rintro e w1 ⟨rfl, rfl⟩
    go_wp2_with fail
    refine u3.mono ?_
    rintro e w1 ⟨rfl, rfl⟩
    go_wp2_with fail
    refine t5.mono ?_
    rintro e w1 ⟨rfl, rfl⟩
    go_wp2_with fail
    refine t6.mono ?_
    rintro e w1 ⟨rfl, rfl⟩
    go_wp2_with fail
    refine u4.mono ?_
    rintro e w1 ⟨rfl, rfl⟩
    go_wp2
    go_ret
    exact ⟨ret_int HV.out, rfl⟩
  | false =>
  cases a3 with
  | true =>
    have HV : Hid (3 = X) := by unfold Hid; rw [← HX.out]; simp [hn0]
    clear HX hn0
    go_enter Tryd.func33, Tryd.ntmps33
    go_wp2_with fail
    refine u1.mono ?_
    rintro e w1 ⟨rfl, rfl⟩
    go_wp2_with fail
    refine t10.mono ?_
    rintro e w1 ⟨rfl, rfl⟩
    go_wp2_with fail
    refine u2.mono ?_
    rintro e w1 ⟨rfl, rfl⟩
    go_wp2_with fail
    refine t8.mono ?_
    rintro e w1 ⟨rfl, rfl⟩
    go_wp2_with fail
    refine u3.mono ?_
    rintro e w1 ⟨rfl, rfl⟩
    go_wp2_with fail
    refine t5.mono ?_
    rintro e w1 ⟨rfl, rfl⟩
    go_wp2_with fail
    refine t6.mono ?_
    rintro e w1 ⟨rfl, rfl⟩
    go_wp2_with fail
    refine u4.mono ?_
    rintro e w1 ⟨rfl, rfl⟩
    go_wp2_with fail
    refine t3.mono ?_
    rintro e w1 ⟨rfl, rfl⟩
    go_wp2
    go_ret
    exact ⟨ret_int HV.out, rfl⟩
  | false =>
  cases a1 with
  | true =>
    have HV : Hid (1 = X) := by unfold Hid; rw [← HX.out]; simp [hn0]
    clear HX hn0
    go_enter Tryd.func33, Tryd.ntmps33
    go_wp2_with fail
    refine u1.mono ?_
    rintro e w1 ⟨rfl, rfl⟩
    go_wp2_with fail
    refine t10.mono ?_
    rintro e w1 ⟨rfl, rfl⟩
    go_wp2_with fail
    refine u2.mono ?_
    rintro e w1 ⟨rfl, rfl⟩
    go_wp2_with fail
    refine t8.mono ?_
    rintro e w1 ⟨rfl, rfl⟩
    go_wp2_with fail
    refine u3.mono ?_
    rintro e w1 ⟨rfl, rfl⟩
    go_wp2_with fail
    refine t5.mono ?_
    rintro e w1 ⟨rfl, rfl⟩
    go_wp2_with fail
    refine t6.mono ?_
    rintro e w1 ⟨rfl, rfl⟩
    go_wp2_with fail
    refine u4.mono ?_
    rintro e w1 ⟨rfl, rfl⟩
    go_wp2_with fail
    refine t3.mono ?_
    rintro e w1 ⟨rfl, rfl⟩
    go_wp2_with fail
    refine t1.mono ?_
    rintro e w1 ⟨rfl, rfl⟩
    go_wp2
    go_ret
    exact ⟨ret_int HV.out, rfl⟩
  | false =>
  by_cases h1 : n = 2048
  · have HV : Hid (11 = X) := by unfold Hid; rw [← HX.out]; simp [h1]
    have d1 : ((n : Int) == 2048) = true := by simp [h1]
    clear HX hn0 h1
    go_enter Tryd.func33, Tryd.ntmps33
    go_wp2_with fail
    refine u1.mono ?_
    rintro e w1 ⟨rfl, rfl⟩
    go_wp2_with fail
    refine t10.mono ?_
    rintro e w1 ⟨rfl, rfl⟩
    go_wp2_with fail
    refine u2.mono ?_
    rintro e w1 ⟨rfl, rfl⟩
    go_wp2_with fail
    refine t8.mono ?_
    rintro e w1 ⟨rfl, rfl⟩
    go_wp2_with fail
    refine u3.mono ?_
    rintro e w1 ⟨rfl, rfl⟩
    go_wp2_with fail
    refine t5.mono ?_
    rintro e w1 ⟨rfl, rfl⟩
    go_wp2_with fail
    refine t6.mono ?_
    rintro e w1 ⟨rfl, rfl⟩
    go_wp2_with fail
    refine u4.mono ?_
    rintro e w1 ⟨rfl, rfl⟩
    go_wp2_with fail
    refine t3.mono ?_
    rintro e w1 ⟨rfl, rfl⟩
    go_wp2_with fail
    refine t1.mono ?_
    rintro e w1 ⟨rfl, rfl⟩
    go_wp2
    go_ret
    exact ⟨ret_int HV.out, rfl⟩
  have d1 : ((n : Int) == 2048) = false := by simp; omega
  by_cases h2 : n = 1
  · have HV : Hid (0 = X) := by unfold Hid; rw [← HX.out]; simp [h2]
    have d2 : ((n : Int) == 1) = true := by simp [h2]
    clear HX hn0 h1 h2
    go_enter Tryd.func33, Tryd.ntmps33
    go_wp2_with fail
    refine u1.mono ?_
    rintro e w1 ⟨rfl, rfl⟩
    go_wp2_with fail
    refine t10.mono ?_
    rintro e w1 ⟨rfl, rfl⟩
    go_wp2_with fail
    refine u2.mono ?_
    rintro e w1 ⟨rfl, rfl⟩
    go_wp2_with fail
    refine t8.mono ?_
    rintro e w1 ⟨rfl, rfl⟩
    go_wp2_with fail
    refine u3.mono ?_
    rintro e w1 ⟨rfl, rfl⟩
    go_wp2_with fail
    refine t5.mono ?_
    rintro e w1 ⟨rfl, rfl⟩
    go_wp2_with fail
    refine t6.mono ?_
    rintro e w1 ⟨rfl, rfl⟩
    go_wp2_with fail
    refine u4.mono ?_
    rintro e w1 ⟨rfl, rfl⟩
    go_wp2_with fail
    refine t3.mono ?_
    rintro e w1 ⟨rfl, rfl⟩
    go_wp2_with fail
    refine t1.mono ?_
    rintro e w1 ⟨rfl, rfl⟩
    go_wp2
    go_ret
    exact ⟨ret_int HV.out, rfl⟩
  have d2 : ((n : Int) == 1) = false := by simp; omega
  have HV : Hid (1 = X) := by unfold Hid; rw [← HX.out]; simp [hn0, h1, h2]
  clear HX hn0 h1 h2
  go_enter Tryd.func33, Tryd.ntmps33
  go_wp2_with fail
  refine u1.mono ?_
  rintro e w1 ⟨rfl, rfl⟩
  go_wp2_with fail
  refine t10.mono ?_
  rintro e w1 ⟨rfl, rfl⟩
  go_wp2_with fail
  refine u2.mono ?_
  rintro e w1 ⟨rfl, rfl⟩
  go_wp2_with fail
  refine t8.mono ?_
  rintro e w1 ⟨rfl, rfl⟩
  go_wp2_with fail
  refine u3.mono ?_
  rintro e w1 ⟨rfl, rfl⟩
  go_wp2_with fail
  refine t5.mono ?_
  rintro e w1 ⟨rfl, rfl⟩
  go_wp2_with fail
  refine t6.mono ?_
  rintro e w1 ⟨rfl, rfl⟩
  go_wp2_with fail
  refine u4.mono ?_
  rintro e w1 ⟨rfl, rfl⟩
  go_wp2_with fail
  refine t3.mono ?_
  rintro e w1 ⟨rfl, rfl⟩
  go_wp2_with fail
  refine t1.mono ?_
  rintro e w1 ⟨rfl, rfl⟩
  go_wp2
  go_ret
  exact ⟨ret_int HV.out, rfl⟩

theorem setF_drop (l : List Int) (k n : Nat) (hk : k < l.length) : setF (l.drop k) n = setF (l.drop (k + 1)) (n ||| 2 ^ normS l[k]) := by
  rw [List.drop_eq_getElem_cons hk, setF]
theorem or_lt (n s : Nat) (hn : n < 4096) (hs : s < 12) : n ||| 2 ^ s < 4096 := Nat.or_lt_two_pow (n := 12) hn (Nat.pow_lt_pow_right (by decide) hs)
set_option maxRecDepth 100000 in
set_option maxHeartbeats 2000000 in
theorem collect_any (l : List Int) (A : Option Addr) (cap : Nat) (w : World) (hl : l.length ≤ 1000000) (hA : Nums w A l) : Calls Tryd.prog 32 #[.slice A l.length cap] w fun e w' => e = .returned (.int .u16 ((setF l 0 : Nat) : Int)) ∧ w = w' := by
  have HA := Lib.hid hA
  clear hA
  generalize hX : setF l 0 = X
  have HX : Hid (setF (l.drop 0) 0 = X) := hX
  clear hX
  generalize hL : l.length = len at *
  have HL := Lib.hid hL
  clear hL
  go_enter Tryd.func32, Tryd.ntmps32
  go_wp2
  go_loopw [3, 8] (fun v x wr => ∃ k n : Nat, k ≤ len ∧ n < 4096 ∧ v = .int .u16 (n : Int) ∧ x = .int .i64 k ∧ Hid (setF (l.drop k) n = X) ∧ w = wr) (fun _ x _ => len - (intOf x).toNat)
  case atStart => exact ⟨0, 0, by omega, by omega, rfl, rfl, HX, rfl⟩
  case round =>
    obtain ⟨k, n, hk, hn, rfl, rfl, HS, rfl⟩ := hrel
    by_cases hlt : k < len
    · have hki : k < l.length := by rw [HL.out]; exact hlt
      obtain ⟨g, off, rfl, hg, c0⟩ := HA.out.at_ hki
      have HF := Lib.hid (setF_drop l k n hki)
      have hE := exists_any l[k] w
      generalize l[k] = x at *
      have hklt : ((k : Nat) : Int) < (len : Int) := by omega
      cases he : exB x
      · have HS2 : Hid (setF (l.drop (k + 1)) (n ||| 1) = X) := by
          have e : normS x = 0 := by unfold normS; rw [he]; rfl
          have := HF.out
          rw [e] at this
          unfold Hid; rw [← HS.out, this]
        have hb := bits_or_u16 n 1 (by omega) (by omega)
        rw [he] at hE
        clear he HS HF
        go_wp2_with fail
        refine hE.mono ?_
        rintro e w1 ⟨rfl, rfl⟩
        go_wp2
        go_roundw
        case rel => exact ⟨k + 1, n ||| 1, by omega, or_lt n 0 hn (by omega), by rw [← hb]; rfl, by go_num, HS2, trivial⟩
        case measure => simp [intOf]; omega
      · rw [he] at hE
        rcases in12 he with rfl | rfl | rfl | rfl | rfl | rfl | rfl | rfl | rfl | rfl | rfl | rfl
        · have HS2 : Hid (setF (l.drop (k + 1)) (n ||| 1) = X) := by unfold Hid; rw [← HS.out, HF.out]; rfl
          have hb := bits_or_u16 n 1 (by omega) (by omega)
          clear he HS HF
          go_wp2_with fail
          refine hE.mono ?_
          rintro e w1 ⟨rfl, rfl⟩
          go_wp2
          go_roundw
          case rel => exact ⟨k + 1, n ||| 1, by omega, or_lt n 0 hn (by omega), by rw [← hb]; rfl, by go_num, HS2, trivial⟩
          case measure => simp [intOf]; omega
        · have HS2 : Hid (setF (l.drop (k + 1)) (n ||| 2) = X) := by unfold Hid; rw [← HS.out, HF.out]; rfl
          have hb := bits_or_u16 n 2 (by omega) (by omega)
          clear he HS HF
          go_wp2_with fail
          refine hE.mono ?_
          rintro e w1 ⟨rfl, rfl⟩
          go_wp2
          go_roundw
          case rel => exact ⟨k + 1, n ||| 2, by omega, or_lt n 1 hn (by omega), by rw [← hb]; rfl, by go_num, HS2, trivial⟩
          case measure => simp [intOf]; omega
        · have HS2 : Hid (setF (l.drop (k + 1)) (n ||| 4) = X) := by unfold Hid; rw [← HS.out, HF.out]; rfl
          have hb := bits_or_u16 n 4 (by omega) (by omega)
          clear he HS HF
          go_wp2_with fail
          refine hE.mono ?_
          rintro e w1 ⟨rfl, rfl⟩
          go_wp2
          go_roundw
          case rel => exact ⟨k + 1, n ||| 4, by omega, or_lt n 2 hn (by omega), by rw [← hb]; rfl, by go_num, HS2, trivial⟩
          case measure => simp [intOf]; omega
        · have HS2 : Hid (setF (l.drop (k + 1)) (n ||| 8) = X) := by unfold Hid; rw [← HS.out, HF.out]; rfl
          have hb := bits_or_u16 n 8 (by omega) (by omega)
          clear he HS HF
          go_wp2_with fail
          refine hE.mono ?_
          rintro e w1 ⟨rfl, rfl⟩
          go_wp2
          go_roundw
          case rel => exact ⟨k + 1, n ||| 8, by omega, or_lt n 3 hn (by omega), by rw [← hb]; rfl, by go_num, HS2, trivial⟩
          case measure => simp [intOf]; omega
        · have HS2 : Hid (setF (l.drop (k + 1)) (n ||| 16) = X) := by unfold Hid; rw [← HS.out, HF.out]; rfl
          have hb := bits_or_u16 n 16 (by omega) (by omega)
          clear he HS HF
          go_wp2_with fail
          refine hE.mono ?_
          rintro e w1 ⟨rfl, rfl⟩
          go_wp2
          go_roundw
          case rel => exact ⟨k + 1, n ||| 16, by omega, or_lt n 4 hn (by omega), by rw [← hb]; rfl, by go_num, HS2, trivial⟩
          case measure => simp [intOf]; omega
        · have HS2 : Hid (setF (l.drop (k + 1)) (n ||| 32) = X) := by unfold Hid; rw [← HS.out, HF.out]; rfl
          have hb := bits_or_u16 n 32 (by omega) (by omega)
          clear he HS HF
          go_wp2_with fail
          refine hE.mono ?_
          rintro e w1 ⟨rfl, rfl⟩
          go_wp2
          go_roundw
          case rel => exact ⟨k + 1, n ||| 32, by omega, or_lt n 5 hn (by omega), by rw [← hb]; rfl, by go_num, HS2, trivial⟩
          case measure => simp [intOf]; omega
        · have HS2 : Hid (setF (l.drop (k + 1)) (n ||| 64) = X) := by unfold Hid; rw [← HS.out, HF.out]; rfl
          have hb := bits_or_u16 n 64 (by omega) (by omega)
          clear he HS HF
          go_wp2_with fail
          refine hE.mono ?_
          rintro e w1 ⟨rfl, rfl⟩
          go_wp2
          go_roundw
          case rel => exact ⟨k + 1, n ||| 64, by omega, or_lt n 6 hn (by omega), by rw [← hb]; rfl, by go_num, HS2, trivial⟩
          case measure => simp [intOf]; omega
        · have HS2 : Hid (setF (l.drop (k + 1)) (n ||| 128) = X) := by unfold Hid; rw [← HS.out, HF.out]; rfl
          have hb := bits_or_u16 n 128 (by omega) (by omega)
          clear he HS HF
          go_wp2_with fail
          refine hE.mono ?_
          rintro e w1 ⟨rfl, rfl⟩
          go_wp2
          go_roundw
          case rel => exact ⟨k + 1, n ||| 128, by omega, or_lt n 7 hn (by omega), by rw [← hb]; rfl, by go_num, HS2, trivial⟩
          case measure => simp [intOf]; omega
        · have HS2 : Hid (setF (l.drop (k + 1)) (n ||| 256) = X) := by unfold Hid; rw [← HS.out, HF.out]; rfl
          have hb := bits_or_u16 n 256 (by omega) (by omega)
          clear he HS HF
          go_wp2_with fail
          refine hE.mono ?_
          rintro e w1 ⟨rfl, rfl⟩
          go_wp2
          go_roundw
          case rel => exact ⟨k + 1, n ||| 256, by omega, or_lt n 8 hn (by omega), by rw [← hb]; rfl, by go_num, HS2, trivial⟩
          case measure => simp [intOf]; omega
        · have HS2 : Hid (setF (l.drop (k + 1)) (n ||| 512) = X) := by unfold Hid; rw [← HS.out, HF.out]; rfl
          have hb := bits_or_u16 n 512 (by omega) (by omega)
          clear he HS HF
          go_wp2_with fail
          refine hE.mono ?_
          rintro e w1 ⟨rfl, rfl⟩
          go_wp2
          go_roundw
          case rel => exact ⟨k + 1, n ||| 512, by omega, or_lt n 9 hn (by omega), by rw [← hb]; rfl, by go_num, HS2, trivial⟩
          case measure => simp [intOf]; omega
        · have HS2 : Hid (setF (l.drop (k + 1)) (n ||| 1024) = X) := by unfold Hid; rw [← HS.out, HF.out]; rfl
          have hb := bits_or_u16 n 1024 (by omega) (by omega)
          clear he HS HF
          go_wp2_with fail
          refine hE.mono ?_
          rintro e w1 ⟨rfl, rfl⟩
          go_wp2
          go_roundw
          case rel => exact ⟨k + 1, n ||| 1024, by omega, or_lt n 10 hn (by omega), by rw [← hb]; rfl, by go_num, HS2, trivial⟩
          case measure => simp [intOf]; omega
        · have HS2 : Hid (setF (l.drop (k + 1)) (n ||| 2048) = X) := by unfold Hid; rw [← HS.out, HF.out]; rfl
          have hb := bits_or_u16 n 2048 (by omega) (by omega)
          clear he HS HF
          go_wp2_with fail
          refine hE.mono ?_
          rintro e w1 ⟨rfl, rfl⟩
          go_wp2
          go_roundw
          case rel => exact ⟨k + 1, n ||| 2048, by omega, or_lt n 11 hn (by omega), by rw [← hb]; rfl, by go_num, HS2, trivial⟩
          case measure => simp [intOf]; omega
    · have HS2 : Hid (n = X) := by unfold Hid; rw [← HS.out, List.drop_eq_nil_of_le (by rw [HL.out]; omega)]; rfl
      go_wp2
      go_ret
      exact ⟨ret_int (by rw [HS2.out]), rfl⟩

set_option maxRecDepth 100000 in
theorem Roll_any (l : List Int) (A : Option Addr) (cap : Nat) (w : World) (hl : l.length ≤ 1000000) (hA : Nums w A l) : Calls Tryd.prog 22 #[.slice A l.length cap] w (IPost (rollP l) w) := by
  have h1 := collect_any l A cap w hl hA
  have h2 := together_any (setF l 0) (setF_lt l 0 (by omega)) w
  unfold rollP
  generalize togP (setF l 0) = X at *
  generalize setF l 0 = n at *
  go_enter Tryd.func22, Tryd.ntmps22
  go_wp2_with fail
  refine h1.mono ?_
  rintro e w1 ⟨rfl, rfl⟩
  go_wp2_with fail
  refine h2.mono ?_
  rintro e w1 ⟨rfl, rfl⟩
  go_wp2
  go_ret
  exact ⟨rfl, rfl⟩
end Go.Proofs.YtadindhnaidmeaaDoor.Ch
