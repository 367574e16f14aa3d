/-
  The walk of PackSizes.
-/
import Derived.Test.YteokhbcpfhjhdaaPkW8
namespace Go.Proofs.Yteokhbcpfhjhdaa.Pk
open Go.RowKit

theorem encF_mono (f : Nat) : ∀ z z' : Nat, z ≤ z' → (encF f z).length ≤ (encF f z').length := by
  induction f with
  | zero => intro z z' _; simp [encF]
  | succ f ih =>
    intro z z' h
    simp only [encF]
    split
    · split <;> simp
    · rw [if_neg (by omega)]
      simp only [List.length_cons]
      have := ih (z / 128) (z' / 128) (Nat.div_le_div_right h)
      omega
theorem bs_mono {a b : Int} (h : zig a ≤ zig b) : (bs a).length ≤ (bs b).length := encF_mono 9 _ _ h
theorem bs_up {a b : Int} (h : 0 ≤ a) (h2 : a ≤ b) : (bs a).length ≤ (bs b).length := bs_mono (by unfold zig; rw [if_neg (by omega), if_neg (by omega)]; omega)
theorem bs_down {a b : Int} (h : a < 0) (h2 : b ≤ a) : (bs a).length ≤ (bs b).length := bs_mono (by unfold zig; rw [if_pos (by omega), if_pos (by omega)]; omega)
theorem bs_one (a : Int) : (bs a).length = 1 ↔ -64 ≤ a ∧ a ≤ 63 := by
  unfold bs
  rw [encF]
  have hz : zig a < 128 ↔ -64 ≤ a ∧ a ≤ 63 := by unfold zig; split <;> omega
  rw [← hz]
  split
  · simp; assumption
  · have := encF_pos 8 (zig a / 128)
    simp only [List.length_cons]
    omega
theorem bs_inj {a b : Int} (ha : i64 a) (hb : i64 b) (h : bs a = bs b) : a = b := by
  have h1 := dec_bs a [] ha
  have h2 := dec_bs b [] hb
  rw [h] at h1
  rw [h1] at h2
  injection h2 with h2
  injection h2

theorem str_eq (x y : List UInt8) : ((⟨x.toArray⟩ : ByteArray).toList == (⟨y.toArray⟩ : ByteArray).toList) = (x == y) := by
  simp [ByteArray.toList_eq]

set_option maxRecDepth 100000 in
set_option maxHeartbeats 4000000 in
theorem sizes_walk (a b : Int) (w : World) (ha : i64 a) (hb : i64 b) : Calls Try.prog 7 #[.int .i64 a, .int .i64 b] w (TruePost w) := by
  have f1 := bs_pos a
  have f2 := bs_len a
  have f3 := bs_pos b
  have f4 := bs_len b
  have F5 := Lib.hid (bs_one a)
  have F6 := Lib.hid (fun h h2 => bs_up (a := a) (b := b) h h2)
  have F7 := Lib.hid (fun h h2 => bs_down (a := a) (b := b) h h2)
  have F8 := Lib.hid (fun h => bs_inj (a := a) (b := b) ha hb h)
  go_enter Try.func7, Try.ntmps7
  go_wp2_with fail
  refine (awake_all w).mono ?_
  rintro e w1 ⟨rfl, hb1⟩
  have hw1 := Wr.new w1
  have hc1 := hb1.alloc hb1.size (.cells #[.slice none 0 0] 33)
  go_wp2_with fail
  refine (wint_all w1.heap.size [] a _ hw1 ha (by simp)).mono ?_
  rintro e w2 ⟨rfl, hw2, hb2⟩
  have hc2 := hc1.trans (hb2.mono hb1.size)
  rw [List.nil_append] at hw2
  clear hw1 hc1 hb2 hb1
  go_wp2_with fail
  refine (wbytes_all w1.heap.size (bs a) _ hw2 (by omega)).mono ?_
  rintro e w3 ⟨A, ca, rfl, ho3, hb3⟩
  have hc3 := hc2.trans (hb3.mono hc2.size)
  have hLa := Lie.of_own ho3
  have hw3 := Wr.new w3
  have hb3' : Below w3.heap.size w3 (w3.alloc (.cells #[.slice none 0 0] 33)) := (Below.refl _ w3).alloc (Nat.le_refl _) _
  clear hw2 hc2 hb3 ho3
  go_wp2_with fail
  refine (wint_all w3.heap.size [] b _ hw3 hb (by simp)).mono ?_
  rintro e w4 ⟨rfl, hw4, hb4⟩
  have hb4' := hb3'.trans hb4
  rw [List.nil_append] at hw4
  clear hw3 hb4 hb3'
  go_wp2_with fail
  refine (wbytes_all w3.heap.size (bs b) _ hw4 (by omega)).mono ?_
  rintro e w5 ⟨B, cb, rfl, ho5, hb5⟩
  have hLb := Lie.of_own ho5
  have hb5' := hb4'.trans (hb5.mono hb4'.size)
  have hLa5 := hLa.below hb5'
  have hc5 := hc3.trans (hb5'.mono hc3.size)
  clear hw4 hb4' hb5 ho5 hLa hc3 hb5'
  have hcv1 := conv_lie ca hLa5
  have hcv2 := conv_lie cb hLb
  have hst := str_eq (bs a) (bs b)
  clear hLa5 hLb
  by_cases hab : a = b
  · subst hab
    clear hst F8
    generalize (⟨(bs a).toArray⟩ : ByteArray) = SA at *
    generalize (bs a).length = la at *
    have g1 : decide ((la : Int) < 1) = false := by simp; omega
    have g2 : decide ((10 : Int) < (la : Int)) = false := by simp; omega
    by_cases h1 : -64 ≤ a ∧ a ≤ 63
    · have e1 : la = 1 := F5.out.2 h1
      obtain ⟨h1a, h1b⟩ := h1
      clear F5
      subst e1
      go_wp2
      all_goals go_ret
      all_goals (refine ⟨ret_bool ?_, hc5⟩; first | rfl | (have h6 := F6.out; have h7 := F7.out; simp; omega))
    · have e1 : ((la : Int) == 1) = false := beq_eq_false_iff_ne.2 (fun h => h1 (F5.out.1 (by omega)))
      clear F5
      rcases (show a < -64 ∨ 63 < a by omega) with h2 | h2
      all_goals
        clear h1
        go_wp2
        all_goals go_ret
        all_goals (refine ⟨ret_bool ?_, hc5⟩; first | rfl | (have h6 := F6.out; have h7 := F7.out; simp))
  · have hne : ¬ bs a = bs b := fun h => hab (F8.out h)
    have hst2 : ((⟨(bs a).toArray⟩ : ByteArray).toList == (⟨(bs b).toArray⟩ : ByteArray).toList) = false := by rw [hst]; exact beq_eq_false_iff_ne.2 hne
    have hin : (a == b) = false := beq_eq_false_iff_ne.2 hab
    clear hst hne F8
    generalize (⟨(bs a).toArray⟩ : ByteArray) = SA at *
    generalize (⟨(bs b).toArray⟩ : ByteArray) = SB at *
    generalize (bs a).length = la at *
    generalize (bs b).length = lb at *
    have g1 : decide ((la : Int) < 1) = false := by simp; omega
    have g2 : decide ((10 : Int) < (la : Int)) = false := by simp; omega
    by_cases h1 : -64 ≤ a ∧ a ≤ 63
    · have e1 : la = 1 := F5.out.2 h1
      obtain ⟨h1a, h1b⟩ := h1
      clear F5
      subst e1
      go_wp2
      all_goals go_ret
      all_goals (refine ⟨ret_bool ?_, hc5⟩; first | rfl | (have h6 := F6.out; have h7 := F7.out; simp; omega))
    · have e1 : ((la : Int) == 1) = false := beq_eq_false_iff_ne.2 (fun h => h1 (F5.out.1 (by omega)))
      clear F5
      rcases (show a < -64 ∨ 63 < a by omega) with h2 | h2
      all_goals
        clear h1
        go_wp2
        all_goals go_ret
        all_goals (refine ⟨ret_bool ?_, hc5⟩; first | rfl | (have h6 := F6.out; have h7 := F7.out; simp; omega))
end Go.Proofs.Yteokhbcpfhjhdaa.Pk
