/-
  The contracts of lex's sign and token.
-/
import Derived.Test.YtinocaggponpmaaGreatDoorLexW6
namespace Go.Proofs.YtinocaggponpmaaGreatDoor.Lx
open Go.RowKit

theorem hasPrefix_two (l : List UInt8) (a : UInt8) : Lib.hasPrefix l [a, 61] = (match l with | x :: y :: _ => x == a && y == 61 | _ => false) := by
  match l with
  | [] => rfl
  | [x] => simp [Lib.hasPrefix, List.isPrefixOf]
  | x :: y :: t =>
    simp only [Lib.hasPrefix, List.isPrefixOf, Bool.and_true]
    rw [Bool.beq_comm (a := a), Bool.beq_comm (a := (61 : UInt8))]

theorem two_eq (l : List UInt8) : two l = (Lib.hasPrefix l [60, 61] || Lib.hasPrefix l [62, 61] || Lib.hasPrefix l [61, 61] || Lib.hasPrefix l [33, 61] || Lib.hasPrefix l [58, 61]) := by
  simp only [hasPrefix_two]
  match l with
  | [] => rfl
  | [x] => rfl
  | x :: y :: t =>
    simp only [two]
    cases (x == 60) <;> cases (x == 62) <;> cases (x == 61) <;> cases (x == 33) <;> cases (x == 58) <;> cases (y == 61) <;> rfl

/-- How many bytes the sign has, as far as the first j pairs tell. -/
def sizeTo (l : List UInt8) : Nat → Nat
  | 0 => 1
  | j + 1 => if Lib.hasPrefix l [[60, 62, 61, 33, 58].getD j 0, 61] = true then 2 else sizeTo l j
theorem sizeTo_five (l : List UInt8) : sizeTo l 5 = if two l = true then 2 else 1 := by
  rw [two_eq]
  simp only [sizeTo, List.getD_cons_succ, List.getD_cons_zero]
  cases Lib.hasPrefix l [60, 61] <;> cases Lib.hasPrefix l [62, 61] <;> cases Lib.hasPrefix l [61, 61] <;> cases Lib.hasPrefix l [33, 61] <;> cases Lib.hasPrefix l [58, 61] <;> rfl
theorem sizeTo_le (l : List UInt8) (h : 1 ≤ l.length) : ∀ j, 1 ≤ sizeTo l j ∧ sizeTo l j ≤ 2 ∧ sizeTo l j ≤ l.length
  | 0 => ⟨Nat.le_refl _, by simp [sizeTo], h⟩
  | j + 1 => by
    have ih := sizeTo_le l h j
    unfold sizeTo
    split
    · rename_i hp
      have := (List.isPrefixOf_iff_prefix.1 hp).length_le
      simp at this
      omega
    · exact ih

set_option maxHeartbeats 4000000 in
theorem sign_any (s : ByteArray) (w : World) (h1 : 1 ≤ s.size) (hs : s.size ≤ 20000) :
    Calls Tryz.prog 112 #[.string s] w fun e w' => e = tokE (signT s.data.toList) ∧ Below w.heap.size w w' := by
  have i0 : ∀ w, (Instr.index 139 (.agg #[.string ⟨#[60, 61]⟩, .string ⟨#[62, 61]⟩, .string ⟨#[61, 61]⟩, .string ⟨#[33, 61]⟩, .string ⟨#[58, 61]⟩]) (.int .i64 0)).run Tryz.prog w = .ok (.string ⟨#[60, 61]⟩) w := fun _ => by kernel_rfl
  have i1 : ∀ w, (Instr.index 139 (.agg #[.string ⟨#[60, 61]⟩, .string ⟨#[62, 61]⟩, .string ⟨#[61, 61]⟩, .string ⟨#[33, 61]⟩, .string ⟨#[58, 61]⟩]) (.int .i64 1)).run Tryz.prog w = .ok (.string ⟨#[62, 61]⟩) w := fun _ => by kernel_rfl
  have i2 : ∀ w, (Instr.index 139 (.agg #[.string ⟨#[60, 61]⟩, .string ⟨#[62, 61]⟩, .string ⟨#[61, 61]⟩, .string ⟨#[33, 61]⟩, .string ⟨#[58, 61]⟩]) (.int .i64 2)).run Tryz.prog w = .ok (.string ⟨#[61, 61]⟩) w := fun _ => by kernel_rfl
  have i3 : ∀ w, (Instr.index 139 (.agg #[.string ⟨#[60, 61]⟩, .string ⟨#[62, 61]⟩, .string ⟨#[61, 61]⟩, .string ⟨#[33, 61]⟩, .string ⟨#[58, 61]⟩]) (.int .i64 3)).run Tryz.prog w = .ok (.string ⟨#[33, 61]⟩) w := fun _ => by kernel_rfl
  have i4 : ∀ w, (Instr.index 139 (.agg #[.string ⟨#[60, 61]⟩, .string ⟨#[62, 61]⟩, .string ⟨#[61, 61]⟩, .string ⟨#[33, 61]⟩, .string ⟨#[58, 61]⟩]) (.int .i64 4)).run Tryz.prog w = .ok (.string ⟨#[58, 61]⟩) w := fun _ => by kernel_rfl
  go_enter Tryz.func112, Tryz.ntmps112
  go_wp2
  go_loop [5, 9] (fun z i => ∃ j k : Nat, j ≤ 5 ∧ i = .int .i64 j ∧ z = .int .i64 k ∧ 1 ≤ k ∧ k ≤ 2 ∧ k ≤ s.size ∧ Hid (k = sizeTo s.data.toList j)) (fun _ i => 5 - (intOf i).toNat)
  case atStart => exact ⟨0, 1, by omega, rfl, rfl, by omega, by omega, h1, rfl⟩
  case round =>
    obtain ⟨j, k, hj, rfl, rfl, hk1, hk2, hk3, HK⟩ := hrel
    have hsz := fun j => sizeTo_le s.data.toList (by rw [Array.length_toList]; exact h1) j
    rw [show s.data.toList.length = s.size from Array.length_toList] at hsz
    by_cases hlt : j < 5
    · rcases (show j = 0 ∨ j = 1 ∨ j = 2 ∨ j = 3 ∨ j = 4 from by omega) with rfl | rfl | rfl | rfl | rfl
      · clear hj hlt
        have HS : Hid (sizeTo s.data.toList 1 = if Lib.hasPrefix s.data.toList [60, 61] = true then 2 else sizeTo s.data.toList 0) := rfl
        have hz := hsz 1
        clear hsz
        rcases hpx : Lib.hasPrefix s.data.toList [60, 61] with _ | _
        · go_wp2_with (go_at_call 63; refine (hasPrefix_any _ _ _).mono ?_; rintro e w' ⟨rfl, rfl⟩)
          go_round
          case rel => exact ⟨1, k, by omega, rfl, rfl, by omega, by omega, by omega, by have := HS.out; rw [hpx] at this; unfold Hid; rw [this]; exact HK.out⟩
          case measure => simp [intOf]
        · go_wp2_with (go_at_call 63; refine (hasPrefix_any _ _ _).mono ?_; rintro e w' ⟨rfl, rfl⟩)
          go_round
          case rel => exact ⟨1, 2, by omega, rfl, rfl, by omega, by omega, by have := HS.out; rw [hpx] at this; simp at this; omega, by have := HS.out; rw [hpx] at this; simp at this; exact this.symm⟩
          case measure => simp [intOf]
      · clear hj hlt
        have HS : Hid (sizeTo s.data.toList 2 = if Lib.hasPrefix s.data.toList [62, 61] = true then 2 else sizeTo s.data.toList 1) := rfl
        have hz := hsz 2
        clear hsz
        rcases hpx : Lib.hasPrefix s.data.toList [62, 61] with _ | _
        · go_wp2_with (go_at_call 63; refine (hasPrefix_any _ _ _).mono ?_; rintro e w' ⟨rfl, rfl⟩)
          go_round
          case rel => exact ⟨2, k, by omega, rfl, rfl, by omega, by omega, by omega, by have := HS.out; rw [hpx] at this; unfold Hid; rw [this]; exact HK.out⟩
          case measure => simp [intOf]
        · go_wp2_with (go_at_call 63; refine (hasPrefix_any _ _ _).mono ?_; rintro e w' ⟨rfl, rfl⟩)
          go_round
          case rel => exact ⟨2, 2, by omega, rfl, rfl, by omega, by omega, by have := HS.out; rw [hpx] at this; simp at this; omega, by have := HS.out; rw [hpx] at this; simp at this; exact this.symm⟩
          case measure => simp [intOf]
      · clear hj hlt
        have HS : Hid (sizeTo s.data.toList 3 = if Lib.hasPrefix s.data.toList [61, 61] = true then 2 else sizeTo s.data.toList 2) := rfl
        have hz := hsz 3
        clear hsz
        rcases hpx : Lib.hasPrefix s.data.toList [61, 61] with _ | _
        · go_wp2_with (go_at_call 63; refine (hasPrefix_any _ _ _).mono ?_; rintro e w' ⟨rfl, rfl⟩)
          go_round
          case rel => exact ⟨3, k, by omega, rfl, rfl, by omega, by omega, by omega, by have := HS.out; rw [hpx] at this; unfold Hid; rw [this]; exact HK.out⟩
          case measure => simp [intOf]
        · go_wp2_with (go_at_call 63; refine (hasPrefix_any _ _ _).mono ?_; rintro e w' ⟨rfl, rfl⟩)
          go_round
          case rel => exact ⟨3, 2, by omega, rfl, rfl, by omega, by omega, by have := HS.out; rw [hpx] at this; simp at this; omega, by have := HS.out; rw [hpx] at this; simp at this; exact this.symm⟩
          case measure => simp [intOf]
      · clear hj hlt
        have HS : Hid (sizeTo s.data.toList 4 = if Lib.hasPrefix s.data.toList [33, 61] = true then 2 else sizeTo s.data.toList 3) := rfl
        have hz := hsz 4
        clear hsz
        rcases hpx : Lib.hasPrefix s.data.toList [33, 61] with _ | _
        · go_wp2_with (go_at_call 63; refine (hasPrefix_any _ _ _).mono ?_; rintro e w' ⟨rfl, rfl⟩)
          go_round
          case rel => exact ⟨4, k, by omega, rfl, rfl, by omega, by omega, by omega, by have := HS.out; rw [hpx] at this; unfold Hid; rw [this]; exact HK.out⟩
          case measure => simp [intOf]
        · go_wp2_with (go_at_call 63; refine (hasPrefix_any _ _ _).mono ?_; rintro e w' ⟨rfl, rfl⟩)
          go_round
          case rel => exact ⟨4, 2, by omega, rfl, rfl, by omega, by omega, by have := HS.out; rw [hpx] at this; simp at this; omega, by have := HS.out; rw [hpx] at this; simp at this; exact this.symm⟩
          case measure => simp [intOf]
      · clear hj hlt
        have HS : Hid (sizeTo s.data.toList 5 = if Lib.hasPrefix s.data.toList [58, 61] = true then 2 else sizeTo s.data.toList 4) := rfl
        have hz := hsz 5
        clear hsz
        rcases hpx : Lib.hasPrefix s.data.toList [58, 61] with _ | _
        · go_wp2_with (go_at_call 63; refine (hasPrefix_any _ _ _).mono ?_; rintro e w' ⟨rfl, rfl⟩)
          go_round
          case rel => exact ⟨5, k, by omega, rfl, rfl, by omega, by omega, by omega, by have := HS.out; rw [hpx] at this; unfold Hid; rw [this]; exact HK.out⟩
          case measure => simp [intOf]
        · go_wp2_with (go_at_call 63; refine (hasPrefix_any _ _ _).mono ?_; rintro e w' ⟨rfl, rfl⟩)
          go_round
          case rel => exact ⟨5, 2, by omega, rfl, rfl, by omega, by omega, by have := HS.out; rw [hpx] at this; simp at this; omega, by have := HS.out; rw [hpx] at this; simp at this; exact this.symm⟩
          case measure => simp [intOf]
    · clear hsz
      obtain rfl : j = 5 := by omega
      have HZ := sizeTo_five s.data.toList
      rw [← HK.out] at HZ
      have HZ' := Lib.hid HZ
      clear HZ HK
      go_wp2_with fail
      refine bodyPost_ret (v := .tuple #[.agg #[.int .i64 4, .string (s.extract 0 k), .int .i64 0, .int .i64 0], .int .i64 k, .int .i64 0]) (by simp [results, Tryz.results112, go_sem]) rfl ⟨tokE_of ?_ (by omega), ?_⟩
      · unfold signT
        rw [← HZ'.out, extract_take]
        simp
      · exact (Below.refl _ _).alloc (Nat.le_refl _) _

set_option maxHeartbeats 4000000 in
theorem token_any (c : Int) (s : ByteArray) (w : World) (h1 : 1 ≤ s.size) (hs : s.size ≤ 20000) :
    Calls Tryz.prog 66 #[.int .i64 c, .string s] w fun e w' => e = tokE (tokenT c s.data.toList) ∧ Below w.heap.size w w' := by
  by_cases h2 : c = 2
  · subst h2
    go_enter Tryz.func66, Tryz.ntmps66
    go_wp2_with fail
    refine (name_any _ _ hs).mono ?_
    rintro e w1 ⟨rfl, hb1⟩
    have hbw := below_new hb1
    have hx := ((Box.new w 52 _).below hb1 (by simp)).four
    obtain ⟨c0, c1, c2, c3, f0, f1, f2, f3⟩ := hx
    clear hb1
    generalize hw : nameT s.data.toList = x
    obtain ⟨⟨k, t, n, a⟩, z, e⟩ := x
    simp only [tokE, tokV]
    go_wp2_with fail
    refine bodyPost_ret (v := .tuple #[.agg #[.int .i64 k, .string ⟨t.toArray⟩, .int .i64 n, .int .i64 a], .int .i64 z, .int .i64 e]) (by simp [results, Tryz.results66, go_sem, c0, c1, c2, c3]) rfl ⟨?_, below_set4 hbw (Nat.le_refl _) _ _ _ _⟩
    rw [show tokenT 2 s.data.toList = nameT s.data.toList from rfl, hw]
    rfl
  by_cases h3 : c = 3
  · subst h3
    go_enter Tryz.func66, Tryz.ntmps66
    go_wp2_with fail
    refine (number_any _ _ hs).mono ?_
    rintro e w1 ⟨rfl, hb1⟩
    have hbw := below_new hb1
    have hx := ((Box.new w 52 _).below hb1 (by simp)).four
    obtain ⟨c0, c1, c2, c3, f0, f1, f2, f3⟩ := hx
    clear hb1
    generalize hw : numberT s.data.toList = x
    obtain ⟨⟨k, t, n, a⟩, z, e⟩ := x
    simp only [tokE, tokV]
    go_wp2_with fail
    refine bodyPost_ret (v := .tuple #[.agg #[.int .i64 k, .string ⟨t.toArray⟩, .int .i64 n, .int .i64 a], .int .i64 z, .int .i64 e]) (by simp [results, Tryz.results66, go_sem, c0, c1, c2, c3]) rfl ⟨?_, below_set4 hbw (Nat.le_refl _) _ _ _ _⟩
    rw [show tokenT 3 s.data.toList = numberT s.data.toList from rfl, hw]
    rfl
  by_cases h5 : c = 5
  · subst h5
    go_enter Tryz.func66, Tryz.ntmps66
    go_wp2_with fail
    refine (text_any _ _ hs).mono ?_
    rintro e w1 ⟨rfl, hb1⟩
    have hbw := below_new hb1
    have hx := ((Box.new w 52 _).below hb1 (by simp)).four
    obtain ⟨c0, c1, c2, c3, f0, f1, f2, f3⟩ := hx
    clear hb1
    generalize hw : textT s.data.toList = x
    obtain ⟨⟨k, t, n, a⟩, z, e⟩ := x
    simp only [tokE, tokV]
    go_wp2_with fail
    refine bodyPost_ret (v := .tuple #[.agg #[.int .i64 k, .string ⟨t.toArray⟩, .int .i64 n, .int .i64 a], .int .i64 z, .int .i64 e]) (by simp [results, Tryz.results66, go_sem, c0, c1, c2, c3]) rfl ⟨?_, below_set4 hbw (Nat.le_refl _) _ _ _ _⟩
    rw [show tokenT 5 s.data.toList = textT s.data.toList from rfl, hw]
    rfl
  by_cases h4 : c = 4
  · subst h4
    go_enter Tryz.func66, Tryz.ntmps66
    go_wp2_with fail
    refine (sign_any _ _ h1 hs).mono ?_
    rintro e w1 ⟨rfl, hb1⟩
    have hbw := below_new hb1
    have hx := ((Box.new w 52 _).below hb1 (by simp)).four
    obtain ⟨c0, c1, c2, c3, f0, f1, f2, f3⟩ := hx
    clear hb1
    generalize hw : signT s.data.toList = x
    obtain ⟨⟨k, t, n, a⟩, z, e⟩ := x
    simp only [tokE, tokV]
    go_wp2_with fail
    refine bodyPost_ret (v := .tuple #[.agg #[.int .i64 k, .string ⟨t.toArray⟩, .int .i64 n, .int .i64 a], .int .i64 z, .int .i64 e]) (by simp [results, Tryz.results66, go_sem, c0, c1, c2, c3]) rfl ⟨?_, below_set4 hbw (Nat.le_refl _) _ _ _ _⟩
    rw [show tokenT 4 s.data.toList = signT s.data.toList from rfl, hw]
    rfl
  have b2 : (c == 2) = false := by simp [h2]
  have b3 : (c == 3) = false := by simp [h3]
  have b5 : (c == 5) = false := by simp [h5]
  have b4 : (c == 4) = false := by simp [h4]
  have HT : Hid (tokenT c s.data.toList = (noTok, 0, 11)) := by unfold Hid tokenT; rw [if_neg h2, if_neg h3, if_neg h5, if_neg h4]
  clear h2 h3 h4 h5
  go_enter Tryz.func66, Tryz.ntmps66
  go_wp2_with fail
  refine bodyPost_ret (v := .tuple #[.agg #[.int .i64 0, .string ⟨#[]⟩, .int .i64 0, .int .i64 0], .int .i64 0, .int .i64 11]) (by simp [results, Tryz.results66, go_sem]) rfl ⟨tokE_of (by rw [HT.out]; rfl) (by omega), (Below.refl _ _).alloc (Nat.le_refl _) _⟩
end Go.Proofs.YtinocaggponpmaaGreatDoor.Lx
