/-
  The contracts of the document's own Number and Show.
-/
import Derived.Test.YtinocaggponpmaaGreatDoorLexW3
import Derived.Test.YtinocaggponpmaaGreatDoorLexN
import Derived.Lib.ItoaLen
import Derived.Laws.Strings2
namespace Go.Proofs.YtinocaggponpmaaGreatDoor.Lx
open Go.RowKit

theorem drop_getD (l : List UInt8) (k : Nat) (h : k < l.length) : l.drop k = l.getD k 0 :: l.drop (k + 1) := by
  rw [List.drop_eq_getElem_cons h, List.getD_eq_getElem?_getD, List.getElem?_eq_getElem h]; rfl

set_option maxHeartbeats 4000000 in
theorem refNumber_any (s : ByteArray) (w : World) (hs : s.size ≤ 9223372036854775806) :
    Calls Tryz.prog 73 #[.string s] w fun e w' => e = numE (numberL s.data.toList) ∧ w = w' := by
  have hll : s.data.toList.length = s.size := Array.length_toList
  have hnb := numberL_bytes s.data.toList
  by_cases h0 : s.size = 0
  · have HX : Hid (numberL s.data.toList = none) := by
      unfold Hid; rw [hnb, if_pos (Or.inl (List.eq_nil_of_length_eq_zero (by omega)))]
    have b0 : ((s.size : Int) == 0) = true := by simp [h0]
    clear hnb hll h0
    go_enter Tryz.func73, Tryz.ntmps73
    go_wp2
    go_ret2
    exact ⟨by rw [HX.out]; rfl, rfl⟩
  · have b0 : ((s.size : Int) == 0) = false := beq_eq_false_iff_ne.2 (by omega)
    have hix0 : ∀ W, (Instr.index 9 (.string s) (.int .i64 0)).run Tryz.prog W = .ok (.int .u8 ((s.data.toList.getD 0 0).toNat : Int)) W := fun W => str_index s 0 (by omega) W
    have hne : s.data.toList ≠ [] := by intro h; have := hll; rw [h, List.length_nil] at this; omega
    have hd0 : s.data.toList.head? = some (s.data.toList.getD 0 0) := by
      match hm : s.data.toList, hne with
      | b :: t, _ => rfl
    have h255 := (s.data.toList.getD 0 0).toNat_lt
    by_cases hz : 1 < s.size ∧ (s.data.toList.getD 0 0).toNat = 48
    · have HX : Hid (numberL s.data.toList = none) := by
        unfold Hid; rw [hnb, if_pos]
        refine Or.inr ⟨by omega, ?_⟩
        rw [hd0]
        exact congrArg some (UInt8.toNat_inj.1 hz.2)
      obtain ⟨hz1, hz2⟩ := hz
      have b1 : decide ((1 : Int) < s.size) = true := by simp; omega
      have b2 : (((s.data.toList.getD 0 0).toNat : Int) == 48) = true := by rw [hz2]; rfl
      clear hd0 hnb hll hne hz2
      generalize (s.data.toList.getD 0 0).toNat = b at *
      go_enter Tryz.func73, Tryz.ntmps73
      go_wp2
      go_ret2
      exact ⟨by rw [HX.out]; rfl, rfl⟩
    · have HX : Hid (numberL s.data.toList = numB 0 (s.data.toList.drop 0)) := by
        unfold Hid; rw [hnb, if_neg, List.drop_zero]
        rintro (h | ⟨h, h'⟩)
        · exact hne h
        · rw [hd0] at h'
          exact hz ⟨by omega, by rw [Option.some.inj h']; rfl⟩
      have hc : (decide ((1 : Int) < s.size) = false) ∨ (decide ((1 : Int) < s.size) = true ∧ (((s.data.toList.getD 0 0).toNat : Int) == 48) = false) := by
        by_cases hq : 1 < s.size
        · right; refine ⟨by simp; omega, ?_⟩
          simp only [beq_eq_false_iff_ne, ne_eq]
          intro h; exact hz ⟨hq, by omega⟩
        · left; simp; omega
      have HL := Lib.hid hll
      clear hd0 hnb hll hne hz
      generalize (s.data.toList.getD 0 0).toNat = b at *
      rcases hc with c1 | ⟨c1, c2⟩
      all_goals
        go_enter Tryz.func73, Tryz.ntmps73
        go_wp2
        clear hix0
        go_loop [4, 5] (fun n i => ∃ (k : Nat) (m : Int), k ≤ s.size ∧ i = .int .i64 k ∧ n = .int .i64 m ∧ 0 ≤ m ∧ m ≤ 9223372036854775807 ∧ Hid (numberL s.data.toList = numB m (s.data.toList.drop k))) (fun _ i => s.size - (intOf i).toNat)
        case atStart => exact ⟨0, 0, by omega, rfl, rfl, by omega, by omega, HX.out⟩
        case round =>
          clear HX
          obtain ⟨k, m, hk, rfl, rfl, hm0, hm1, HI⟩ := hrel
          by_cases hlt : k < s.size
          · have hix := str_index s k hlt
            have HD := Lib.hid (drop_getD s.data.toList k (by rw [HL.out]; exact hlt))
            generalize s.data.toList.getD k 0 = b at *
            have h255 := b.toNat_lt
            by_cases hd : b.toNat < 48 ∨ 57 < b.toNat
            · have HG : Hid (numberL s.data.toList = none) := by
                unfold Hid; rw [HI.out, HD.out]; unfold numB; rw [if_pos hd]
              rcases (show b.toNat < 48 ∨ (48 ≤ b.toNat ∧ 57 < b.toNat) from by omega) with h | ⟨h, h'⟩
              all_goals
                clear hd
                go_wp2
                go_ret2
                exact ⟨by rw [HG.out]; rfl, rfl⟩
            · have h48 : 48 ≤ b.toNat := by omega
              have h57 : b.toNat ≤ 57 := by omega
              by_cases hbig : (9223372036854775807 - ((b.toNat : Int) - 48)) / 10 < m
              · have HG : Hid (numberL s.data.toList = none) := by
                  unfold Hid; rw [HI.out, HD.out]; unfold numB; rw [if_neg hd, if_pos hbig]
                clear hd
                generalize b.toNat = q at *
                go_wp2
                go_ret2
                exact ⟨by rw [HG.out]; rfl, rfl⟩
              · have HG : Hid (numberL s.data.toList = numB (10 * m + ((b.toNat : Int) - 48)) (s.data.toList.drop (k + 1))) := by
                  unfold Hid; rw [HI.out, HD.out]; conv => lhs; unfold numB
                  rw [if_neg hd, if_neg hbig]
                clear hd HD
                generalize b.toNat = q at *
                have hb2 : m ≤ (9223372036854775807 - ((q : Int) - 48)) / 10 := by omega
                have hb3 : 10 * m + ((q : Int) - 48) ≤ 9223372036854775807 := by omega
                clear hbig
                go_wp2
                go_round
                case rel => exact ⟨k + 1, 10 * m + ((q : Int) - 48), by omega, by go_num, rfl, by omega, by omega, HG.out⟩
                case measure => simp [intOf]; omega
          · have HG : Hid (numberL s.data.toList = some m) := by
              unfold Hid; rw [HI.out, List.drop_eq_nil_of_le (by rw [HL.out]; omega)]; rfl
            go_wp2
            go_ret2
            exact ⟨by rw [HG.out]; rfl, rfl⟩

theorem dig_at : ∀ k : Fin 10, ((⟨#[48, 49, 50, 51, 52, 53, 54, 55, 56, 57]⟩ : ByteArray).extract k.val (k.val + 1)) = ⟨#[UInt8.ofNat (48 + k.val)]⟩ := by decide
theorem dig_slice (d : Nat) (hd : d < 10) (W : World) :
    (Instr.slice 9 (.string ⟨#[48, 49, 50, 51, 52, 53, 54, 55, 56, 57]⟩) (some (.int .i64 (d : Int))) (some (.int .i64 ((d : Int) + 1))) none).run Tryz.prog W = .ok (.string ⟨#[UInt8.ofNat (48 + d)]⟩) W := by
  have h := run_slice_string (P := Tryz.prog) (w := W) 9 ⟨#[48, 49, 50, 51, 52, 53, 54, 55, 56, 57]⟩ .i64 .i64 (d : Int) ((d : Int) + 1) Tryz.underlying9 (by omega) (by omega) (by show (d : Int) + 1 ≤ 10; omega)
  rw [h, Int.toNat_natCast, show ((d : Int) + 1).toNat = d + 1 from by omega, dig_at ⟨d, hd⟩]
theorem cons_bytes (b : UInt8) (acc : List UInt8) : ((⟨#[b]⟩ : ByteArray) ++ ⟨acc.toArray⟩) = ⟨(b :: acc).toArray⟩ := by
  apply ByteArray.ext
  apply Array.toList_inj.1
  simp

/-- The rounds of Show over a number from 0 on: what is left of it, and what has been written. -/
def ShowRel (U : Nat) (s n : Value) : Prop :=
  ∃ (u : Nat) (acc : List UInt8), n = .int .i64 u ∧ s = .string ⟨acc.toArray⟩ ∧ u ≤ 9223372036854775807 ∧ Lib.decDigits U = Lib.decDigits u ++ acc

set_option maxHeartbeats 4000000 in
theorem refShow_pos (U : Nat) (w : World) (hU : U ≤ 9223372036854775807) :
    Calls Tryz.prog 55 #[.int .i64 U] w fun e w' => e = .returned (.string ⟨(Lib.itoa U).toArray⟩) ∧ w = w' := by
  have hlen : (Lib.decDigits U).length ≤ 20 := by
    rw [Lib.decDigits_length]; exact Lib.nDigits_le20 U (by omega)
  have hm0 : decide ((U : Int) < 0) = false := by simp
  go_enter Tryz.func55, Tryz.ntmps55
  go_wp2
  go_loop [0, 4] (fun n s => ShowRel U s n) (fun n _ => (intOf n).toNat)
  case atStart => exact ⟨U, [], rfl, rfl, hU, by simp⟩
  case round =>
    obtain ⟨u, acc, rfl, rfl, hu, hI⟩ := hrel
    have hac : acc.length ≤ 20 := by
      have := congrArg List.length hI
      rw [List.length_append] at this
      omega
    have HI := Lib.hid hI
    clear hI
    have hsl : ∀ W, (Instr.slice 9 (.string ⟨#[48, 49, 50, 51, 52, 53, 54, 55, 56, 57]⟩) (some (.int .i64 ((u : Int) % 10))) (some (.int .i64 ((u : Int) % 10 + 1))) none).run Tryz.prog W = .ok (.string ⟨#[UInt8.ofNat (48 + u % 10)]⟩) W := fun W => by
      have h := dig_slice (u % 10) (by omega) W
      have e : ((u % 10 : Nat) : Int) = (u : Int) % 10 := by omega
      rw [e] at h
      exact h
    by_cases h10 : u < 10
    · have hz : ((u : Int) / 10 == 0) = true := beq_iff_eq.2 (by omega)
      have HF : Hid (Lib.decDigits U = UInt8.ofNat (48 + u % 10) :: acc) := by
        unfold Hid; rw [HI.out, Lib.decDigits_one h10, show u % 10 = u from by omega]; rfl
      clear HI
      generalize UInt8.ofNat (48 + u % 10) = b at *
      go_wp2
      go_ret
      exact ⟨ret_str (by rw [Lib.itoa_nonneg, HF.out]; exact cons_bytes b acc), rfl⟩
    · have hz : ((u : Int) / 10 == 0) = false := beq_eq_false_iff_ne.2 (by omega)
      have HF : Hid (Lib.decDigits U = Lib.decDigits (u / 10) ++ (UInt8.ofNat (48 + u % 10) :: acc)) := by
        unfold Hid; rw [HI.out, Lib.decDigits, dif_neg h10, List.append_assoc]; rfl
      clear HI
      generalize UInt8.ofNat (48 + u % 10) = b at *
      go_wp2
      go_round
      case rel => exact ⟨u / 10, b :: acc, congrArg (Value.int .i64) (by omega), congrArg Value.string (cons_bytes b acc), by omega, HF.out⟩
      case measure => simp [intOf]; omega
set_option maxHeartbeats 4000000 in
theorem refShow_neg (U : Nat) (w : World) (hU0 : 1 ≤ U) (hU : U ≤ 9223372036854775807) :
    Calls Tryz.prog 55 #[.int .i64 (-(U : Int))] w fun e w' => e = .returned (.string ⟨(Lib.itoa (-(U : Int))).toArray⟩) ∧ w = w' := by
  have hlen : (Lib.decDigits U).length ≤ 20 := by
    rw [Lib.decDigits_length]; exact Lib.nDigits_le20 U (by omega)
  have hm0 : decide (-(U : Int) < 0) = true := by simp; omega
  have hm1 : (-(U : Int) == -9223372036854775808) = false := beq_eq_false_iff_ne.2 (by omega)
  go_enter Tryz.func55, Tryz.ntmps55
  go_wp2
  go_loop [0, 4] (fun n s => ShowRel U s n) (fun n _ => (intOf n).toNat)
  case atStart => exact ⟨U, [], rfl, rfl, hU, by simp⟩
  case round =>
    obtain ⟨u, acc, rfl, rfl, hu, hI⟩ := hrel
    have hac : acc.length ≤ 20 := by
      have := congrArg List.length hI
      rw [List.length_append] at this
      omega
    have HI := Lib.hid hI
    clear hI
    have hsl : ∀ W, (Instr.slice 9 (.string ⟨#[48, 49, 50, 51, 52, 53, 54, 55, 56, 57]⟩) (some (.int .i64 ((u : Int) % 10))) (some (.int .i64 ((u : Int) % 10 + 1))) none).run Tryz.prog W = .ok (.string ⟨#[UInt8.ofNat (48 + u % 10)]⟩) W := fun W => by
      have h := dig_slice (u % 10) (by omega) W
      have e : ((u % 10 : Nat) : Int) = (u : Int) % 10 := by omega
      rw [e] at h
      exact h
    by_cases h10 : u < 10
    · have hz : ((u : Int) / 10 == 0) = true := beq_iff_eq.2 (by omega)
      have HF : Hid (Lib.decDigits U = UInt8.ofNat (48 + u % 10) :: acc) := by
        unfold Hid; rw [HI.out, Lib.decDigits_one h10, show u % 10 = u from by omega]; rfl
      clear HI
      generalize UInt8.ofNat (48 + u % 10) = b at *
      go_wp2
      go_ret
      exact ⟨ret_str (by rw [Lib.itoa_neg U (by omega), HF.out, cons_bytes b acc]; exact cons_bytes 45 (b :: acc)), rfl⟩
    · have hz : ((u : Int) / 10 == 0) = false := beq_eq_false_iff_ne.2 (by omega)
      have HF : Hid (Lib.decDigits U = Lib.decDigits (u / 10) ++ (UInt8.ofNat (48 + u % 10) :: acc)) := by
        unfold Hid; rw [HI.out, Lib.decDigits, dif_neg h10, List.append_assoc]; rfl
      clear HI
      generalize UInt8.ofNat (48 + u % 10) = b at *
      go_wp2
      go_round
      case rel => exact ⟨u / 10, b :: acc, congrArg (Value.int .i64) (by omega), congrArg Value.string (cons_bytes b acc), by omega, HF.out⟩
      case measure => simp [intOf]; omega
/-- The rounds of Show at the least number. -/
def LeastRel (s n : Value) : Prop :=
  (n = .int .i64 9223372036854775807 ∧ s = .string ⟨#[]⟩) ∨
  ∃ (u : Nat) (b : UInt8) (acc : List UInt8), n = .int .i64 u ∧ s = .string ⟨(b :: acc).toArray⟩ ∧ u ≤ 922337203685477580 ∧ Lib.decDigits 9223372036854775808 = Lib.decDigits u ++ (b :: acc)

set_option maxHeartbeats 4000000 in
theorem refShow_least (w : World) :
    Calls Tryz.prog 55 #[.int .i64 (-9223372036854775808)] w fun e w' => e = .returned (.string ⟨(Lib.itoa (-9223372036854775808)).toArray⟩) ∧ w = w' := by
  have hlen : (Lib.decDigits 9223372036854775808).length ≤ 20 := by
    rw [Lib.decDigits_length]; exact Lib.nDigits_le20 _ (by omega)
  have HD : Hid (Lib.decDigits 9223372036854775808 = Lib.decDigits 922337203685477580 ++ [56]) := by
    unfold Hid; rw [Lib.decDigits, dif_neg (by omega)]; rfl
  have HZ : Hid (Lib.itoa (-9223372036854775808) = 45 :: Lib.decDigits 9223372036854775808) := Lib.itoa_neg 9223372036854775808 (by omega)
  have HL := Lib.hid hlen
  clear hlen
  go_enter Tryz.func55, Tryz.ntmps55
  go_wp2
  go_loop [0, 4] (fun n s => LeastRel s n) (fun n _ => (intOf n).toNat)
  case atStart => exact Or.inl ⟨rfl, rfl⟩
  case round =>
    rcases hrel with ⟨rfl, rfl⟩ | ⟨u, b0, acc, rfl, rfl, hu, hI⟩
    · have hsl : ∀ W, (Instr.slice 9 (.string ⟨#[48, 49, 50, 51, 52, 53, 54, 55, 56, 57]⟩) (some (.int .i64 8)) (some (.int .i64 9)) none).run Tryz.prog W = .ok (.string ⟨#[56]⟩) W := fun W => dig_slice 8 (by omega) W
      go_wp2
      go_round
      case rel => exact Or.inr ⟨922337203685477580, 56, [], rfl, congrArg Value.string (cons_bytes 56 []), by omega, HD.out⟩
      case measure => simp [intOf]
    · have hac : acc.length ≤ 20 := by
        have := congrArg List.length hI
        have h2 := HL.out
        rw [List.length_append, List.length_cons] at this
        omega
      have HI := Lib.hid hI
      clear hI HD
      have hsl : ∀ W, (Instr.slice 9 (.string ⟨#[48, 49, 50, 51, 52, 53, 54, 55, 56, 57]⟩) (some (.int .i64 ((u : Int) % 10))) (some (.int .i64 ((u : Int) % 10 + 1))) none).run Tryz.prog W = .ok (.string ⟨#[UInt8.ofNat (48 + u % 10)]⟩) W := fun W => by
        have h := dig_slice (u % 10) (by omega) W
        have e : ((u % 10 : Nat) : Int) = (u : Int) % 10 := by omega
        rw [e] at h
        exact h
      have hne : (⟨(b0 :: acc).toArray⟩ : ByteArray).toList.isEmpty = false := by rw [Lib.toList_data]; rfl
      by_cases h10 : u < 10
      · have hz : ((u : Int) / 10 == 0) = true := beq_iff_eq.2 (by omega)
        have HF : Hid (Lib.decDigits 9223372036854775808 = UInt8.ofNat (48 + u % 10) :: b0 :: acc) := by
          unfold Hid; rw [HI.out, Lib.decDigits_one h10, show u % 10 = u from by omega]; rfl
        clear HI
        generalize UInt8.ofNat (48 + u % 10) = b at *
        go_wp2
        go_ret
        exact ⟨ret_str (by rw [HZ.out, HF.out, cons_bytes b (b0 :: acc)]; exact cons_bytes 45 (b :: b0 :: acc)), rfl⟩
      · have hz : ((u : Int) / 10 == 0) = false := beq_eq_false_iff_ne.2 (by omega)
        have HF : Hid (Lib.decDigits 9223372036854775808 = Lib.decDigits (u / 10) ++ (UInt8.ofNat (48 + u % 10) :: b0 :: acc)) := by
          unfold Hid; rw [HI.out, Lib.decDigits, dif_neg h10, List.append_assoc]; rfl
        clear HI
        generalize UInt8.ofNat (48 + u % 10) = b at *
        go_wp2
        go_round
        case rel => exact Or.inr ⟨u / 10, b, b0 :: acc, congrArg (Value.int .i64) (by omega), congrArg Value.string (cons_bytes b (b0 :: acc)), by omega, HF.out⟩
        case measure => simp [intOf]; omega

theorem refShow_any (n : Int) (w : World) (h0 : -9223372036854775808 ≤ n) (h1 : n ≤ 9223372036854775807) :
    Calls Tryz.prog 55 #[.int .i64 n] w fun e w' => e = .returned (.string ⟨(Lib.itoa n).toArray⟩) ∧ w = w' := by
  by_cases hl : n = -9223372036854775808
  · subst hl; exact refShow_least w
  · by_cases hn : n < 0
    · obtain ⟨u, rfl⟩ : ∃ u : Nat, n = -(u : Int) := ⟨n.natAbs, by omega⟩
      exact refShow_neg u w (by omega) (by omega)
    · obtain ⟨u, rfl⟩ : ∃ u : Nat, n = (u : Int) := ⟨n.toNat, by omega⟩
      exact refShow_pos u w (by omega)
end Go.Proofs.YtinocaggponpmaaGreatDoor.Lx
