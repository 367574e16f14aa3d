/-
  Contracts of lex's small functions over texts: invalid, remark, word, Name.
-/
import Derived.Test.YtinocaggponpmaaGreatDoorShelf
import Derived.Test.YtinocaggponpmaaGreatDoorLexW1
import Derived.Laws.RangeString
import Derived.Laws.RangeAny
import Derived.LoopTactic
import Derived.Lib.Strings
import Derived.Lib.Hide
namespace Go.Proofs.YtinocaggponpmaaGreatDoor.Lx
open Go.RowKit

theorem hasPrefix_any (s p : ByteArray) (w : World) :
    Calls Tryz.prog 63 #[.string s, .string p] w fun e w' => e = .returned (.bool (Lib.hasPrefix s.data.toList p.data.toList)) ∧ w = w' :=
  (Tryz.strings_HasPrefix s p w).mono fun _ _ h => ⟨h.1, h.2.symm⟩

def invB (r : Int) (l : List UInt8) : Bool := decide (r = 65533) && !Lib.hasPrefix l [239, 191, 189]

def invE (r : Int) (s : ByteArray) : Bool := invB r s.data.toList

set_option maxHeartbeats 400000 in
theorem invalid_any (r : Int) (s : ByteArray) (w : World) :
    Calls Tryz.prog 39 #[.int .i32 r, .string s] w fun e w' => e = .returned (.bool (invE r s)) ∧ w = w' := by
  by_cases h : r = 65533
  · have hb : (r == 65533) = true := by simp [h]
    have H := Lib.hid h; clear h
    go_enter Tryz.func39, Tryz.ntmps39
    go_wp2_with (go_at_call 63; refine (hasPrefix_any _ _ _).mono ?_; rintro e w' ⟨rfl, rfl⟩)
    all_goals go_ret
    all_goals exact ⟨ret_bool (by simp [invE, invB, H.out]), rfl⟩
  · have hb : (r == 65533) = false := by simp [h]
    have H := Lib.hid h; clear h
    go_enter Tryz.func39, Tryz.ntmps39
    go_wp2_with (go_at_call 63; refine (hasPrefix_any _ _ _).mono ?_; rintro e w' ⟨rfl, rfl⟩)
    all_goals go_ret
    all_goals exact ⟨ret_bool (by simp [invE, invB, H.out]), rfl⟩

theorem str_index (s : ByteArray) (k : Nat) (hk : k < s.size) (W : World) :
    (Instr.index 9 (.string s) (.int .i64 (k : Int))).run Tryz.prog W = .ok (.int .u8 ((s.data.toList.getD k 0).toNat : Int)) W := by
  have h := run_index_string (P := Tryz.prog) (w := W) 9 s .i64 (k : Int) Tryz.underlying9
  rw [dif_pos ⟨by omega, by omega⟩] at h
  rw [h]
  have hk' : k < s.data.toList.length := by rw [Array.length_toList]; exact hk
  have e : s.data.toList.getD k 0 = s[k]'hk := by
    rw [List.getD_eq_getElem?_getD, List.getElem?_eq_getElem hk']; rfl
  rw [e]
  simp

/-- The bytes from place pos on, as runes. -/
def at_ (s : ByteArray) (pos : Nat) : List (Nat × List UInt8) := rn (s.data.toList.drop pos)

theorem at_end (s : ByteArray) (pos : Nat) (h : ¬ pos < s.size) : at_ s pos = [] := by
  unfold at_
  rw [List.drop_eq_nil_of_le (by rw [Array.length_toList]; exact Nat.le_of_not_lt h)]
  rfl
theorem at_next (s : ByteArray) (pos : Nat) (h : pos < s.size) :
    at_ s pos = ((Utf8.decode s pos).1, (s.data.toList.drop pos).take (Utf8.decode s pos).2) :: at_ s (pos + (Utf8.decode s pos).2) := by
  unfold at_
  rw [decode_drop]
  exact rn_drop _ _ (by rw [Array.length_toList]; exact h)
theorem width_le (s : ByteArray) (pos : Nat) (h : pos < s.size) : pos + (Utf8.decode s pos).2 ≤ s.size ∧ 1 ≤ (Utf8.decode s pos).2 := by
  rw [decode_drop]
  have hl : s.data.toList.length = s.size := Array.length_toList
  have hne : s.data.toList.drop pos ≠ [] := by
    intro e; have := congrArg List.length e; rw [List.length_drop, hl] at this; simp at this; omega
  have h1 := dec_width _ hne
  have h2 := dec_pos _ hne
  rw [List.length_drop, hl] at h1
  omega
theorem take_len (s : ByteArray) (pos : Nat) (h : pos < s.size) : ((s.data.toList.drop pos).take (Utf8.decode s pos).2).length = (Utf8.decode s pos).2 := by
  have := width_le s pos h
  have hl : s.data.toList.length = s.size := Array.length_toList
  rw [List.length_take, List.length_drop, hl]
  omega

set_option maxHeartbeats 1000000 in
theorem remark_any (s : ByteArray) (w : World) (hs : s.size ≤ 20000) :
    Calls Tryz.prog 65 #[.string s] w fun e w' => e = .returned (.int .i64 (remarkL s.data.toList)) ∧ Below w.heap.size w w' := by
  go_enter Tryz.func65, Tryz.ntmps65
  go_wp2
  go_loopw [] (fun w' => ∃ pos : Nat, w' = w.iter s pos ∧ pos ≤ s.size ∧ Hid (remarkGo pos (at_ s pos) = remarkL s.data.toList)) (fun w' => s.size - w'.iterPos w.heap.size)
  case atStart => exact ⟨0, rfl, by omega, rfl⟩
  case round =>
    obtain ⟨pos, rfl, hpl, HI⟩ := hrel
    by_cases hp : pos < s.size
    · have hnx : ∀ ty, (Instr.next (.pointer (some ⟨w.heap.size, 0, none⟩)) true ty).run Tryz.prog (w.iter s pos) = _ := fun ty => run_next_any w s pos ty hp
      have hwd := width_le s pos hp
      have hle := decode_le s pos
      have HN := Lib.hid (at_next s pos hp)
      have HT := Lib.hid (take_len s pos hp)
      generalize hd : Utf8.decode s pos = d at *
      have Hd := Lib.hid hd; clear hd
      obtain ⟨r, wd⟩ := d
      by_cases h10 : r = 10
      · have hb : ((r : Int) == 10) = true := by simp [h10]
        have H10 := Lib.hid h10; clear h10
        go_wp2
        go_ret
        refine ⟨ret_int ?_, ?_⟩
        · have := HI.out
          rw [HN.out] at this
          simp only [remarkGo, H10.out, if_true] at this
          rw [this]
        · exact (Below.refl _ _).alloc (Nat.le_refl _) _
      · have hb : ((r : Int) == 10) = false := by simp; omega
        have H10 := Lib.hid h10; clear h10
        go_wp2
        go_roundw
        case rel => 
          refine ⟨pos + wd, rfl, by omega, ?_⟩
          have := HI.out
          rw [HN.out] at this
          simp only [remarkGo, H10.out, if_false, HT.out] at this
          exact this
        case measure => simp; omega
    · have hnx : ∀ ty, (Instr.next (.pointer (some ⟨w.heap.size, 0, none⟩)) true ty).run Tryz.prog (w.iter s pos) = _ := fun ty => run_next_end w s pos ty hp
      go_wp2
      go_ret
      refine ⟨ret_int ?_, ?_⟩
      · have := HI.out
        rw [at_end s pos hp] at this
        simp only [remarkGo] at this
        omega
      · exact (Below.refl _ _).alloc (Nat.le_refl _) _

theorem extract_take (s : ByteArray) (n : Nat) : s.extract 0 n = ⟨(s.data.toList.take n).toArray⟩ := by
  apply ByteArray.ext
  rw [ByteArray.data_extract]
  apply Array.toList_inj.1
  simp
theorem whole_list (s : ByteArray) : s = ⟨s.data.toList.toArray⟩ := by cases s; simp
theorem ret_str {a b : ByteArray} (h : a = b) : Ending.returned (.string a) = .returned (.string b) := by rw [h]

theorem wordC_cons (c : Nat × List UInt8) (cs : List (Nat × List UInt8)) : wordC (c :: cs) = if isW c = true then c.2 ++ wordC cs else [] := by
  unfold wordC
  rw [List.takeWhile_cons]
  split <;> rfl
theorem wordC_nil : wordC [] = [] := rfl
theorem wordC_le (cs : List (Nat × List UInt8)) : ∃ t, flat cs = wordC cs ++ t := by
  refine ⟨flat (cs.dropWhile isW), ?_⟩
  unfold wordC flat
  rw [← List.flatMap_append, List.takeWhile_append_dropWhile]
theorem wordL_take (l : List UInt8) : wordL l = l.take (wordL l).length := by
  obtain ⟨t, ht⟩ := wordC_le (rn l)
  rw [flat_rn] at ht
  have e : l = wordL l ++ t := ht
  conv => rhs; rw [e]
  rw [List.take_left']
  rw [← e]

set_option maxHeartbeats 1000000 in
theorem word_any (s : ByteArray) (w : World) (hs : s.size ≤ 20000) :
    Calls Tryz.prog 125 #[.string s] w fun e w' => e = .returned (.string ⟨(wordL s.data.toList).toArray⟩) ∧ Below w.heap.size w w' := by
  go_enter Tryz.func125, Tryz.ntmps125
  go_wp2
  go_loopw [] (fun w' => ∃ pos : Nat, w' = w.iter s pos ∧ pos ≤ s.size ∧ Hid (pos + (wordC (at_ s pos)).length = (wordL s.data.toList).length)) (fun w' => s.size - w'.iterPos w.heap.size)
  case atStart => exact ⟨0, rfl, by omega, by unfold Hid at_ wordL; simp⟩
  case round =>
    obtain ⟨pos, rfl, hpl, HI⟩ := hrel
    by_cases hp : pos < s.size
    · have hnx : ∀ ty, (Instr.next (.pointer (some ⟨w.heap.size, 0, none⟩)) true ty).run Tryz.prog (w.iter s pos) = _ := fun ty => run_next_any w s pos ty hp
      have hwd := width_le s pos hp
      have hle := decode_le s pos
      have HN := Lib.hid (at_next s pos hp)
      have HT := Lib.hid (take_len s pos hp)
      generalize hd : Utf8.decode s pos = d at *
      have Hd := Lib.hid hd; clear hd
      obtain ⟨r, wd⟩ := d
      rcases hL : letterI (r : Int) with _ | _ <;> rcases hD : digitI (r : Int) with _ | _
      · go_wp2_with (first
          | (go_at_call 107; refine (letter_any _ _).mono ?_; rintro e w' ⟨rfl, rfl⟩)
          | (go_at_call 108; refine (digit_any _ _).mono ?_; rintro e w' ⟨rfl, rfl⟩))
        go_ret
        refine ⟨ret_str ?_, (Below.refl _ _).alloc (Nat.le_refl _) _⟩
        have h1 := HI.out
        rw [HN.out, wordC_cons] at h1
        simp only [isW, hL, hD, Bool.or_self, Bool.false_eq_true, if_false, List.length_nil, Nat.add_zero] at h1
        rw [extract_take, h1, ← wordL_take]
      all_goals
        go_wp2_with (first
          | (go_at_call 107; refine (letter_any _ _).mono ?_; rintro e w' ⟨rfl, rfl⟩)
          | (go_at_call 108; refine (digit_any _ _).mono ?_; rintro e w' ⟨rfl, rfl⟩))
        go_roundw
        case rel =>
          refine ⟨pos + wd, rfl, by omega, ?_⟩
          have h1 := HI.out
          rw [HN.out, wordC_cons] at h1
          simp only [isW, hL, hD, Bool.or_true, Bool.or_false, if_true, List.length_append, HT.out] at h1
          unfold Hid
          omega
        case measure => simp; omega
    · have hnx : ∀ ty, (Instr.next (.pointer (some ⟨w.heap.size, 0, none⟩)) true ty).run Tryz.prog (w.iter s pos) = _ := fun ty => run_next_end w s pos ty hp
      go_wp2_with fail
      go_ret
      refine ⟨ret_str ?_, (Below.refl _ _).alloc (Nat.le_refl _) _⟩
      have h1 := HI.out
      rw [at_end s pos hp, wordC_nil] at h1
      simp only [List.length_nil, Nat.add_zero] at h1
      rw [wordL_take, ← h1, List.take_of_length_le (by rw [Array.length_toList]; exact Nat.le_of_not_lt hp)]

set_option maxHeartbeats 2000000 in
theorem Name_any (s : ByteArray) (w : World) :
    Calls Tryz.prog 89 #[.string s] w fun e w' => e = .returned (.bool (nameB s.data.toList)) ∧ Below w.heap.size w w' := by
  go_enter Tryz.func89, Tryz.ntmps89
  go_wp2
  go_loopw [3] (fun n w' => ∃ pos k : Nat, w' = w.iter s pos ∧ n = .int .i64 k ∧ k ≤ 12 ∧ Hid (nameGo k (at_ s pos) = nameB s.data.toList)) (fun _ w' => s.size - w'.iterPos w.heap.size)
  case atStart => exact ⟨0, 0, rfl, rfl, by omega, rfl⟩
  case round =>
    obtain ⟨pos, k, rfl, rfl, hk, HI⟩ := hrel
    by_cases hp : pos < s.size
    · have hnx : ∀ ty, (Instr.next (.pointer (some ⟨w.heap.size, 0, none⟩)) true ty).run Tryz.prog (w.iter s pos) = _ := fun ty => run_next_any w s pos ty hp
      have hwd := width_le s pos hp
      have hle := decode_le s pos
      have HN := Lib.hid (at_next s pos hp)
      generalize hd : Utf8.decode s pos = d at *
      have Hd := Lib.hid hd; clear hd
      obtain ⟨r, wd⟩ := d
      by_cases hs : k = 12 ∨ (letterI (r : Int) = false ∧ (k = 0 ∨ digitI (r : Int) = false))
      · have hfin : nameB s.data.toList = false := by
          rw [← HI.out, HN.out]; simp only [nameGo]; rw [if_pos hs]
        have HF := Lib.hid hfin; clear hfin
        rcases hs with h12 | ⟨hL, h0 | hD⟩
        · subst h12
          go_wp2_with (first
            | (go_at_call 107; refine (letter_any _ _).mono ?_; rintro e w' ⟨rfl, rfl⟩)
            | (go_at_call 108; refine (digit_any _ _).mono ?_; rintro e w' ⟨rfl, rfl⟩))
          go_ret
          exact ⟨ret_bool HF.out.symm, (Below.refl _ _).alloc (Nat.le_refl _) _⟩
        · subst h0
          go_wp2_with (first
            | (go_at_call 107; refine (letter_any _ _).mono ?_; rintro e w' ⟨rfl, rfl⟩)
            | (go_at_call 108; refine (digit_any _ _).mono ?_; rintro e w' ⟨rfl, rfl⟩))
          go_ret
          exact ⟨ret_bool HF.out.symm, (Below.refl _ _).alloc (Nat.le_refl _) _⟩
        · go_wp2_with (first
            | (go_at_call 107; refine (letter_any _ _).mono ?_; rintro e w' ⟨rfl, rfl⟩)
            | (go_at_call 108; refine (digit_any _ _).mono ?_; rintro e w' ⟨rfl, rfl⟩))
          all_goals go_ret
          all_goals exact ⟨ret_bool HF.out.symm, (Below.refl _ _).alloc (Nat.le_refl _) _⟩
      · have HG : Hid (nameGo (k + 1) (at_ s (pos + wd)) = nameB s.data.toList) := by
          unfold Hid; rw [← HI.out, HN.out]; simp only [nameGo]; rw [if_neg hs]
        have hb : ((k : Int) == 12) = false := by simp; omega
        have hcs : letterI (r : Int) = true ∨ (letterI (r : Int) = false ∧ ((k : Int) == 0) = false ∧ digitI (r : Int) = true) := by
          rcases hL : letterI (r : Int) with _ | _
          · right
            rcases hD : digitI (r : Int) with _ | _
            · exact absurd (Or.inr ⟨hL, Or.inr hD⟩) hs
            · refine ⟨rfl, ?_, rfl⟩
              simp
              intro h0
              exact hs (Or.inr ⟨hL, Or.inl h0⟩)
          · left; rfl
        clear hs
        rcases hcs with hL | ⟨hL, h0, hD⟩
        all_goals
          go_wp2_with (first
            | (go_at_call 107; refine (letter_any _ _).mono ?_; rintro e w' ⟨rfl, rfl⟩)
            | (go_at_call 108; refine (digit_any _ _).mono ?_; rintro e w' ⟨rfl, rfl⟩))
          go_roundw
          case rel => exact ⟨pos + wd, k + 1, rfl, by go_num, by simp at hb; omega, HG.out⟩
          case measure => simp; omega
    · have hnx : ∀ ty, (Instr.next (.pointer (some ⟨w.heap.size, 0, none⟩)) true ty).run Tryz.prog (w.iter s pos) = _ := fun ty => run_next_end w s pos ty hp
      have HF := HI.out
      rw [at_end s pos hp] at HF
      simp only [nameGo] at HF
      have HF := Lib.hid HF
      rename_i HF0
      clear HF0
      by_cases h0 : 0 < k
      all_goals
        go_wp2_with fail
        go_ret
        exact ⟨ret_bool (by rw [← HF.out]; first | (simp [h0]; done) | (simp; omega)), (Below.refl _ _).alloc (Nat.le_refl _) _⟩
end Go.Proofs.YtinocaggponpmaaGreatDoor.Lx
