/-
  Names: lex.Name answers as the plain words say, for every text.
-/
import Derived.Test.YtohljihndoodfaaDoorProg
import Derived.Test.YtohljihndoodfaaDoorLexM
import Derived.WalkKit
import Derived.WalkLawsBesides
import Derived.Outline
import Derived.Laws.RangeString
import Derived.Laws.RangeAny
import Derived.LoopTactic
import Derived.Lib.Strings
import Derived.Lib.Hide
namespace Go.Proofs.YtohljihndoodfaaDoor.Lx
open Go.RowKit


theorem ret_bool {a b : Bool} (h : a = b) : Ending.returned (.bool a) = .returned (.bool b) := by rw [h]
theorem ret_int {k : IntKind} {a b : Int} (h : a = b) : Ending.returned (.int k a) = .returned (.int k b) := by rw [h]

set_option maxHeartbeats 400000 in
theorem digit_any (r : Int) (w : World) :
    Calls Tryd.prog 69 #[.int .i32 r] w fun e w' => e = .returned (.bool (digitI r)) ∧ w = w' := by
  go_enter Tryd.func69, Tryd.ntmps69
  go_wp2
  all_goals go_ret
  all_goals exact ⟨ret_bool (by simp [digitI]; try omega), rfl⟩

set_option maxHeartbeats 400000 in
theorem letter_any (r : Int) (w : World) :
    Calls Tryd.prog 68 #[.int .i32 r] w fun e w' => e = .returned (.bool (letterI r)) ∧ w = w' := by
  go_enter Tryd.func68, Tryd.ntmps68
  go_wp2
  all_goals go_ret
  all_goals (refine ⟨ret_bool ?_, rfl⟩; rw [Bool.eq_iff_iff]; simp only [letterI, beq_iff_eq, beq_eq_false_iff_ne, decide_eq_true_eq, Bool.or_eq_true, Bool.and_eq_true, Bool.not_eq_true', decide_eq_false_iff_not, ne_eq, Bool.false_eq_true, true_iff, false_iff] at *; omega)


theorem str_index (s : ByteArray) (k : Nat) (hk : k < s.size) (W : World) :
    (Instr.index 9 (.string s) (.int .i64 (k : Int))).run Tryd.prog W = .ok (.int .u8 ((s.data.toList.getD k 0).toNat : Int)) W := by
  have h := run_index_string (P := Tryd.prog) (w := W) 9 s .i64 (k : Int) Tryd.underlying9
  rw [dif_pos ⟨by omega, by omega⟩] at h
  rw [h]
  have hk' : k < s.data.toList.length := by rw [Array.length_toList]; exact hk
  have e : s.data.toList.getD k 0 = s[k]'hk := by
    rw [List.getD_eq_getElem?_getD, List.getElem?_eq_getElem hk']; rfl
  rw [e]
  simp

/-- The bytes from place pos on, as runes. -/
def at_ (s : ByteArray) (pos : Nat) : List (Nat × List UInt8) := rn (s.data.toList.drop pos)

theorem at_end (s : ByteArray) (pos : Nat) (h : ¬ pos < s.size) : at_ s pos = [] := by
  unfold at_
  rw [List.drop_eq_nil_of_le (by rw [Array.length_toList]; exact Nat.le_of_not_lt h)]
  rfl
theorem at_next (s : ByteArray) (pos : Nat) (h : pos < s.size) :
    at_ s pos = ((Utf8.decode s pos).1, (s.data.toList.drop pos).take (Utf8.decode s pos).2) :: at_ s (pos + (Utf8.decode s pos).2) := by
  unfold at_
  rw [decode_drop]
  exact rn_drop _ _ (by rw [Array.length_toList]; exact h)
theorem width_le (s : ByteArray) (pos : Nat) (h : pos < s.size) : pos + (Utf8.decode s pos).2 ≤ s.size ∧ 1 ≤ (Utf8.decode s pos).2 := by
  rw [decode_drop]
  have hl : s.data.toList.length = s.size := Array.length_toList
  have hne : s.data.toList.drop pos ≠ [] := by
    intro e; have := congrArg List.length e; rw [List.length_drop, hl] at this; simp at this; omega
  have h1 := dec_width _ hne
  have h2 := dec_pos _ hne
  rw [List.length_drop, hl] at h1
  omega
theorem take_len (s : ByteArray) (pos : Nat) (h : pos < s.size) : ((s.data.toList.drop pos).take (Utf8.decode s pos).2).length = (Utf8.decode s pos).2 := by
  have := width_le s pos h
  have hl : s.data.toList.length = s.size := Array.length_toList
  rw [List.length_take, List.length_drop, hl]
  omega

theorem extract_take (s : ByteArray) (n : Nat) : s.extract 0 n = ⟨(s.data.toList.take n).toArray⟩ := by
  apply ByteArray.ext
  rw [ByteArray.data_extract]
  apply Array.toList_inj.1
  simp
theorem whole_list (s : ByteArray) : s = ⟨s.data.toList.toArray⟩ := by cases s; simp
theorem ret_str {a b : ByteArray} (h : a = b) : Ending.returned (.string a) = .returned (.string b) := by rw [h]

set_option maxHeartbeats 2000000 in
theorem Name_any (s : ByteArray) (w : World) :
    Calls Tryd.prog 49 #[.string s] w fun e w' => e = .returned (.bool (nameB s.data.toList)) ∧ Below w.heap.size w w' := by
  go_enter Tryd.func49, Tryd.ntmps49
  go_wp2
  go_loopw [3] (fun n w' => ∃ pos k : Nat, w' = w.iter s pos ∧ n = .int .i64 k ∧ k ≤ 12 ∧ Hid (nameGo k (at_ s pos) = nameB s.data.toList)) (fun _ w' => s.size - w'.iterPos w.heap.size)
  case atStart => exact ⟨0, 0, rfl, rfl, by omega, rfl⟩
  case round =>
    obtain ⟨pos, k, rfl, rfl, hk, HI⟩ := hrel
    by_cases hp : pos < s.size
    · have hnx : ∀ ty, (Instr.next (.pointer (some ⟨w.heap.size, 0, none⟩)) true ty).run Tryd.prog (w.iter s pos) = _ := fun ty => run_next_any w s pos ty hp
      have hwd := width_le s pos hp
      have hle := decode_le s pos
      have HN := Lib.hid (at_next s pos hp)
      generalize hd : Utf8.decode s pos = d at *
      have Hd := Lib.hid hd; clear hd
      obtain ⟨r, wd⟩ := d
      by_cases hs : k = 12 ∨ (letterI (r : Int) = false ∧ (k = 0 ∨ digitI (r : Int) = false))
      · have hfin : nameB s.data.toList = false := by
          rw [← HI.out, HN.out]; simp only [nameGo]; rw [if_pos hs]
        have HF := Lib.hid hfin; clear hfin
        rcases hs with h12 | ⟨hL, h0 | hD⟩
        · subst h12
          go_wp2_with (first
            | (go_at_call 68; refine (letter_any _ _).mono ?_; rintro e w' ⟨rfl, rfl⟩)
            | (go_at_call 69; refine (digit_any _ _).mono ?_; rintro e w' ⟨rfl, rfl⟩))
          go_ret
          exact ⟨ret_bool HF.out.symm, (Below.refl _ _).alloc (Nat.le_refl _) _⟩
        · subst h0
          go_wp2_with (first
            | (go_at_call 68; refine (letter_any _ _).mono ?_; rintro e w' ⟨rfl, rfl⟩)
            | (go_at_call 69; refine (digit_any _ _).mono ?_; rintro e w' ⟨rfl, rfl⟩))
          go_ret
          exact ⟨ret_bool HF.out.symm, (Below.refl _ _).alloc (Nat.le_refl _) _⟩
        · go_wp2_with (first
            | (go_at_call 68; refine (letter_any _ _).mono ?_; rintro e w' ⟨rfl, rfl⟩)
            | (go_at_call 69; refine (digit_any _ _).mono ?_; rintro e w' ⟨rfl, rfl⟩))
          all_goals go_ret
          all_goals exact ⟨ret_bool HF.out.symm, (Below.refl _ _).alloc (Nat.le_refl _) _⟩
      · have HG : Hid (nameGo (k + 1) (at_ s (pos + wd)) = nameB s.data.toList) := by
          unfold Hid; rw [← HI.out, HN.out]; simp only [nameGo]; rw [if_neg hs]
        have hb : ((k : Int) == 12) = false := by simp; omega
        have hcs : letterI (r : Int) = true ∨ (letterI (r : Int) = false ∧ ((k : Int) == 0) = false ∧ digitI (r : Int) = true) := by
          rcases hL : letterI (r : Int) with _ | _
          · right
            rcases hD : digitI (r : Int) with _ | _
            · exact absurd (Or.inr ⟨hL, Or.inr hD⟩) hs
            · refine ⟨rfl, ?_, rfl⟩
              simp
              intro h0
              exact hs (Or.inr ⟨hL, Or.inl h0⟩)
          · left; rfl
        clear hs
        rcases hcs with hL | ⟨hL, h0, hD⟩
        all_goals
          go_wp2_with (first
            | (go_at_call 68; refine (letter_any _ _).mono ?_; rintro e w' ⟨rfl, rfl⟩)
            | (go_at_call 69; refine (digit_any _ _).mono ?_; rintro e w' ⟨rfl, rfl⟩))
          go_roundw
          case rel => exact ⟨pos + wd, k + 1, rfl, by go_num, by simp at hb; omega, HG.out⟩
          case measure => simp; omega
    · have hnx : ∀ ty, (Instr.next (.pointer (some ⟨w.heap.size, 0, none⟩)) true ty).run Tryd.prog (w.iter s pos) = _ := fun ty => run_next_end w s pos ty hp
      have HF := HI.out
      rw [at_end s pos hp] at HF
      simp only [nameGo] at HF
      have HF := Lib.hid HF
      rename_i HF0
      clear HF0
      by_cases h0 : 0 < k
      all_goals
        go_wp2_with fail
        go_ret
        exact ⟨ret_bool (by rw [← HF.out]; first | (simp [h0]; done) | (simp; omega)), (Below.refl _ _).alloc (Nat.le_refl _) _⟩
end Go.Proofs.YtohljihndoodfaaDoor.Lx
