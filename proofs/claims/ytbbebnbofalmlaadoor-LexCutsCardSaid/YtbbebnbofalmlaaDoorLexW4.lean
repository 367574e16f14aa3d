/-
  Contracts of lex's Quote, and of the functions that make one token: text, name, number, sign, token.
-/
import Derived.Test.YtbbebnbofalmlaaDoorLexW3
import Derived.Laws.ResultCell
namespace Go.Proofs.YtbbebnbofalmlaaDoor.Lx
open Go.RowKit

theorem dec_fffd (t : List UInt8) : dec (239 :: 191 :: 189 :: t) = (65533, 3) := by
  unfold dec Utf8.decode
  have hz : (⟨(239 :: 191 :: 189 :: t).toArray⟩ : ByteArray).size = t.length + 3 := by show (239 :: 191 :: 189 :: t).toArray.size = _; simp
  simp [get_list, hz, Utf8.valid]

theorem inv_bad (l : List UInt8) : invB (dec l).1 l = badC ((dec l).1, l.take (dec l).2) := by
  unfold invB badC
  by_cases hp : Lib.hasPrefix l [239, 191, 189] = true
  · obtain ⟨t, rfl⟩ : ∃ t, l = 239 :: 191 :: 189 :: t := by
      have := List.isPrefixOf_iff_prefix.1 hp
      obtain ⟨t, ht⟩ := this
      exact ⟨t, ht.symm⟩
    rw [dec_fffd]
    simp [Lib.hasPrefix, List.isPrefixOf]
  · have hn : ¬ l.take (dec l).2 = [239, 191, 189] := by
      intro h
      apply hp
      apply List.isPrefixOf_iff_prefix.2
      rw [← h]
      exact List.take_prefix _ _
    have hp' : Lib.hasPrefix l [239, 191, 189] = false := by simpa using hp
    rw [hp']
    simp [hn]
    omega

theorem extract_mid (s : ByteArray) (a b : Nat) : s.extract a b = ⟨((s.data.toList.drop a).take (b - a)).toArray⟩ := by
  apply ByteArray.ext
  rw [ByteArray.data_extract]
  apply Array.toList_inj.1
  simp
theorem extract_from (s : ByteArray) (a : Nat) : s.extract a s.size = ⟨(s.data.toList.drop a).toArray⟩ := by
  rw [extract_mid, List.take_of_length_le]
  rw [List.length_drop, Array.length_toList]
  exact Nat.le_refl _
theorem invE_at (s : ByteArray) (pos : Nat) : invE ((Utf8.decode s pos).1 : Int) (s.extract pos s.size) = badC ((Utf8.decode s pos).1, (s.data.toList.drop pos).take (Utf8.decode s pos).2) := by
  unfold invE
  rw [extract_from, decode_drop]
  exact inv_bad _

theorem quote_str (s : ByteArray) : ((⟨#[34]⟩ : ByteArray) ++ s ++ ⟨#[34]⟩) = ⟨(34 :: (s.data.toList ++ [34])).toArray⟩ := by
  apply ByteArray.ext
  apply Array.toList_inj.1
  simp

def quoteE (l : List UInt8) : Ending := if quoteB l = true then .returned (.tuple #[.string ⟨(34 :: (l ++ [34])).toArray⟩, .bool true]) else .returned (.tuple #[.string ⟨#[]⟩, .bool false])

set_option maxHeartbeats 4000000 in
theorem Quote_any (s : ByteArray) (w : World) (hs : s.size ≤ 20000) :
    Calls Tryd.prog 18 #[.string s] w fun e w' => e = quoteE s.data.toList ∧ Below w.heap.size w w' := by
  go_enter Tryd.func18, Tryd.ntmps18
  go_wp2
  go_loopw [4] (fun n w' => ∃ pos k : Nat, w' = w.iter s pos ∧ n = .int .i64 k ∧ k ≤ 20 ∧ Hid (quoteGo k (at_ s pos) = quoteB s.data.toList)) (fun _ w' => s.size - w'.iterPos w.heap.size)
  case atStart => exact ⟨0, 0, rfl, rfl, by omega, rfl⟩
  case round =>
    obtain ⟨pos, k, rfl, rfl, hk, HI⟩ := hrel
    by_cases hp : pos < s.size
    · have hnx : ∀ ty, (Instr.next (.pointer (some ⟨w.heap.size, 0, none⟩)) true ty).run Tryd.prog (w.iter s pos) = _ := fun ty => run_next_any w s pos ty hp
      have hwd := width_le s pos hp
      have hle := decode_le s pos
      have HN := Lib.hid (at_next s pos hp)
      have HV := Lib.hid (invE_at s pos)
      generalize hd : Utf8.decode s pos = d at *
      have Hd := Lib.hid hd; clear hd
      obtain ⟨r, wd⟩ := d
      by_cases hx : k = 20 ∨ r < 32 ∨ r = 34 ∨ badC (r, (s.data.toList.drop pos).take wd) = true
      · have HG : Hid (quoteB s.data.toList = false) := by
          unfold Hid; rw [← HI.out, HN.out]; simp only [quoteGo]; rw [if_pos hx]
        have hy : (k = 20) ∨ (¬ k = 20 ∧ r < 32) ∨ (¬ k = 20 ∧ 32 ≤ r ∧ r = 34) ∨ (¬ k = 20 ∧ 32 ≤ r ∧ ¬ r = 34 ∧ invE (r : Int) (s.extract pos s.size) = true) := by
          rw [HV.out]
          by_cases h1 : k = 20
          · exact Or.inl h1
          · by_cases h2 : r < 32
            · exact Or.inr (Or.inl ⟨h1, h2⟩)
            · by_cases h3 : r = 34
              · exact Or.inr (Or.inr (Or.inl ⟨h1, by omega, h3⟩))
              · rcases hx with h | h | h | h
                · exact absurd h h1
                · exact absurd h h2
                · exact absurd h h3
                · exact Or.inr (Or.inr (Or.inr ⟨h1, by omega, h3, h⟩))
        clear hx HV
        rcases hy with h1 | ⟨h1, h2⟩ | ⟨h1, h2, h3⟩ | ⟨h1, h2, h3, h4⟩
        · subst h1
          go_wp2_with (go_at_call 28; refine (invalid_any _ _ _).mono ?_; rintro e w' ⟨rfl, rfl⟩)
          go_ret2
          exact ⟨by unfold quoteE; rw [HG.out]; rfl, (Below.refl _ _).alloc (Nat.le_refl _) _⟩
        · have hb : ((k : Int) == 20) = false := by simp; omega
          clear h1
          go_wp2_with (go_at_call 28; refine (invalid_any _ _ _).mono ?_; rintro e w' ⟨rfl, rfl⟩)
          go_ret2
          exact ⟨by unfold quoteE; rw [HG.out]; rfl, (Below.refl _ _).alloc (Nat.le_refl _) _⟩
        · have hb : ((k : Int) == 20) = false := by simp; omega
          subst h3
          clear h1
          go_wp2_with (go_at_call 28; refine (invalid_any _ _ _).mono ?_; rintro e w' ⟨rfl, rfl⟩)
          go_ret2
          exact ⟨by unfold quoteE; rw [HG.out]; rfl, (Below.refl _ _).alloc (Nat.le_refl _) _⟩
        · have hb : ((k : Int) == 20) = false := by simp; omega
          have hb3 : ((r : Int) == 34) = false := by simp; omega
          clear h1 h3
          go_wp2_with (go_at_call 28; refine (invalid_any _ _ _).mono ?_; rintro e w' ⟨rfl, rfl⟩)
          go_ret2
          exact ⟨by unfold quoteE; rw [HG.out]; rfl, (Below.refl _ _).alloc (Nat.le_refl _) _⟩
      · have HG : Hid (quoteGo (k + 1) (at_ s (pos + wd)) = quoteB s.data.toList) := by
          unfold Hid; rw [← HI.out, HN.out]; simp only [quoteGo]; rw [if_neg hx]
        have hy : ¬ k = 20 ∧ 32 ≤ r ∧ ¬ r = 34 ∧ invE (r : Int) (s.extract pos s.size) = false := by
          rw [HV.out]
          refine ⟨fun h => hx (Or.inl h), Nat.le_of_not_lt fun h => hx (Or.inr (Or.inl h)), fun h => hx (Or.inr (Or.inr (Or.inl h))), ?_⟩
          cases hb : badC (r, (s.data.toList.drop pos).take wd)
          · rfl
          · exact absurd (Or.inr (Or.inr (Or.inr hb))) hx
        clear hx HV
        obtain ⟨h1, h2, h3, h4⟩ := hy
        have hk2 : k ≤ 19 := by omega
        have hb : ((k : Int) == 20) = false := by simp; omega
        have hb3 : ((r : Int) == 34) = false := by simp; omega
        clear h1 h3
        go_wp2_with (go_at_call 28; refine (invalid_any _ _ _).mono ?_; rintro e w' ⟨rfl, rfl⟩)
        go_roundw
        case rel => exact ⟨pos + wd, k + 1, rfl, by go_num, by omega, HG.out⟩
        case measure => simp; omega
    · have hnx : ∀ ty, (Instr.next (.pointer (some ⟨w.heap.size, 0, none⟩)) true ty).run Tryd.prog (w.iter s pos) = _ := fun ty => run_next_end w s pos ty hp
      have HG : Hid (quoteB s.data.toList = true) := by
        unfold Hid; rw [← HI.out, at_end s pos hp]; rfl
      go_wp2_with fail
      go_ret2
      refine ⟨?_, (Below.refl _ _).alloc (Nat.le_refl _) _⟩
      unfold quoteE
      rw [HG.out]
      show Ending.returned (.tuple #[.string (⟨#[34]⟩ ++ s ++ ⟨#[34]⟩), .bool true]) = _
      rw [quote_str]
      rfl
end Go.Proofs.YtbbebnbofalmlaaDoor.Lx
