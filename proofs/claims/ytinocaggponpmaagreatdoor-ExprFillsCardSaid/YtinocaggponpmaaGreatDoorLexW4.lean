/-
  Contracts of lex's Quote, and of the functions that make one token: text, name, number, sign, token.
-/
import Derived.Test.YtinocaggponpmaaGreatDoorLexW3
import Derived.Laws.ResultCell
namespace Go.Proofs.YtinocaggponpmaaGreatDoor.Lx
open Go.RowKit

theorem dec_fffd (t : List UInt8) : dec (239 :: 191 :: 189 :: t) = (65533, 3) := by
  unfold dec Utf8.decode
  have hz : (⟨(239 :: 191 :: 189 :: t).toArray⟩ : ByteArray).size = t.length + 3 := by show (239 :: 191 :: 189 :: t).toArray.size = _; simp
  simp [get_list, hz, Utf8.valid]

theorem inv_bad (l : List UInt8) : invB (dec l).1 l = badC ((dec l).1, l.take (dec l).2) := by
  unfold invB badC
  by_cases hp : Lib.hasPrefix l [239, 191, 189] = true
  · obtain ⟨t, rfl⟩ : ∃ t, l = 239 :: 191 :: 189 :: t := by
      have := List.isPrefixOf_iff_prefix.1 hp
      obtain ⟨t, ht⟩ := this
      exact ⟨t, ht.symm⟩
    rw [dec_fffd]
    simp [Lib.hasPrefix, List.isPrefixOf]
  · have hn : ¬ l.take (dec l).2 = [239, 191, 189] := by
      intro h
      apply hp
      apply List.isPrefixOf_iff_prefix.2
      rw [← h]
      exact List.take_prefix _ _
    have hp' : Lib.hasPrefix l [239, 191, 189] = false := by simpa using hp
    rw [hp']
    simp [hn]
    omega

theorem extract_mid (s : ByteArray) (a b : Nat) : s.extract a b = ⟨((s.data.toList.drop a).take (b - a)).toArray⟩ := by
  apply ByteArray.ext
  rw [ByteArray.data_extract]
  apply Array.toList_inj.1
  simp
theorem extract_from (s : ByteArray) (a : Nat) : s.extract a s.size = ⟨(s.data.toList.drop a).toArray⟩ := by
  rw [extract_mid, List.take_of_length_le]
  rw [List.length_drop, Array.length_toList]
  exact Nat.le_refl _
theorem invE_at (s : ByteArray) (pos : Nat) : invE ((Utf8.decode s pos).1 : Int) (s.extract pos s.size) = badC ((Utf8.decode s pos).1, (s.data.toList.drop pos).take (Utf8.decode s pos).2) := by
  unfold invE
  rw [extract_from, decode_drop]
  exact inv_bad _

theorem quote_str (s : ByteArray) : ((⟨#[34]⟩ : ByteArray) ++ s ++ ⟨#[34]⟩) = ⟨(34 :: (s.data.toList ++ [34])).toArray⟩ := by
  apply ByteArray.ext
  apply Array.toList_inj.1
  simp

def quoteE (l : List UInt8) : Ending := if quoteB l = true then .returned (.tuple #[.string ⟨(34 :: (l ++ [34])).toArray⟩, .bool true]) else .returned (.tuple #[.string ⟨#[]⟩, .bool false])
end Go.Proofs.YtinocaggponpmaaGreatDoor.Lx
