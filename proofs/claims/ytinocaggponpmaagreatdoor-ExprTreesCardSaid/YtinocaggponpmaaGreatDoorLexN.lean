/-
  Numbers, plainly: what is shown of a number is read as that number; a number by its bytes.
-/
import Derived.Test.YtinocaggponpmaaGreatDoorLexP
import Derived.Lib.ItoaNum
namespace Go.Proofs.YtinocaggponpmaaGreatDoor.Lx

/-- A number, byte by byte. -/
def numB : Int → List UInt8 → Option Int
  | n, [] => some n
  | n, b :: t => if b.toNat < 48 ∨ 57 < b.toNat then none else if n > (9223372036854775807 - ((b.toNat : Int) - 48)) / 10 then none else numB (10 * n + ((b.toNat : Int) - 48)) t

theorem dec_high1 (b : UInt8) (t : List UInt8) (h : 128 ≤ b.toNat) : 128 ≤ (dec (b :: t)).1 := by
  have hs : (⟨(b :: t).toArray⟩ : ByteArray).size = t.length + 1 := by rw [size_list]; rfl
  exact (decode_high ⟨(b :: t).toArray⟩ 0 (by omega) h).1

theorem numGo_bytes (l : List UInt8) : ∀ n, numGo n (rn l) = numB n l := by
  induction l with
  | nil => intro n; rfl
  | cons b t ih =>
    intro n
    by_cases hb : b.toNat < 128
    · rw [rn_ascii b t hb]
      unfold numGo numB
      by_cases hd : b.toNat < 48 ∨ 57 < b.toNat
      · rw [if_pos hd, if_pos (by simp [digitI]; omega)]
      · rw [if_neg hd, if_neg (by simp [digitI]; omega)]
        split
        · rfl
        · rw [ih, Int.mul_comm]
    · rw [rn_cons _ (by simp)]
      have := dec_high1 b t (by omega)
      unfold numGo numB
      rw [if_pos (by simp [digitI]; omega), if_pos (by omega)]

theorem numberL_bytes (l : List UInt8) : numberL l = if l = [] ∨ (1 < l.length ∧ l.head? = some 48) then none else numB 0 l := by
  unfold numberL
  rw [numGo_bytes]
  by_cases h0 : l = []
  · simp [h0]
  · by_cases h1 : l.head? = some 48
    · match l, h0, h1 with
      | [b], _, h1 => simp at h1; subst h1; simp
      | b :: c :: t, _, h1 => simp at h1; subst h1; simp
    · simp [h0, h1]

theorem numB_dec (u : Nat) : ∀ (t : List UInt8), (u : Int) ≤ 9223372036854775807 → numB 0 (Lib.decDigits u ++ t) = numB u t := by
  induction u using Nat.strongRecOn with
  | ind u ih =>
    intro t hu
    by_cases h : u < 10
    · rw [Lib.decDigits_one h]
      show numB 0 (UInt8.ofNat (48 + u) :: t) = _
      have e : (UInt8.ofNat (48 + u)).toNat = 48 + u := by simp; omega
      conv => lhs; unfold numB
      rw [e, if_neg (by omega), if_neg (by omega)]
      congr 1
      omega
    · rw [Lib.decDigits, dif_neg h, List.append_assoc, ih (u / 10) (by omega) _ (by omega)]
      show numB _ (UInt8.ofNat (48 + u % 10) :: t) = _
      have e : (UInt8.ofNat (48 + u % 10)).toNat = 48 + u % 10 := by simp; omega
      conv => lhs; unfold numB
      rw [e, if_neg (by omega), if_neg (by omega)]
      congr 1
      omega

theorem decDigits_ne (u : Nat) : Lib.decDigits u ≠ [] := by
  intro h
  have := Lib.decDigits_length u
  rw [h] at this
  unfold Lib.nDigits at this
  split at this <;> simp at this

theorem decDigits_head (u : Nat) : 1 ≤ u → ∀ t, (Lib.decDigits u ++ t).head? ≠ some 48 := by
  induction u using Nat.strongRecOn with
  | ind u ih =>
    intro hu t
    by_cases h : u < 10
    · rw [Lib.decDigits_one h]
      intro e
      simp only [List.cons_append, List.head?_cons, Option.some.injEq] at e
      have := congrArg UInt8.toNat e
      simp at this
      omega
    · rw [Lib.decDigits, dif_neg h, List.append_assoc]
      exact ih (u / 10) (by omega) (by omega) _

theorem number_show (n : Int) (h1 : n ≤ 9223372036854775807) : numberL (Lib.itoa n) = if n < 0 then none else some n := by
  unfold Lib.itoa
  by_cases hn : n < 0
  · rw [if_pos hn, if_pos hn, numberL_bytes]
    by_cases hq : (45 :: Lib.decDigits n.natAbs) = [] ∨ (1 < (45 :: Lib.decDigits n.natAbs).length ∧ (45 :: Lib.decDigits n.natAbs).head? = some 48)
    · rw [if_pos hq]
    · rw [if_neg hq]
      unfold numB
      rw [if_pos (by left; decide)]
  · rw [if_neg hn, if_neg hn, numberL_bytes]
    have hb := numB_dec n.toNat [] (by omega)
    rw [List.append_nil] at hb
    by_cases h0 : n = 0
    · subst h0
      rw [show Int.toNat 0 = 0 from rfl] at hb ⊢
      rw [Lib.decDigits_one (by decide)] at hb ⊢
      rw [if_neg (by decide), hb]
      rfl
    · have hh := decDigits_head n.toNat (by omega) []
      rw [List.append_nil] at hh
      rw [if_neg (by rintro (h | ⟨_, h⟩); exact decDigits_ne _ h; exact hh h), hb]
      unfold numB
      rw [Int.toNat_of_nonneg (by omega)]
end Go.Proofs.YtinocaggponpmaaGreatDoor.Lx
