/-
  Plain facts about texts and their runes: firm runes, what stands behind a line feed.
-/
import Derived.Test.YtohljihndoodfaaDoorLexM
namespace Go.Proofs.YtohljihndoodfaaDoor.Lx

theorem size_list (l : List UInt8) : (⟨l.toArray⟩ : ByteArray).size = l.length := by show l.toArray.size = _; simp

/-- What the rune at the head comes to, spelled out. -/
theorem dec_def (l : List UInt8) : dec l =
    (if (l.getD 0 0).toNat < 128 then ((l.getD 0 0).toNat, 1)
    else if (l.getD 0 0).toNat / 32 = 6 ∧ 1 < l.length ∧ (l.getD 1 0).toNat / 64 = 2 then
      (if 128 ≤ (l.getD 0 0).toNat % 32 * 64 + (l.getD 1 0).toNat % 64 then ((l.getD 0 0).toNat % 32 * 64 + (l.getD 1 0).toNat % 64, 2) else (65533, 1))
    else if (l.getD 0 0).toNat / 16 = 14 ∧ (1 < l.length ∧ (l.getD 1 0).toNat / 64 = 2) ∧ (2 < l.length ∧ (l.getD 2 0).toNat / 64 = 2) then
      (if 2048 ≤ (l.getD 0 0).toNat % 16 * 4096 + (l.getD 1 0).toNat % 64 * 64 + (l.getD 2 0).toNat % 64 ∧ Utf8.valid ((l.getD 0 0).toNat % 16 * 4096 + (l.getD 1 0).toNat % 64 * 64 + (l.getD 2 0).toNat % 64 : Nat) = true then
        ((l.getD 0 0).toNat % 16 * 4096 + (l.getD 1 0).toNat % 64 * 64 + (l.getD 2 0).toNat % 64, 3) else (65533, 1))
    else if (l.getD 0 0).toNat / 8 = 30 ∧ (1 < l.length ∧ (l.getD 1 0).toNat / 64 = 2) ∧ (2 < l.length ∧ (l.getD 2 0).toNat / 64 = 2) ∧ (3 < l.length ∧ (l.getD 3 0).toNat / 64 = 2) then
      (if 65536 ≤ (l.getD 0 0).toNat % 8 * 262144 + (l.getD 1 0).toNat % 64 * 4096 + (l.getD 2 0).toNat % 64 * 64 + (l.getD 3 0).toNat % 64 ∧ Utf8.valid ((l.getD 0 0).toNat % 8 * 262144 + (l.getD 1 0).toNat % 64 * 4096 + (l.getD 2 0).toNat % 64 * 64 + (l.getD 3 0).toNat % 64 : Nat) = true then
        ((l.getD 0 0).toNat % 8 * 262144 + (l.getD 1 0).toNat % 64 * 4096 + (l.getD 2 0).toNat % 64 * 64 + (l.getD 3 0).toNat % 64, 4) else (65533, 1))
    else (65533, 1)) := by
  unfold dec Utf8.decode
  simp only [get_list, size_list, Nat.zero_add, Bool.and_eq_true, decide_eq_true_eq, beq_iff_eq, Utf8.runeError, ge_iff_le, and_assoc]

/-- The head's rune does not hang on what stands behind its bytes. -/
def Firm (c : Nat × List UInt8) : Prop := c.2 ≠ [] ∧ ∀ rest, dec (c.2 ++ rest) = (c.1, c.2.length)

theorem getD_take (l rest : List UInt8) (n k : Nat) (h : k < n) (hl : k < l.length) : (l.take n ++ rest).getD k 0 = l.getD k 0 := by
  rw [List.getD_eq_getElem?_getD, List.getD_eq_getElem?_getD, List.getElem?_append_left (by rw [List.length_take]; omega), List.getElem?_take, if_pos h]

theorem firm_of_good (l : List UInt8) (hl : l ≠ []) (hb : badC ((dec l).1, l.take (dec l).2) = false) : Firm ((dec l).1, l.take (dec l).2) := by
  have hp := List.length_pos_iff.2 hl
  have hw := dec_width l hl
  have hw1 := dec_pos l hl
  have hlen : (l.take (dec l).2).length = (dec l).2 := by rw [List.length_take]; omega
  refine ⟨fun h => by have := congrArg List.length h; rw [hlen] at this; simp at this; omega, fun rest => ?_⟩
  show dec (l.take (dec l).2 ++ rest) = ((dec l).1, (l.take (dec l).2).length)
  rw [hlen]
  have hne1 : ∀ (m : List UInt8), m.length ≤ 1 → ¬ m = [239, 191, 189] := fun m hm e => by rw [e] at hm; simp at hm
  by_cases h0 : (l.getD 0 0).toNat < 128
  · have e : dec l = ((l.getD 0 0).toNat, 1) := by rw [dec_def, if_pos h0]
    rw [e]
    simp only
    rw [dec_def, getD_take l rest 1 0 (by omega) hp, if_pos h0]
  · have hv : ∀ n k, k < n → k < l.length → (l.take n ++ rest).getD k 0 = l.getD k 0 := fun n k h1 h2 => getD_take l rest n k h1 h2
    have hL : ∀ n, n ≤ l.length → (l.take n ++ rest).length = n + rest.length := fun n hn => by rw [List.length_append, List.length_take]; omega
    have hbad : dec l = (65533, 1) → False := by
      intro e
      rw [e] at hb
      unfold badC at hb
      simp only [decide_true, Bool.true_and, Bool.not_eq_false', decide_eq_true_eq] at hb
      exact hne1 (l.take 1) (by rw [List.length_take]; omega) hb
    by_cases h1 : (l.getD 0 0).toNat / 32 = 6 ∧ 1 < l.length ∧ (l.getD 1 0).toNat / 64 = 2
    · by_cases h2 : 128 ≤ (l.getD 0 0).toNat % 32 * 64 + (l.getD 1 0).toNat % 64
      · have e : dec l = ((l.getD 0 0).toNat % 32 * 64 + (l.getD 1 0).toNat % 64, 2) := by rw [dec_def, if_neg h0, if_pos h1, if_pos h2]
        rw [e]
        simp only
        rw [dec_def, hv 2 0 (by omega) hp, hv 2 1 (by omega) h1.2.1, hL 2 (by omega), if_neg h0, if_pos ⟨h1.1, by omega, h1.2.2⟩, if_pos h2]
      · exact (hbad (by rw [dec_def, if_neg h0, if_pos h1, if_neg h2])).elim
    · by_cases h3 : (l.getD 0 0).toNat / 16 = 14 ∧ (1 < l.length ∧ (l.getD 1 0).toNat / 64 = 2) ∧ (2 < l.length ∧ (l.getD 2 0).toNat / 64 = 2)
      · by_cases h4 : 2048 ≤ (l.getD 0 0).toNat % 16 * 4096 + (l.getD 1 0).toNat % 64 * 64 + (l.getD 2 0).toNat % 64 ∧ Utf8.valid ((l.getD 0 0).toNat % 16 * 4096 + (l.getD 1 0).toNat % 64 * 64 + (l.getD 2 0).toNat % 64 : Nat) = true
        · have e : dec l = ((l.getD 0 0).toNat % 16 * 4096 + (l.getD 1 0).toNat % 64 * 64 + (l.getD 2 0).toNat % 64, 3) := by rw [dec_def, if_neg h0, if_neg h1, if_pos h3, if_pos h4]
          rw [e]
          simp only
          rw [dec_def, hv 3 0 (by omega) hp, hv 3 1 (by omega) h3.2.1.1, hv 3 2 (by omega) h3.2.2.1, hL 3 (by omega), if_neg h0, if_neg (by rintro ⟨q, _⟩; omega), if_pos ⟨h3.1, ⟨by omega, h3.2.1.2⟩, ⟨by omega, h3.2.2.2⟩⟩, if_pos h4]
        · exact (hbad (by rw [dec_def, if_neg h0, if_neg h1, if_pos h3, if_neg h4])).elim
      · by_cases h5 : (l.getD 0 0).toNat / 8 = 30 ∧ (1 < l.length ∧ (l.getD 1 0).toNat / 64 = 2) ∧ (2 < l.length ∧ (l.getD 2 0).toNat / 64 = 2) ∧ (3 < l.length ∧ (l.getD 3 0).toNat / 64 = 2)
        · by_cases h6 : 65536 ≤ (l.getD 0 0).toNat % 8 * 262144 + (l.getD 1 0).toNat % 64 * 4096 + (l.getD 2 0).toNat % 64 * 64 + (l.getD 3 0).toNat % 64 ∧ Utf8.valid ((l.getD 0 0).toNat % 8 * 262144 + (l.getD 1 0).toNat % 64 * 4096 + (l.getD 2 0).toNat % 64 * 64 + (l.getD 3 0).toNat % 64 : Nat) = true
          · have e : dec l = ((l.getD 0 0).toNat % 8 * 262144 + (l.getD 1 0).toNat % 64 * 4096 + (l.getD 2 0).toNat % 64 * 64 + (l.getD 3 0).toNat % 64, 4) := by rw [dec_def, if_neg h0, if_neg h1, if_neg h3, if_pos h5, if_pos h6]
            rw [e]
            simp only
            rw [dec_def, hv 4 0 (by omega) hp, hv 4 1 (by omega) h5.2.1.1, hv 4 2 (by omega) h5.2.2.1.1, hv 4 3 (by omega) h5.2.2.2.1, hL 4 (by omega), if_neg h0, if_neg (by rintro ⟨q, _⟩; omega), if_neg (by rintro ⟨q, _⟩; omega),
              if_pos ⟨h5.1, ⟨by omega, h5.2.1.2⟩, ⟨by omega, h5.2.2.1.2⟩, ⟨by omega, h5.2.2.2.2⟩⟩, if_pos h6]
          · exact (hbad (by rw [dec_def, if_neg h0, if_neg h1, if_neg h3, if_pos h5, if_neg h6])).elim
        · exact (hbad (by rw [dec_def, if_neg h0, if_neg h1, if_neg h3, if_neg h5])).elim

/-- A line feed behind a text is no part of its last rune. -/
theorem dec_feed (l t : List UInt8) (hl : l ≠ []) : dec (l ++ 10 :: t) = dec l := by
  have hp := List.length_pos_iff.2 hl
  have hg : ∀ k, k < l.length → (l ++ 10 :: t).getD k 0 = l.getD k 0 := fun k hk => by
    rw [List.getD_eq_getElem?_getD, List.getD_eq_getElem?_getD, List.getElem?_append_left hk]
  have hf : (l ++ 10 :: t).getD l.length 0 = 10 := by
    rw [List.getD_eq_getElem?_getD, List.getElem?_append_right (Nat.le_refl _)]; simp
  have hlen : (l ++ 10 :: t).length = l.length + 1 + t.length := by simp; omega
  have h10 : (10 : UInt8).toNat = 10 := rfl
  rw [dec_def (l ++ 10 :: t), dec_def l, hg 0 hp, hlen]
  rcases (show l.length = 1 ∨ l.length = 2 ∨ l.length = 3 ∨ 4 ≤ l.length from by omega) with h | h | h | h
  · rw [h] at hf
    rw [hf, h10, h]
    simp
  · rw [h] at hf
    rw [hg 1 (by omega), hf, h10, h]
    have q1 : 1 < 3 + t.length := by omega
    simp [q1]
  · rw [h] at hf
    rw [hg 1 (by omega), hg 2 (by omega), hf, h10, h]
    have q1 : 1 < 4 + t.length := by omega
    have q2 : 2 < 4 + t.length := by omega
    simp [q1, q2]
  · rw [hg 1 (by omega), hg 2 (by omega), hg 3 (by omega)]
    simp only [show (1 < l.length + 1 + t.length) = True from by simp; omega, show (2 < l.length + 1 + t.length) = True from by simp; omega, show (3 < l.length + 1 + t.length) = True from by simp; omega,
      show (1 < l.length) = True from by simp; omega, show (2 < l.length) = True from by simp; omega, show (3 < l.length) = True from by simp; omega]

theorem dec_ascii (b : UInt8) (t : List UInt8) (h : b.toNat < 128) : dec (b :: t) = (b.toNat, 1) := by
  rw [dec_def]; simp [h]
theorem rn_ascii (b : UInt8) (t : List UInt8) (h : b.toNat < 128) : rn (b :: t) = (b.toNat, [b]) :: rn t := by
  rw [rn_cons _ (by simp), dec_ascii b t h]; rfl

theorem rn_feed (l t : List UInt8) : rn (l ++ 10 :: t) = rn l ++ (10, [10]) :: rn t := by
  induction l using rn_ind with
  | h0 => exact rn_ascii 10 t (by decide)
  | h1 l hl ih =>
    have hw := dec_width l hl
    rw [rn_cons (l ++ 10 :: t) (by simp), dec_feed l t hl, rn_cons l hl, List.take_append_of_le_length hw, List.drop_append_of_le_length hw, ih]
    rfl

/-- Firm runes, written down, are read again, whatever stands behind them. -/
theorem rn_firm (cs : List (Nat × List UInt8)) (h : ∀ c ∈ cs, Firm c) (t : List UInt8) : rn (flat cs ++ t) = cs ++ rn t := by
  induction cs with
  | nil => rfl
  | cons c cs ih =>
    have hc := h c (by simp)
    have e : flat (c :: cs) ++ t = c.2 ++ (flat cs ++ t) := by simp [flat]
    rw [e, rn_cons _ (by simp [hc.1]), hc.2]
    simp only [List.take_left', List.drop_left', List.cons_append]
    rw [ih (fun x hx => h x (by simp [hx]))]
theorem rn_firm' (cs : List (Nat × List UInt8)) (h : ∀ c ∈ cs, Firm c) : rn (flat cs) = cs := by
  have := rn_firm cs h []
  simpa [rn_nil] using this

/-- All runes of a text without bad bytes are firm. -/
theorem firm_all (l : List UInt8) : (∀ c ∈ rn l, badC c = false) → ∀ c ∈ rn l, Firm c := by
  induction l using rn_ind with
  | h0 => intro _ c hc; simp [rn_nil] at hc
  | h1 l hl ih =>
    rw [rn_cons l hl]
    intro h c hc
    rcases List.mem_cons.1 hc with rfl | hc
    · exact firm_of_good l hl (h _ (by simp))
    · exact ih (fun c hc => h c (by simp [hc])) c hc
/-- A rune that is not U+FFFD is firm. -/
theorem firm_mem (l : List UInt8) : ∀ c ∈ rn l, badC c = false → Firm c := by
  induction l using rn_ind with
  | h0 => intro c hc; simp [rn_nil] at hc
  | h1 l hl ih =>
    rw [rn_cons l hl]
    intro c hc hb
    rcases List.mem_cons.1 hc with rfl | hc
    · exact firm_of_good l hl hb
    · exact ih c hc hb
/-- Each rune has a byte. -/
theorem rn_one (l : List UInt8) : ∀ c ∈ rn l, 1 ≤ c.2.length := by
  induction l using rn_ind with
  | h0 => intro c hc; simp [rn_nil] at hc
  | h1 l hl ih =>
    rw [rn_cons l hl]
    intro c hc
    rcases List.mem_cons.1 hc with rfl | hc
    · have := dec_pos l hl; have := List.length_pos_iff.2 hl
      simp only [List.length_take]; omega
    · exact ih c hc
theorem badAt_none (cs : List (Nat × List UInt8)) : ∀ k, badAt k cs = none ↔ ∀ c ∈ cs, badC c = false := by
  induction cs with
  | nil => intro k; simp [badAt]
  | cons c cs ih =>
    intro k
    unfold badAt
    split
    · rename_i h; simp [h]
    · rename_i h; rw [ih]; simp [h]
end Go.Proofs.YtohljihndoodfaaDoor.Lx
