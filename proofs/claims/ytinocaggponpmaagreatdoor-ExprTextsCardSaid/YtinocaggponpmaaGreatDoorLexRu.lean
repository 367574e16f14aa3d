/-
  The document's own reading of one rune, plainly, and that it is Go's, but for bad bytes.
-/
import Derived.Test.YtinocaggponpmaaGreatDoorLexP
namespace Go.Proofs.YtinocaggponpmaaGreatDoor.Lx

/-- The rune at the head and its width; nothing at a bad byte. -/
def runeR (l : List UInt8) : Nat × Nat := if badC ((dec l).1, l.take (dec l).2) = true then (0, 0) else dec l

def contF : Nat → List UInt8 → Nat → Option Nat
  | 0, _, v => some v
  | _ + 1, [], _ => none
  | m + 1, c :: t, v => if c.toNat < 128 ∨ 192 ≤ c.toNat then none else contF m t (64 * v + c.toNat - 128)

/-- Bad values of a rune of so many bytes. -/
def outR (least v : Nat) : Prop := v < least ∨ 1114111 < v ∨ (55296 ≤ v ∧ v ≤ 57343)
instance (least v : Nat) : Decidable (outR least v) := by unfold outR; infer_instance
def finR (n least v0 : Nat) (t : List UInt8) : Nat × Nat :=
  if t.length + 1 < n then (0, 0) else match contF (n - 1) t v0 with
  | none => (0, 0)
  | some v => if outR least v then (0, 0) else (v, n)

theorem runeR_bad (l : List UInt8) (h : dec l = (65533, 1)) : runeR l = (0, 0) := by
  unfold runeR
  rw [h, if_pos]
  unfold badC
  simp only [decide_true, Bool.true_and, Bool.not_eq_true', decide_eq_false_iff_not]
  intro e
  have := congrArg List.length e
  rw [List.length_take] at this
  simp at this
  omega
theorem runeR_good (l : List UInt8) (h : (dec l).1 ≠ 65533) : runeR l = dec l := by
  unfold runeR
  rw [if_neg]
  unfold badC
  simp [h]

theorem valid_iff (v : Nat) : Utf8.valid (v : Int) = true ↔ v < 55296 ∨ (57344 ≤ v ∧ v ≤ 1114111) := by
  unfold Utf8.valid
  simp only [Bool.or_eq_true, Bool.and_eq_true, decide_eq_true_eq]
  omega

theorem runeR_eq (b : UInt8) (t : List UInt8) : runeR (b :: t) =
    if b.toNat < 128 then (b.toNat, 1) else if 192 ≤ b.toNat ∧ b.toNat < 224 then finR 2 128 (b.toNat - 192) t
    else if 224 ≤ b.toNat ∧ b.toNat < 240 then finR 3 2048 (b.toNat - 224) t
    else if 240 ≤ b.toNat ∧ b.toNat < 248 then finR 4 65536 (b.toNat - 240) t else (0, 0) := by
  have hb := b.toNat_lt
  by_cases h0 : b.toNat < 128
  · rw [if_pos h0]
    have e := dec_ascii b t h0
    rw [runeR_good _ (by rw [e]; show b.toNat ≠ 65533; omega), e]
  rw [if_neg h0]
  have hd := dec_def (b :: t)
  simp only [List.getD_cons_zero, List.getD_cons_succ, List.length_cons] at hd
  rw [if_neg h0] at hd
  by_cases h2 : 192 ≤ b.toNat ∧ b.toNat < 224
  · rw [if_pos h2]
    unfold finR
    match t with
    | [] =>
      rw [if_pos (by simp)]
      apply runeR_bad
      rw [hd, if_neg (by simp), if_neg (by simp), if_neg (by simp)]
    | c :: t =>
      have hc := c.toNat_lt
      rw [if_neg (by simp)]
      simp only [List.getD_cons_zero, List.length_cons] at hd
      simp only [contF, Nat.add_one_sub_one]
      by_cases hc2 : c.toNat < 128 ∨ 192 ≤ c.toNat
      · rw [if_pos hc2]
        apply runeR_bad
        rw [hd, if_neg (by omega), if_neg (by omega), if_neg (by omega)]
      · rw [if_neg hc2]
        simp only
        rw [if_pos (by omega)] at hd
        by_cases hv : outR 128 (64 * (b.toNat - 192) + c.toNat - 128)
        · rw [if_pos hv]
          apply runeR_bad
          rw [hd, if_neg (by unfold outR at hv; omega)]
        · rw [if_neg hv]
          rw [if_pos (by unfold outR at hv; omega)] at hd
          have e : dec (b :: c :: t) = (64 * (b.toNat - 192) + c.toNat - 128, 2) := by rw [hd, show b.toNat % 32 * 64 + c.toNat % 64 = 64 * (b.toNat - 192) + c.toNat - 128 from by omega]
          rw [runeR_good _ (by rw [e]; simp only; omega), e]
  rw [if_neg h2]
  by_cases h3 : 224 ≤ b.toNat ∧ b.toNat < 240
  · rw [if_pos h3]
    unfold finR
    match t with
    | [] =>
      rw [if_pos (by simp)]
      apply runeR_bad
      rw [hd, if_neg (by simp), if_neg (by simp), if_neg (by simp)]
    | [c] =>
      rw [if_pos (by simp)]
      apply runeR_bad
      rw [hd, if_neg (by omega), if_neg (by simp), if_neg (by simp)]
    | c :: d :: t =>
      have hc := c.toNat_lt
      have hdd := d.toNat_lt
      rw [if_neg (by simp)]
      simp only [List.getD_cons_zero, List.getD_cons_succ, List.length_cons] at hd
      rw [if_neg (by omega)] at hd
      simp only [contF, Nat.add_one_sub_one]
      by_cases hc2 : c.toNat < 128 ∨ 192 ≤ c.toNat
      · rw [if_pos hc2]
        apply runeR_bad
        rw [hd, if_neg (by omega), if_neg (by omega)]
      · rw [if_neg hc2]
        by_cases hd2 : d.toNat < 128 ∨ 192 ≤ d.toNat
        · rw [if_pos hd2]
          apply runeR_bad
          rw [hd, if_neg (by omega), if_neg (by omega)]
        · rw [if_neg hd2]
          simp only
          rw [if_pos (by omega)] at hd
          have ev : b.toNat % 16 * 4096 + c.toNat % 64 * 64 + d.toNat % 64 = 64 * (64 * (b.toNat - 224) + c.toNat - 128) + d.toNat - 128 := by omega
          rw [ev] at hd; simp only [valid_iff] at hd
          by_cases hv : outR 2048 (64 * (64 * (b.toNat - 224) + c.toNat - 128) + d.toNat - 128)
          · rw [if_pos hv]
            apply runeR_bad
            rw [hd, if_neg (by unfold outR at hv; omega)]
          · rw [if_neg hv]
            rw [if_pos (by unfold outR at hv; omega)] at hd
            by_cases hf : 64 * (64 * (b.toNat - 224) + c.toNat - 128) + d.toNat - 128 = 65533
            · have e1 : b.toNat = 239 := by omega
              have e2 : c.toNat = 191 := by omega
              have e3 : d.toNat = 189 := by omega
              have f1 : b = 239 := UInt8.toNat_inj.1 e1
              have f2 : c = 191 := UInt8.toNat_inj.1 e2
              have f3 : d = 189 := UInt8.toNat_inj.1 e3
              unfold runeR
              rw [hd, if_neg]
              unfold badC
              simp [f1, f2, f3]
            · rw [runeR_good _ (by rw [hd]; exact hf), hd]
  rw [if_neg h3]
  by_cases h4 : 240 ≤ b.toNat ∧ b.toNat < 248
  · rw [if_pos h4]
    unfold finR
    match t with
    | [] =>
      rw [if_pos (by simp)]
      apply runeR_bad
      rw [hd, if_neg (by simp), if_neg (by simp), if_neg (by simp)]
    | [c] =>
      rw [if_pos (by simp)]
      apply runeR_bad
      rw [hd, if_neg (by omega), if_neg (by simp), if_neg (by simp)]
    | [c, d] =>
      rw [if_pos (by simp)]
      apply runeR_bad
      rw [hd, if_neg (by omega), if_neg (by omega), if_neg (by simp)]
    | c :: d :: g :: t =>
      have hc := c.toNat_lt
      have hdd := d.toNat_lt
      have hg := g.toNat_lt
      rw [if_neg (by simp)]
      simp only [List.getD_cons_zero, List.getD_cons_succ, List.length_cons] at hd
      rw [if_neg (by omega), if_neg (by omega)] at hd
      simp only [contF, Nat.add_one_sub_one]
      by_cases hc2 : c.toNat < 128 ∨ 192 ≤ c.toNat
      · rw [if_pos hc2]
        apply runeR_bad
        rw [hd, if_neg (by omega)]
      · rw [if_neg hc2]
        by_cases hd2 : d.toNat < 128 ∨ 192 ≤ d.toNat
        · rw [if_pos hd2]
          apply runeR_bad
          rw [hd, if_neg (by omega)]
        · rw [if_neg hd2]
          by_cases hg2 : g.toNat < 128 ∨ 192 ≤ g.toNat
          · rw [if_pos hg2]
            apply runeR_bad
            rw [hd, if_neg (by omega)]
          · rw [if_neg hg2]
            simp only
            rw [if_pos (by omega)] at hd
            have ev : b.toNat % 8 * 262144 + c.toNat % 64 * 4096 + d.toNat % 64 * 64 + g.toNat % 64 = 64 * (64 * (64 * (b.toNat - 240) + c.toNat - 128) + d.toNat - 128) + g.toNat - 128 := by omega
            rw [ev] at hd; simp only [valid_iff] at hd
            by_cases hv : outR 65536 (64 * (64 * (64 * (b.toNat - 240) + c.toNat - 128) + d.toNat - 128) + g.toNat - 128)
            · rw [if_pos hv]
              apply runeR_bad
              rw [hd, if_neg (by unfold outR at hv; omega)]
            · rw [if_neg hv]
              rw [if_pos (by unfold outR at hv; omega)] at hd
              rw [runeR_good _ (by rw [hd]; unfold outR at hv; simp only; omega), hd]
  rw [if_neg h4]
  apply runeR_bad
  rw [hd, if_neg (by omega), if_neg (by omega), if_neg (by omega)]
end Go.Proofs.YtinocaggponpmaaGreatDoor.Lx
