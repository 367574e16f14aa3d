/-
  The contract of the document's own number (what is taken up).
-/
import Derived.Test.YteokhbcpfhjhdaaPkW7
namespace Go.Proofs.Yteokhbcpfhjhdaa.Pk
open Go.RowKit

theorem val_lt (g : List UInt8) : val g < 128 ^ g.length := by
  induction g with
  | nil => simp [val]
  | cons b t ih =>
    simp only [val, List.length_cons, Nat.pow_succ]
    have := Nat.mod_lt b.toNat (show 0 < 128 by omega)
    omega
theorem val_tail (b : UInt8) (t : List UInt8) : val t * 128 ≤ val (b :: t) := by simp only [val]; omega
theorem val_drop_le (g : List UInt8) (i j : Nat) (h : i ≤ j) : val (g.drop j) ≤ val (g.drop i) := by
  induction j with
  | zero => obtain rfl : i = 0 := by omega
            exact Nat.le_refl _
  | succ j ih =>
    rcases Nat.lt_or_ge j i with h1 | h1
    · obtain rfl : i = j + 1 := by omega
      exact Nat.le_refl _
    · have h2 := ih h1
      rcases Nat.lt_or_ge j g.length with h3 | h3
      · rw [List.drop_eq_getElem_cons h3] at h2
        have := val_tail g[j] (g.drop (j + 1))
        omega
      · rw [List.drop_of_length_le (by omega)]
        simp [val]
theorem encF_last (f z : Nat) (h : 1 < (encF f z).length) (hz : z < 128 ^ (f + 1)) : (encF f z).getLast? ≠ some 0 := by
  induction f generalizing z with
  | zero => simp [encF] at h
  | succ f ih =>
    simp only [encF] at h ⊢
    split at h
    · simp at h
    · rename_i hlt
      rw [if_neg hlt, List.getLast?_cons_of_ne_nil (encF_ne f _)]
      rcases Nat.lt_or_ge 1 (encF f (z / 128)).length with h1 | h1
      · exact ih (z / 128) h1 (by rw [Nat.div_lt_iff_lt_mul (by omega), ← Nat.pow_succ]; exact hz)
      · have hp := encF_pos f (z / 128)
        have hv := val_encF f (z / 128) (by rw [Nat.div_lt_iff_lt_mul (by omega), ← Nat.pow_succ]; exact hz)
        obtain ⟨x, hx⟩ := List.length_eq_one_iff.1 (show (encF f (z / 128)).length = 1 by omega)
        rw [hx] at hv ⊢
        simp only [val] at hv
        intro he
        simp at he
        subst he
        simp at hv
        omega

/-- Of a list whose head up to place k goes on, and whose place k ends it. -/
theorem dec_at {l : List UInt8} {k : Nat} (hk : k < l.length) (h9 : k ≤ 9) (hg : grp 10 l = some (l.take (k + 1))) :
    dec l = if (0 < k ∧ l[k].toNat = 0) ∨ (k = 9 ∧ 1 < l[k].toNat) then none else some (unzig (val (l.take (k + 1))), k + 1) := by
  have hlen : (l.take (k + 1)).length = k + 1 := by rw [List.length_take]; omega
  have hlast : (l.take (k + 1)).getLast? = some l[k] := by
    rw [List.take_succ_eq_append_getElem hk]; exact List.getLast?_concat
  have hsnoc : val (l.take (k + 1)) = val (l.take k) + l[k].toNat % 128 * 128 ^ k := by
    rw [List.take_succ_eq_append_getElem hk]
    have key : ∀ (p : List UInt8) (b : UInt8), val (p ++ [b]) = val p + b.toNat % 128 * 128 ^ p.length := by
      intro p b
      induction p with
      | nil => simp [val]
      | cons c p ih =>
        simp only [List.cons_append, val, ih, List.length_cons, Nat.pow_succ]
        have e2 : b.toNat % 128 * (128 ^ p.length * 128) = 128 * (b.toNat % 128 * 128 ^ p.length) := by rw [Nat.mul_comm (128 ^ p.length) 128, Nat.mul_left_comm]
        rw [e2, Nat.mul_add, Nat.add_assoc]
    rw [key]
    have : (l.take k).length = k := by rw [List.length_take]; omega
    rw [this]
  have hlt : l[k].toNat < 128 := by
    obtain ⟨t, ht⟩ := grp_prefix 10 l _ hg
    have key : ∀ (f : Nat) (l g : List UInt8), grp f l = some g → ∀ x, g.getLast? = some x → x.toNat < 128 := by
      intro f
      induction f with
      | zero => intro l g h; simp [grp] at h
      | succ f ih =>
        intro l g h x hx
        cases l with
        | nil => simp [grp] at h
        | cons b t =>
          simp only [grp] at h
          split at h
          · injection h with h; subst h; simp at hx; subst hx; assumption
          · simp only [Option.map_eq_some_iff] at h
            obtain ⟨g', hg', rfl⟩ := h
            have h0 := (grp_len f t g' hg').1
            rw [List.getLast?_cons_of_ne_nil (List.length_pos_iff.1 h0)] at hx
            exact ih t g' hg' x hx
    exact key 10 l _ hg _ hlast
  have hvk := val_lt (l.take k)
  have hlk : (l.take k).length = k := by rw [List.length_take]; omega
  rw [hlk] at hvk
  unfold dec
  rw [hg]
  simp only
  by_cases hc : (0 < k ∧ l[k].toNat = 0) ∨ (k = 9 ∧ 1 < l[k].toNat)
  · rw [if_pos hc, if_neg]
    intro he
    rcases hc with ⟨h0, hz⟩ | ⟨rfl, h1⟩
    · have h1 : 1 < (encF 9 (val (l.take (k + 1)) % 18446744073709551616)).length := by rw [he, hlen]; omega
      have := encF_last 9 _ h1 (Nat.lt_of_lt_of_le (Nat.mod_lt _ (by decide)) pow_big)
      rw [he, hlast] at this
      apply this
      congr 1
      exact UInt8.toNat_inj.1 (by rw [hz]; rfl)
    · have hv := val_encF 9 (val (l.take (9 + 1)) % 18446744073709551616) (Nat.lt_of_lt_of_le (Nat.mod_lt _ (by decide)) pow_big)
      rw [he, hsnoc] at hv
      have hm := Nat.mod_lt (val (List.take 9 l) + l[9].toNat % 128 * 128 ^ 9) (show 0 < 18446744073709551616 by decide)
      have : (128 : Nat) ^ 9 = 9223372036854775808 := by decide
      rw [this] at hv hm
      omega
  · rw [if_neg hc]
    have hsm : val (l.take (k + 1)) < 18446744073709551616 := by
      rw [hsnoc]
      rcases Nat.lt_or_ge k 9 with h | h
      · have h2 : (128 : Nat) ^ (k + 1) ≤ 128 ^ 9 := Nat.pow_le_pow_right (by omega) (by omega)
        have h3 := val_lt (l.take (k + 1))
        rw [hlen] at h3
        rw [← hsnoc]
        have : (128 : Nat) ^ 9 = 9223372036854775808 := by decide
        omega
      · obtain rfl : k = 9 := by omega
        have : (128 : Nat) ^ 9 = 9223372036854775808 := by decide
        rw [this] at hvk ⊢
        have : l[9].toNat ≤ 1 := by omega
        omega
    rw [Nat.mod_eq_of_lt hsm, if_pos, hlen]
    apply enc_group 9 l _ hg
    rw [hlen, hlast]
    intro h1 h2
    injection h2 with h2
    apply hc
    left
    exact ⟨by omega, by rw [h2]; rfl⟩

/-- The number's parts. -/
theorem unzig_parts (b : UInt8) (t : List UInt8) : unzig (val (b :: t)) = if b.toNat % 2 = 1 then -1 - ((val t : Int) * 64 + (b.toNat : Int) % 128 / 2) else (val t : Int) * 64 + (b.toNat : Int) % 128 / 2 := by
  have ev : val (b :: t) = b.toNat % 128 + 128 * val t := rfl
  unfold unzig
  rw [ev]
  by_cases h : b.toNat % 2 = 1
  · rw [if_pos h, if_pos (by omega)]; omega
  · rw [if_neg h, if_neg (by omega)]; omega
end Go.Proofs.Yteokhbcpfhjhdaa.Pk
