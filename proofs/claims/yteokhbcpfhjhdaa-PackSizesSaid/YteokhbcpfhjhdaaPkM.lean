/-
  The plain functions of layer 3 (pack), over lists of bytes: an integer's bytes, and the integer at the head of a list. No Go here.
-/
import GoSem.Claim
namespace Go.Proofs.Yteokhbcpfhjhdaa.Pk

/-- A number as one without a sign. -/
def zig (n : Int) : Nat := if n < 0 then (-2 * n - 1).toNat else (2 * n).toNat
def unzig (z : Nat) : Int := if z % 2 = 1 then -1 - (z / 2 : Nat) else (z / 2 : Nat)
def i64 (n : Int) : Prop := -9223372036854775808 ≤ n ∧ n ≤ 9223372036854775807
def big : Nat := 18446744073709551616

theorem unzig_zig (n : Int) : unzig (zig n) = n := by unfold unzig zig; split <;> split <;> omega
theorem zig_unzig (z : Nat) : zig (unzig z) = z := by unfold unzig zig; split <;> split <;> omega
theorem zig_lt {n : Int} (h : i64 n) : zig n < 18446744073709551616 := by unfold i64 at h; unfold zig; split <;> omega
theorem unzig_i64 {z : Nat} (h : z < 18446744073709551616) : i64 (unzig z) := by unfold unzig i64; split <;> omega

/-- The bytes of a number without a sign: groups of seven bits, the least ones first. -/
def encF : Nat → Nat → List UInt8
  | 0, z => [UInt8.ofNat z]
  | f + 1, z => if z < 128 then [UInt8.ofNat z] else UInt8.ofNat (z % 128 + 128) :: encF f (z / 128)
def bs (n : Int) : List UInt8 := encF 9 (zig n)

theorem ofNat_toNat {z : Nat} (h : z < 256) : (UInt8.ofNat z).toNat = z := by simp; omega

/-- What a group of bytes comes to. -/
def val : List UInt8 → Nat
  | [] => 0
  | b :: t => b.toNat % 128 + 128 * val t

/-- The group at the head: up to the first byte below 128, of at most so many. -/
def grp : Nat → List UInt8 → Option (List UInt8)
  | 0, _ => none
  | _ + 1, [] => none
  | f + 1, b :: t => if b.toNat < 128 then some [b] else (grp f t).map (b :: ·)

theorem encF_ne (f z : Nat) : encF f z ≠ [] := by cases f <;> simp [encF]; split <;> simp
theorem encF_len (f z : Nat) : (encF f z).length ≤ f + 1 := by
  induction f generalizing z with
  | zero => simp [encF]
  | succ f ih => simp only [encF]; split <;> simp; have := ih (z / 128); omega
theorem encF_pos (f z : Nat) : 0 < (encF f z).length := List.length_pos_iff.2 (encF_ne f z)
theorem bs_len (n : Int) : (bs n).length ≤ 10 := encF_len 9 _
theorem bs_pos (n : Int) : 0 < (bs n).length := encF_pos 9 _

theorem val_encF (f z : Nat) (h : z < 128 ^ (f + 1)) : val (encF f z) = z := by
  induction f generalizing z with
  | zero => simp only [encF, val]; rw [ofNat_toNat (by omega)]; omega
  | succ f ih =>
    simp only [encF]
    split
    · simp only [val]; rw [ofNat_toNat (by omega)]; omega
    · simp only [val]
      rw [ofNat_toNat (by omega), ih (z / 128) (by rw [Nat.div_lt_iff_lt_mul (by omega), ← Nat.pow_succ]; exact h)]
      omega

theorem grp_encF (f z : Nat) (t : List UInt8) (h : z < 128 ^ (f + 1)) : grp (f + 1) (encF f z ++ t) = some (encF f z) := by
  induction f generalizing z with
  | zero =>
    simp only [encF, List.cons_append, List.nil_append, grp]
    rw [ofNat_toNat (by omega), if_pos (by omega)]
  | succ f ih =>
    simp only [encF]
    split
    · simp only [List.cons_append, List.nil_append, grp]
      rw [ofNat_toNat (by omega), if_pos (by omega)]
    · simp only [List.cons_append]
      rw [grp, ofNat_toNat (by omega), if_neg (by omega), ih (z / 128) (by rw [Nat.div_lt_iff_lt_mul (by omega), ← Nat.pow_succ]; exact h)]
      rfl

theorem grp_prefix (f : Nat) (l g : List UInt8) (h : grp f l = some g) : ∃ t, l = g ++ t := by
  induction f generalizing l g with
  | zero => simp [grp] at h
  | succ f ih =>
    cases l with
    | nil => simp [grp] at h
    | cons b t =>
      simp only [grp] at h
      split at h
      · injection h with h; subst h; exact ⟨t, rfl⟩
      · simp only [Option.map_eq_some_iff] at h
        obtain ⟨g', hg, rfl⟩ := h
        obtain ⟨t', rfl⟩ := ih t g' hg
        exact ⟨t', rfl⟩

theorem grp_len (f : Nat) (l g : List UInt8) (h : grp f l = some g) : 0 < g.length ∧ g.length ≤ f ∧ g.length ≤ l.length := by
  induction f generalizing l g with
  | zero => simp [grp] at h
  | succ f ih =>
    cases l with
    | nil => simp [grp] at h
    | cons b t =>
      simp only [grp] at h
      split at h
      · injection h with h; subst h; simp
      · simp only [Option.map_eq_some_iff] at h
        obtain ⟨g', hg, rfl⟩ := h
        have := ih t g' hg
        simp; omega

/-- The integer at the head of a list, and how many bytes it has. -/
def dec (l : List UInt8) : Option (Int × Nat) :=
  match grp 10 l with
  | none => none
  | some g => if encF 9 (val g % 18446744073709551616) = g then some (unzig (val g % 18446744073709551616), g.length) else none

theorem pow_big : (18446744073709551616 : Nat) ≤ 128 ^ 10 := by decide

theorem dec_bs (n : Int) (t : List UInt8) (h : i64 n) : dec (bs n ++ t) = some (n, (bs n).length) := by
  have hz := zig_lt h
  have hz' : zig n < 128 ^ (9 + 1) := Nat.lt_of_lt_of_le hz pow_big
  unfold dec bs
  rw [grp_encF 9 _ t hz']
  simp only
  rw [val_encF 9 _ hz', Nat.mod_eq_of_lt hz, if_pos rfl, unzig_zig]

theorem dec_some {l : List UInt8} {n : Int} {s : Nat} (h : dec l = some (n, s)) : i64 n ∧ s = (bs n).length ∧ ∃ t, l = bs n ++ t := by
  unfold dec at h
  split at h
  · cases h
  · rename_i g hg
    split at h
    · rename_i he
      injection h with h
      injection h with h1 h2
      have hlt : val g % 18446744073709551616 < 18446744073709551616 := Nat.mod_lt _ (by decide)
      have hb : bs n = g := by unfold bs; rw [← h1, zig_unzig]; exact he
      refine ⟨by rw [← h1]; exact unzig_i64 hlt, by rw [hb, h2], ?_⟩
      rw [hb]; exact grp_prefix 10 l g hg
    · cases h

theorem dec_len {l : List UInt8} {n : Int} {s : Nat} (h : dec l = some (n, s)) : 0 < s ∧ s ≤ 10 ∧ s ≤ l.length := by
  obtain ⟨_, rfl, t, rfl⟩ := dec_some h
  exact ⟨bs_pos n, bs_len n, by simp⟩

theorem dec_nil : dec [] = none := rfl

/-- The conditions of a group that is an integer's. -/
theorem enc_group : ∀ (f : Nat) (l g : List UInt8), grp (f + 1) l = some g → (1 < g.length → g.getLast? ≠ some 0) → encF f (val g) = g := by
  intro f
  induction f with
  | zero =>
    intro l g h hl
    cases l with
    | nil => simp [grp] at h
    | cons b t =>
      simp only [grp] at h
      split at h
      · injection h with h; subst h
        simp only [val, encF]
        rw [Nat.mod_eq_of_lt (by omega)]
        simp
      · simp at h
  | succ f ih =>
    intro l g h hl
    cases l with
    | nil => simp [grp] at h
    | cons b t =>
      rw [grp] at h
      split at h
      · injection h with h; subst h
        have ev : val [b] = b.toNat % 128 + 128 * 0 := rfl
        rw [ev, encF, if_pos (by omega), Nat.mod_eq_of_lt (by omega)]
        simp
      · rename_i hb
        simp only [Option.map_eq_some_iff] at h
        obtain ⟨g', hg, rfl⟩ := h
        have hl0 := (grp_len _ t g' hg).1
        have hg' : encF f (val g') = g' := ih t g' hg (fun h1 => by
          have := hl (by simp; omega)
          rw [List.getLast?_cons_of_ne_nil (List.length_pos_iff.1 hl0)] at this
          exact this)
        have hv : 0 < val g' := by
          rcases Nat.eq_zero_or_pos (val g') with h0 | h0
          · exfalso
            have h1 : g'.getLast? ≠ some 0 := by
              have := hl (by simp; omega)
              rw [List.getLast?_cons_of_ne_nil (List.length_pos_iff.1 hl0)] at this
              exact this
            apply h1
            rw [← hg', h0]
            cases f <;> simp [encF]
          · exact h0
        have hlt := b.toNat_lt
        have ev : val (b :: g') = b.toNat % 128 + 128 * val g' := rfl
        rw [ev, encF, if_neg (by omega)]
        have e1 : (b.toNat % 128 + 128 * val g') % 128 + 128 = b.toNat := by omega
        have e2 : (b.toNat % 128 + 128 * val g') / 128 = val g' := by omega
        rw [e1, e2, hg']
        simp

end Go.Proofs.Yteokhbcpfhjhdaa.Pk
