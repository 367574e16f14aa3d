/-
  The contract of pack's groups.value.
-/
import Derived.Test.YteokhbcpfhjhdaaPkW2
namespace Go.Proofs.Yteokhbcpfhjhdaa.Pk
open Go.RowKit

/-- The sum of the first groups. -/
def pv (l : List UInt8) : Nat → Nat
  | 0 => 0
  | k + 1 => pv l k + (l.getD k 0).toNat % 128 * 128 ^ k

theorem pv_lt (l : List UInt8) (k : Nat) : pv l k < 128 ^ k := by
  induction k with
  | zero => simp [pv]
  | succ k ih =>
    rw [pv, Nat.pow_succ]
    have h : (l.getD k 0).toNat % 128 ≤ 127 := by omega
    have h2 : (l.getD k 0).toNat % 128 * 128 ^ k ≤ 127 * 128 ^ k := Nat.mul_le_mul_right _ h
    omega
theorem or_add (i x q : Nat) (h : x < 2 ^ i) : x ||| (2 ^ i * q) = 2 ^ i * q + x := by
  rw [Nat.or_comm, Nat.two_pow_add_eq_or_of_lt h]
theorem ofInt_u64 (a : Nat) (ha : a < 18446744073709551616) : (BitVec.ofInt 64 (a : Int)).toNat = a := by
  rw [BitVec.ofInt_natCast, BitVec.toNat_ofNat]; exact Nat.mod_eq_of_lt (by omega)
theorem or_u64 (a b : Nat) (ha : a < 18446744073709551616) (hb : b < 18446744073709551616) : bits .or .u64 (a : Int) (b : Int) = ((a ||| b : Nat) : Int) := by
  have hx : a ||| b < 2 ^ 64 := Nat.or_lt_two_pow (by omega) (by omega)
  show IntKind.u64.wrap ((BitVec.ofInt 64 (a : Int) ||| BitVec.ofInt 64 (b : Int)).toNat : Int) = _
  rw [BitVec.toNat_or, ofInt_u64 a ha, ofInt_u64 b hb, IntKind.wrap_u64]
  omega
theorem or_step_nat (k x d : Nat) (hk : k < 10) (hx : x < 128 ^ k) (hd : d < 128) : x ||| (d * 2 ^ (k * 7) % 18446744073709551616) = (x + d * 128 ^ k) % 18446744073709551616 := by
  obtain rfl | rfl | rfl | rfl | rfl | rfl | rfl | rfl | rfl | rfl : k = 0 ∨ k = 1 ∨ k = 2 ∨ k = 3 ∨ k = 4 ∨ k = 5 ∨ k = 6 ∨ k = 7 ∨ k = 8 ∨ k = 9 := by omega
  · have hx0 : x = 0 := by
      have : x < 1 := by simpa using hx
      omega
    rw [hx0, Nat.zero_or]
    omega
  · have h := or_add 7 x d (by simpa using hx)
    have e : d * 2 ^ (1 * 7) % 18446744073709551616 = 2 ^ 7 * d := by omega
    rw [e, h]; omega
  · have h := or_add 14 x d (by simpa using hx)
    have e : d * 2 ^ (2 * 7) % 18446744073709551616 = 2 ^ 14 * d := by omega
    rw [e, h]; omega
  · have h := or_add 21 x d (by simpa using hx)
    have e : d * 2 ^ (3 * 7) % 18446744073709551616 = 2 ^ 21 * d := by omega
    rw [e, h]; omega
  · have h := or_add 28 x d (by simpa using hx)
    have e : d * 2 ^ (4 * 7) % 18446744073709551616 = 2 ^ 28 * d := by omega
    rw [e, h]; omega
  · have h := or_add 35 x d (by simpa using hx)
    have e : d * 2 ^ (5 * 7) % 18446744073709551616 = 2 ^ 35 * d := by omega
    rw [e, h]; omega
  · have h := or_add 42 x d (by simpa using hx)
    have e : d * 2 ^ (6 * 7) % 18446744073709551616 = 2 ^ 42 * d := by omega
    rw [e, h]; omega
  · have h := or_add 49 x d (by simpa using hx)
    have e : d * 2 ^ (7 * 7) % 18446744073709551616 = 2 ^ 49 * d := by omega
    rw [e, h]; omega
  · have h := or_add 56 x d (by simpa using hx)
    have e : d * 2 ^ (8 * 7) % 18446744073709551616 = 2 ^ 56 * d := by omega
    rw [e, h]; omega
  · have h := or_add 63 x (d % 2) (by simpa using hx)
    have e : d * 2 ^ (9 * 7) % 18446744073709551616 = 2 ^ 63 * (d % 2) := by omega
    rw [e, h]; omega
theorem pow128 (k : Nat) (h : k ≤ 9) : 128 ^ k ≤ 9223372036854775808 := by
  have := Nat.pow_le_pow_right (n := 128) (by omega) h
  omega
theorem or_step (l : List UInt8) (k x : Nat) (hk : k < 10) (hx : x = pv l k % 18446744073709551616) :
    bits .or .u64 (x : Int) (IntKind.u64.wrap (gAt l k % 128 * 2 ^ (k * 7))) = ((pv l (k + 1) % 18446744073709551616 : Nat) : Int) := by
  have hp := pv_lt l k
  have h128 := pow128 k (by omega)
  have hx' : x = pv l k := by rw [hx]; exact Nat.mod_eq_of_lt (by omega)
  have hd : (l.getD k 0).toNat % 128 < 128 := by omega
  have e : IntKind.u64.wrap (gAt l k % 128 * 2 ^ (k * 7)) = (((l.getD k 0).toNat % 128 * 2 ^ (k * 7) % 18446744073709551616 : Nat) : Int) := by
    unfold gAt
    rw [IntKind.wrap_u64]
    simp only [Int.natCast_emod, Int.natCast_mul, Int.natCast_pow]
    rfl
  rw [e, or_u64 _ _ (by omega) (Nat.mod_lt _ (by decide)), or_step_nat k x _ hk (by rw [hx']; exact hp) hd, hx']
  rfl
theorem pv_shift (b : UInt8) (l : List UInt8) (k : Nat) : pv (b :: l) (k + 1) = b.toNat % 128 + 128 * pv l k := by
  induction k with
  | zero => simp [pv]
  | succ k ih =>
    rw [pv, ih, pv]
    have e : (b :: l).getD (k + 1) 0 = l.getD k 0 := by simp
    have e2 : (l.getD k 0).toNat % 128 * 128 ^ (k + 1) = 128 * ((l.getD k 0).toNat % 128 * 128 ^ k) := by rw [Nat.pow_succ, Nat.mul_comm (128 ^ k) 128, Nat.mul_left_comm]
    rw [e, e2, Nat.mul_add, Nat.add_assoc]
theorem pv_nil (k : Nat) : pv [] k = 0 := by induction k with
  | zero => rfl
  | succ k ih => simp [pv, ih]
theorem pv_val (l : List UInt8) (k : Nat) (h : l.length ≤ k) : pv l k = val l := by
  induction l generalizing k with
  | nil => rw [pv_nil]; rfl
  | cons b l ih =>
    cases k with
    | zero => simp at h
    | succ k => rw [pv_shift, ih k (by simpa using h)]; rfl

theorem index_grp (l : List UInt8) (k : Nat) (h : k < 10) (w : World) :
    (Instr.index 54 (.agg #[.int .u8 (gAt l 0), .int .u8 (gAt l 1), .int .u8 (gAt l 2), .int .u8 (gAt l 3), .int .u8 (gAt l 4), .int .u8 (gAt l 5), .int .u8 (gAt l 6), .int .u8 (gAt l 7), .int .u8 (gAt l 8), .int .u8 (gAt l 9)]) (.int .i64 (k : Int))).run Try.prog w = .ok (.int .u8 (gAt l k)) w := by
  obtain rfl | rfl | rfl | rfl | rfl | rfl | rfl | rfl | rfl | rfl : k = 0 ∨ k = 1 ∨ k = 2 ∨ k = 3 ∨ k = 4 ∨ k = 5 ∨ k = 6 ∨ k = 7 ∨ k = 8 ∨ k = 9 := by omega
  all_goals kernel_rfl

def ValRel (l : List UInt8) (w : World) (z i : Value) (wr : World) : Prop :=
  ∃ k x : Nat, i = .int .i64 (k : Int) ∧ k ≤ 10 ∧ z = .int .u64 (x : Int) ∧ x < 18446744073709551616 ∧ x = pv l k % 18446744073709551616 ∧ wr = w.alloc (.cells (grpA l) 56)

set_option maxRecDepth 100000 in
set_option maxHeartbeats 1000000 in
theorem value_any (l : List UInt8) (w : World) (hl : l.length ≤ 10) :
    Calls Try.prog 43 #[.agg (grpA l)] w fun e w' => e = .returned (.int .i64 (unzig (val l % 18446744073709551616))) ∧ Below w.heap.size w w' := by
  unfold grpA
  go_enter Try.func43, Try.ntmps43
  go_wp2_with fail
  go_loopw [3, 8] (ValRel l w) (fun _ i _ => 10 - (intOf i).toNat)
  case atStart => exact ⟨0, 0, rfl, by omega, rfl, by omega, rfl, rfl⟩
  case round =>
    obtain ⟨k, x, rfl, hk10, rfl, hx, hxe, rfl⟩ := hrel
    have HX := Lib.hid hxe
    clear hxe
    by_cases hlt : k < 10
    · have hix := fun w => index_grp l k hlt w
      have hg0 : 0 ≤ gAt l k := by unfold gAt; omega
      have hg1 : gAt l k < 256 := by have := (l.getD k 0).toNat_lt; unfold gAt; omega
      go_wp2
      refine ⟨⟨k + 1, pv l (k + 1) % 18446744073709551616, by go_num, by omega, ?_, Nat.mod_lt _ (by decide), rfl, rfl⟩, by simp [intOf]; omega⟩
      rw [or_step l k x hlt HX.out]
    · go_wp2_with fail
      refine (unzigzag_any x _ hx).mono ?_
      rintro e w' ⟨rfl, rfl⟩
      go_wp2
      go_ret
      refine ⟨ret_int (k := .i64) (a := unzig x) ?_, (Below.refl _ w).alloc (Nat.le_refl _) _⟩
      obtain rfl : k = 10 := by omega
      rw [HX.out, pv_val l 10 hl]
end Go.Proofs.Yteokhbcpfhjhdaa.Pk
