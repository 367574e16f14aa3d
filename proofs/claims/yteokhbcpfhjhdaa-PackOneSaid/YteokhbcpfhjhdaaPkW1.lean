/-
  Contracts of pack's zigzag, unzigzag, groups.add, encode.
-/
import Derived.Test.YteokhbcpfhjhdaaPkB
namespace Go.Proofs.Yteokhbcpfhjhdaa.Pk
open Go.RowKit

theorem bits_not_u64 (x : Int) (h0 : 0 ≤ x) (h1 : x < 18446744073709551616) : bits .xor .u64 IntKind.u64.max x = 18446744073709551615 - x := by
  show IntKind.u64.wrap ((BitVec.ofInt 64 IntKind.u64.max ^^^ BitVec.ofInt 64 x).toNat : Int) = _
  have e1 : BitVec.ofInt 64 IntKind.u64.max = BitVec.allOnes 64 := by decide
  have e2 : (BitVec.ofInt 64 x).toNat = x.toNat := by
    rw [BitVec.toNat_ofInt]; omega
  rw [e1, BitVec.allOnes_xor, BitVec.toNat_not, e2]
  show IntKind.u64.wrap _ = _
  rw [IntKind.wrap_u64]
  omega
theorem bits_not_i64 (x : Int) (h0 : 0 ≤ x) (h1 : x < 9223372036854775808) : bits .xor .i64 (-1) x = -1 - x := by
  show IntKind.i64.wrap ((BitVec.ofInt 64 (-1) ^^^ BitVec.ofInt 64 x).toNat : Int) = _
  have e1 : BitVec.ofInt 64 (-1) = BitVec.allOnes 64 := by decide
  have e2 : (BitVec.ofInt 64 x).toNat = x.toNat := by
    rw [BitVec.toNat_ofInt]; omega
  rw [e1, BitVec.allOnes_xor, BitVec.toNat_not, e2]
  show IntKind.i64.wrap _ = _
  rw [IntKind.wrap_i64]
  omega

set_option maxHeartbeats 400000 in
theorem zigzag_any (n : Int) (w : World) (h : i64 n) :
    Calls Try.prog 39 #[.int .i64 n] w fun e w' => e = .returned (.int .u64 (zig n : Int)) ∧ w = w' := by
  obtain ⟨h1, h2⟩ := h
  by_cases hn : n < 0
  · go_enter Try.func39, Try.ntmps39
    go_wp2
    go_ret
    refine ⟨ret_int (k := .u64) (a := bits BinOp.xor IntKind.u64 IntKind.u64.max (IntKind.u64.wrap (IntKind.u64.wrap n * 2))) ?_, rfl⟩
    have e : IntKind.u64.wrap (IntKind.u64.wrap n * 2) = 2 * n + 18446744073709551616 := by simp only [IntKind.wrap_u64]; omega
    rw [e, bits_not_u64 _ (by omega) (by omega)]
    unfold zig
    rw [if_pos hn]
    omega
  · go_enter Try.func39, Try.ntmps39
    go_wp2
    go_ret
    refine ⟨ret_int (k := .u64) (a := n * 2) ?_, rfl⟩
    unfold zig
    rw [if_neg (by omega)]
    omega

set_option maxHeartbeats 400000 in
theorem unzigzag_any (z : Nat) (w : World) (h : z < 18446744073709551616) :
    Calls Try.prog 44 #[.int .u64 (z : Int)] w fun e w' => e = .returned (.int .i64 (unzig z)) ∧ w = w' := by
  rcases Nat.mod_two_eq_zero_or_one z with hz | hz
  · go_enter Try.func44, Try.ntmps44
    go_wp2
    go_ret
    refine ⟨ret_int (k := .i64) (a := (z : Int) / 2) ?_, rfl⟩
    unfold unzig
    rw [if_neg (by omega)]
    omega
  · go_enter Try.func44, Try.ntmps44
    go_wp2
    go_ret
    refine ⟨ret_int (k := .i64) (a := bits BinOp.xor IntKind.i64 (-1) ((z : Int) / 2)) ?_, rfl⟩
    rw [bits_not_i64 _ (by omega) (by omega)]
    unfold unzig
    rw [if_pos hz]
    omega

/-- A group's struct: ten bytes, noughts behind, and how many. -/
def gAt (l : List UInt8) (j : Nat) : Int := ((l.getD j 0).toNat : Int)
def grpA (l : List UInt8) : Array Value := #[.int .u8 (gAt l 0), .int .u8 (gAt l 1), .int .u8 (gAt l 2), .int .u8 (gAt l 3), .int .u8 (gAt l 4), .int .u8 (gAt l 5), .int .u8 (gAt l 6), .int .u8 (gAt l 7), .int .u8 (gAt l 8), .int .u8 (gAt l 9), .int .i64 (l.length : Int)]

theorem grpA_at (l : List UInt8) (j : Nat) (h : j < 10) : (grpA l)[j]? = some (.int .u8 (gAt l j)) := by
  obtain rfl | rfl | rfl | rfl | rfl | rfl | rfl | rfl | rfl | rfl : j = 0 ∨ j = 1 ∨ j = 2 ∨ j = 3 ∨ j = 4 ∨ j = 5 ∨ j = 6 ∨ j = 7 ∨ j = 8 ∨ j = 9 := by omega
  all_goals rfl
theorem gAt_other (l : List UInt8) (b : UInt8) (j : Nat) (h : j ≠ l.length) : gAt (l ++ [b]) j = gAt l j := by
  unfold gAt
  rcases Nat.lt_or_ge j l.length with h1 | h1
  · simp [List.getD_eq_getElem?_getD, List.getElem?_append_left h1]
  · simp only [List.getD_eq_getElem?_getD]
    rw [List.getElem?_eq_none (by simp; omega), List.getElem?_eq_none (by omega)]
theorem gAt_same (l : List UInt8) (b : UInt8) : gAt (l ++ [b]) l.length = (b.toNat : Int) := by
  unfold gAt
  simp [List.getD_eq_getElem?_getD]
theorem grpA_add (l : List UInt8) (b : UInt8) (h : l.length < 10) : ((grpA l).setIfInBounds l.length (.int .u8 (b.toNat : Int))).setIfInBounds 10 (.int .i64 ((l.length : Int) + 1)) = grpA (l ++ [b]) := by
  apply Array.ext_getElem?
  intro i
  rcases Nat.lt_or_ge i 10 with h10 | h10
  · rw [grpA_at (l ++ [b]) i h10, Array.getElem?_setIfInBounds, if_neg (by omega), Array.getElem?_setIfInBounds]
    by_cases he : l.length = i
    · subst he
      rw [if_pos rfl, if_pos (by simp [grpA]; omega), gAt_same]
    · rw [if_neg he, grpA_at l i h10, gAt_other l b i (by omega)]
  · rw [Array.getElem?_setIfInBounds]
    by_cases he : 10 = i
    · subst he
      rw [if_pos rfl, if_pos (by simp [grpA])]
      simp [grpA]
    · rw [if_neg he, Array.getElem?_setIfInBounds, if_neg (by omega), Array.getElem?_eq_none (by simp [grpA]; omega), Array.getElem?_eq_none (by simp [grpA]; omega)]

/-- But for one block all is as it was. -/
theorem gr_drewN {a w : World} {row : Option Nat} (h : a.grownBy w row) (n : Nat) : a.grownBy (w.drewN n) row := ⟨h.os, h.tape, h.output, h.size, h.block⟩
theorem gr_drew {a w : World} {row : Option Nat} (h : a.grownBy w row) : a.grownBy w.drew row := ⟨h.os, h.tape, h.output, h.size, h.block⟩
theorem gr_set {a w : World} {g : Nat} (h : a.grownBy w (some g)) (i : Nat) (u : Value) : a.grownBy (w.setCell ⟨g, i, none⟩ u) (some g) :=
  ⟨h.os, h.tape, h.output, by simpa [World.setCell] using h.size, fun k hk hne => (Below.heap_setCell w ⟨g, i, none⟩ u k (fun e => hne (by rw [e]))).trans (h.block k hk hne)⟩
theorem gr_trans {a b c : World} {row : Option Nat} (h : a.grownBy b row) (k : b.grownBy c row) : a.grownBy c row :=
  ⟨k.os.trans h.os, k.tape.trans h.tape, k.output.trans h.output, Nat.le_trans h.size k.size, fun i hi hne => (k.block i (Nat.lt_of_lt_of_le hi h.size) hne).trans (h.block i hi hne)⟩
theorem gr_below {a b : World} {row : Option Nat} (h : Below a.heap.size a b) : a.grownBy b row := ⟨h.os, h.tape, h.output, h.size, fun i hi _ => h.block i hi⟩
theorem below_gr {B g : Nat} {a w w' : World} (h : Below B a w) (k : w.grownBy w' (some g)) (hB : B ≤ w.heap.size) (hg : B ≤ g) : Below B a w' :=
  h.grown k hB (fun i hi => by injection hi with hi; omega)

theorem Box.eleven {w : World} {g : Nat} {t : TypeId} {l : List UInt8} (h : Box w g t (grpA l)) :
    w.cell? ⟨g, 0, none⟩ = some (.int .u8 (gAt l 0)) ∧ w.cell? ⟨g, 1, none⟩ = some (.int .u8 (gAt l 1)) ∧ w.cell? ⟨g, 2, none⟩ = some (.int .u8 (gAt l 2)) ∧ w.cell? ⟨g, 3, none⟩ = some (.int .u8 (gAt l 3)) ∧ w.cell? ⟨g, 4, none⟩ = some (.int .u8 (gAt l 4)) ∧
    w.cell? ⟨g, 5, none⟩ = some (.int .u8 (gAt l 5)) ∧ w.cell? ⟨g, 6, none⟩ = some (.int .u8 (gAt l 6)) ∧ w.cell? ⟨g, 7, none⟩ = some (.int .u8 (gAt l 7)) ∧ w.cell? ⟨g, 8, none⟩ = some (.int .u8 (gAt l 8)) ∧ w.cell? ⟨g, 9, none⟩ = some (.int .u8 (gAt l 9)) ∧ w.cell? ⟨g, 10, none⟩ = some (.int .i64 (l.length : Int)) :=
  ⟨h.cell 0, h.cell 1, h.cell 2, h.cell 3, h.cell 4, h.cell 5, h.cell 6, h.cell 7, h.cell 8, h.cell 9, h.cell 10⟩

def AddPost (g : Nat) (l : List UInt8) (b : UInt8) (w : World) (e : Ending) (w' : World) : Prop :=
  e = .returned (.tuple #[]) ∧ Box w' g 56 (grpA (l ++ [b])) ∧ w.grownBy w' (some g)

set_option maxHeartbeats 1000000 in
theorem gadd_any (g : Nat) (l : List UInt8) (b : UInt8) (w : World) (hx : Box w g 56 (grpA l)) (hl : l.length < 10) :
    Calls Try.prog 40 #[.pointer (some ⟨g, 0, none⟩), .int .u8 (b.toNat : Int)] w (AddPost g l b w) := by
  have hc : w.cell? ⟨g, 10, none⟩ = some (.int .i64 (l.length : Int)) := hx.cell 10
  have hi : w.cell? ⟨g, l.length, none⟩ = some (.int .u8 (gAt l l.length)) := (hx.cell l.length).trans (grpA_at l _ hl)
  have hf := hx.frozen l.length
  have hf2 := hx.frozen 10
  go_enter Try.func40, Try.ntmps40
  go_wp2
  go_region
  go_wp2
  go_end0
  refine ⟨rfl, ?_, gr_drew (gr_set (gr_set (World.grownBy.refl w _) _ _) _ _)⟩
  have h2 := ((hx.set_ l.length (.int .u8 (b.toNat : Int))).set_ 10 (.int .i64 ((l.length : Int) + 1))).drew
  rw [grpA_add l b hl] at h2
  exact h2
theorem gadd_at (g : Nat) (l : List UInt8) (b : UInt8) (x : Int) (w : World) (hb : (b.toNat : Int) = x) (hx : Box w g 56 (grpA l)) (hl : l.length < 10) :
    Calls Try.prog 40 #[.pointer (some ⟨g, 0, none⟩), .int .u8 x] w (AddPost g l b w) := by
  subst hb
  exact gadd_any g l b w hx hl

theorem box_new1 (w : World) (o : Obj) (t : TypeId) (cs : Array Value) : Box ((w.alloc o).alloc (.cells cs t)) (w.heap.size + 1) t cs := by
  have h := Box.new (w.alloc o) t cs
  have e : (w.alloc o).heap.size = w.heap.size + 1 := by simp
  rw [e] at h
  exact h
theorem below_st {g i : Nat} {a w : World} {u : Value} (h : Below g a w) : Below g a (w.setCell ⟨g, i, none⟩ u) := h.setCell (p := ⟨g, i, none⟩) (Nat.le_refl _) u
theorem grpA_nil : grpA [] = #[.int .u8 0, .int .u8 0, .int .u8 0, .int .u8 0, .int .u8 0, .int .u8 0, .int .u8 0, .int .u8 0, .int .u8 0, .int .u8 0, .int .i64 0] := rfl

def EncRel (n : Int) (w : World) (v : Value) (wr : World) : Prop :=
  ∃ (z f : Nat) (l : List UInt8), v = .int .u64 (z : Int) ∧ Box wr w.heap.size 56 (grpA []) ∧ Box wr (w.heap.size + 1) 56 (grpA l) ∧ Below w.heap.size w wr ∧
    z < 18446744073709551616 ∧ z < 128 ^ (f + 1) ∧ l.length + f = 9 ∧ l ++ encF f z = bs n
def u64Of (v : Value) : Nat := (intOf v).toNat
def EncPost (n : Int) (w : World) (e : Ending) (w' : World) : Prop := e = .returned (.agg (grpA (bs n))) ∧ Below w.heap.size w w'

set_option maxRecDepth 100000 in
set_option maxHeartbeats 1000000 in
theorem encode_any (n : Int) (w : World) (h : i64 n) :
    Calls Try.prog 28 #[.int .i64 n] w (EncPost n w) := by
  go_enter Try.func28, Try.ntmps28
  go_wp2_with fail
  refine (zigzag_any n _ h).mono ?_
  rintro e w' ⟨rfl, rfl⟩
  go_wp2_with fail
  go_loopw [4] (EncRel n w) (fun i _ => u64Of i)
  case atStart =>
    refine ⟨zig n, 9, [], rfl, ?_, ?_, ((Below.refl _ w).alloc (Nat.le_refl _) _).alloc (by simp) _, zig_lt h, Nat.lt_of_lt_of_le (zig_lt h) pow_big, rfl, rfl⟩
    · exact (Box.new w _ _).alloc _
    · exact box_new1 w _ _ _
  case round =>
    obtain ⟨z, f, l, rfl, hx0, hx1, hbw, hz, hzf, hlf, hbs⟩ := hrel
    have HB := Lib.hid hbs
    have HP := Lib.hid hzf
    have HL := Lib.hid hlf
    have hl9 : l.length ≤ 9 := by omega
    clear hbs hzf hlf
    have hr1 := hx1.lt
    by_cases hlt : z < 128
    · have hd : decide (128 ≤ (z : Int)) = false := by simp; omega
      have hB : l ++ [UInt8.ofNat z] = bs n := by
        rw [← HB.out]
        cases f <;> simp [encF, hlt]
      have HB2 := Lib.hid hB
      clear hB HB HP HL hz
      go_wp2_with fail
      refine (gadd_at (w.heap.size + 1) l (UInt8.ofNat z) (z : Int) wr (by rw [ofNat_toNat (by omega)]) hx1 (by omega)).mono ?_
      rintro e w2 ⟨rfl, hy1, hg⟩
      have hy0 := hx0.grown hg (by simp)
      have hbw2 := below_gr hbw hg hbw.size (by omega)
      rw [HB2.out] at hy1
      clear hx0 hx1 hbw hg HB2
      obtain ⟨c0, c1, c2, c3, c4, c5, c6, c7, c8, c9, c10⟩ := hy1.eleven
      obtain ⟨d0, d1, d2, d3, d4, d5, d6, d7, d8, d9, d10⟩ := hy0.eleven
      have e0 := hy0.frozen 0
      have e1 := hy0.frozen 1
      have e2 := hy0.frozen 2
      have e3 := hy0.frozen 3
      have e4 := hy0.frozen 4
      have e5 := hy0.frozen 5
      have e6 := hy0.frozen 6
      have e7 := hy0.frozen 7
      have e8 := hy0.frozen 8
      have e9 := hy0.frozen 9
      have e10 := hy0.frozen 10
      go_wp2
      refine bodyPost_ret (v := .agg (grpA (bs n))) (by unfold grpA; simp [results, Try.results28, go_sem, d0, d1, d2, d3, d4, d5, d6, d7, d8, d9, d10]) rfl ⟨rfl, ?_⟩
      iterate 11 with_reducible refine below_st ?_
      exact hbw2
    · have hd : decide (128 ≤ (z : Int)) = true := by simp; omega
      go_wp2_with fail
      refine (gadd_at (w.heap.size + 1) l (UInt8.ofNat (z % 128 + 128)) ((z : Int) % 128 + 128) wr (by rw [ofNat_toNat (by omega)]; omega) hx1 (by omega)).mono ?_
      rintro e w2 ⟨rfl, hy1, hg⟩
      have hy0 := hx0.grown hg (by simp)
      have hbw2 := below_gr hbw hg hbw.size (by omega)
      clear hx0 hx1 hbw hg
      go_wp2
      go_roundw
      case rel =>
        have hP := HP.out
        have hL := HL.out
        have hB := HB.out
        cases f with
        | zero => exact absurd hP (by omega)
        | succ f =>
          refine ⟨z / 128, f, l ++ [UInt8.ofNat (z % 128 + 128)], by go_num, hy0, hy1, hbw2, by omega, ?_, by simp; omega, ?_⟩
          · rw [Nat.div_lt_iff_lt_mul (by omega), ← Nat.pow_succ]; exact hP
          · rw [← hB, encF, if_neg hlt]; simp
      case measure => simp [u64Of, intOf]; omega
end Go.Proofs.Yteokhbcpfhjhdaa.Pk
