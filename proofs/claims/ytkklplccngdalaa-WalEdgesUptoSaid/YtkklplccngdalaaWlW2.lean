/-
  Contracts of numbers in sectors: setEntry, head, index, entry, bytes.Equal; groups in memory.
-/
import Derived.Test.YtkklplccngdalaaWlW1
namespace Go.Proofs.Ytkklplccngdalaa.Dk
open Go.RowKit

theorem bits_or_i64 (a b : Nat) (ha : a < 4611686018427387904) (hb : b < 4611686018427387904) : bits .or .i64 (a : Int) (b : Int) = ((a ||| b : Nat) : Int) := by
  have hx : a ||| b < 2 ^ 62 := Nat.or_lt_two_pow (by omega) (by omega)
  have h1 : (BitVec.ofInt 64 (a : Int)).toNat = a := by
    rw [BitVec.ofInt_natCast, BitVec.toNat_ofNat]; exact Nat.mod_eq_of_lt (by omega)
  have h2 : (BitVec.ofInt 64 (b : Int)).toNat = b := by
    rw [BitVec.ofInt_natCast, BitVec.toNat_ofNat]; exact Nat.mod_eq_of_lt (by omega)
  show IntKind.i64.wrap ((BitVec.ofInt 64 (a : Int) ||| BitVec.ofInt 64 (b : Int)).toNat : Int) = _
  rw [BitVec.toNat_or, h1, h2]
  have hm : ((a ||| b : Nat) : Int) % 18446744073709551616 = ((a ||| b : Nat) : Int) := Int.emod_eq_of_lt (by omega) (by omega)
  show (if (IntKind.i64.signed && decide (((a ||| b : Nat) : Int) % 18446744073709551616 ≥ 9223372036854775808)) = true then _ else ((a ||| b : Nat) : Int) % 18446744073709551616) = _
  rw [hm, if_neg]
  have : ¬ ((a ||| b : Nat) : Int) ≥ 9223372036854775808 := by omega
  simp [this]
theorem or_shift (a b k : Nat) (ha : a < 2 ^ k) : a ||| b * 2 ^ k = a + b * 2 ^ k := by
  have h1 := Nat.shiftLeft_add_eq_or_of_lt ha b
  rw [Nat.shiftLeft_eq] at h1
  rw [Nat.or_comm, ← h1, Nat.add_comm]
theorem or_four {x0 x1 x2 x3 : Nat} (h0 : x0 < 256) (h1 : x1 < 256) (h2 : x2 < 256) (h3 : x3 < 256) :
    bits .or .i64 (bits .or .i64 (bits .or .i64 (bits .or .i64 0 (x0 : Int)) ((x1 : Int) * 256)) ((x2 : Int) * 65536)) ((x3 : Int) * 16777216) = ((x0 + 256 * x1 + 65536 * x2 + 16777216 * x3 : Nat) : Int) := by
  have e1 : (x1 : Int) * 256 = ((x1 * 2 ^ 8 : Nat) : Int) := by omega
  have e2 : (x2 : Int) * 65536 = ((x2 * 2 ^ 16 : Nat) : Int) := by omega
  have e3 : (x3 : Int) * 16777216 = ((x3 * 2 ^ 24 : Nat) : Int) := by omega
  have e0 : (0 : Int) = ((0 : Nat) : Int) := rfl
  rw [e1, e2, e3, e0, bits_or_i64 _ _ (by omega) (by omega), Nat.zero_or, bits_or_i64 _ _ (by omega) (by omega), or_shift _ _ _ (by omega), bits_or_i64 _ _ (by omega) (by omega), or_shift _ _ _ (by omega), bits_or_i64 _ _ (by omega) (by omega), or_shift _ _ _ (by omega)]
  omega

theorem box_u8 {w : World} {g : Nat} {t : TypeId} {b : List UInt8} (h : Box w g t (u8C b).toArray) {k : Nat} (hk : k < b.length) : w.cell? ⟨g, k, none⟩ = some (.int .u8 ((gb b k : Nat) : Int)) := by
  rw [h.cell k]
  simp [u8C, gb, List.getD_eq_getElem?_getD, List.getElem?_eq_getElem hk]

set_option maxRecDepth 100000 in
set_option maxHeartbeats 1000000 in
theorem entry_all (i : Nat) (b : List UInt8) (g : Nat) (t : TypeId) (w : World) (hx : Box w g t (u8C b).toArray) (hb : b.length = 256) (hi : i < 64) :
    Calls Try.prog 48 #[.slice (some ⟨g, 0, none⟩) 256 256, .int .i64 (i : Int)] w (Same (.int .i64 ((ent b i : Nat) : Int)) w) := by
  have c0 := box_u8 hx (k := i * 4) (by omega)
  have c1 := box_u8 hx (k := i * 4 + 1) (by omega)
  have c2 := box_u8 hx (k := i * 4 + 2) (by omega)
  have c3 := box_u8 hx (k := i * 4 + 3) (by omega)
  have h0 := gb_lt b (i * 4)
  have h1 := gb_lt b (i * 4 + 1)
  have h2 := gb_lt b (i * 4 + 2)
  have h3 := gb_lt b (i * 4 + 3)
  unfold ent
  generalize gb b (i * 4) = x0 at *
  generalize gb b (i * 4 + 1) = x1 at *
  generalize gb b (i * 4 + 2) = x2 at *
  generalize gb b (i * 4 + 3) = x3 at *
  clear hx hb
  go_enter Try.func48, Try.ntmps48
  go_wp2_with fail
  refine wp_loop_rounds 5 ?_
  rw [rounds_succ]
  go_wp2_with fail
  rw [rounds_succ]
  go_wp2_with fail
  rw [rounds_succ]
  go_wp2_with fail
  rw [rounds_succ]
  go_wp2_with fail
  rw [rounds_succ]
  go_wp2_with fail
  go_ret
  exact ⟨ret_int (or_four h0 h1 h2 h3), rfl⟩

theorem u8C_byte (b : List UInt8) (k n j : Nat) : (u8C b).toArray.setIfInBounds k (.int .u8 (((n / 256 ^ j % 256 : Nat)) : Int)) = (u8C (b.set k (byteOf n j))).toArray := by
  rw [← u8C_set, byteOf_toNat]
def SetPost (l : List UInt8) (g : Nat) (t : TypeId) (w : World) (e : Ending) (w' : World) : Prop := e = .returned (.tuple #[]) ∧ Box w' g t (u8C l).toArray ∧ Fr (fun k => k = g) w w'
set_option maxRecDepth 100000 in
set_option maxHeartbeats 1000000 in
theorem setEntry_all (i n : Nat) (b : List UInt8) (g : Nat) (t : TypeId) (w : World) (hx : Box w g t (u8C b).toArray) (hb : b.length = 256) (hi : i < 64) (hn : n < 100000) :
    Calls Try.prog 51 #[.slice (some ⟨g, 0, none⟩) 256 256, .int .i64 (i : Int), .int .i64 (n : Int)] w (SetPost (setE b i n) g t w) := by
  have c0 := box_u8 hx (k := i * 4) (by omega)
  have c1 := box_u8 hx (k := i * 4 + 1) (by omega)
  have c2 := box_u8 hx (k := i * 4 + 2) (by omega)
  have c3 := box_u8 hx (k := i * 4 + 3) (by omega)
  have f0 := hx.frozen (i * 4)
  have f1 := hx.frozen (i * 4 + 1)
  have f2 := hx.frozen (i * 4 + 2)
  have f3 := hx.frozen (i * 4 + 3)
  have x1 := hx.set_ (i * 4) (.int .u8 (((n / 256 ^ 0 % 256 : Nat)) : Int))
  rw [u8C_byte] at x1
  have x2 := x1.set_ (i * 4 + 1) (.int .u8 (((n / 256 ^ 1 % 256 : Nat)) : Int))
  rw [u8C_byte] at x2
  have x3 := x2.set_ (i * 4 + 2) (.int .u8 (((n / 256 ^ 2 % 256 : Nat)) : Int))
  rw [u8C_byte] at x3
  have x4 := x3.set_ (i * 4 + 3) (.int .u8 (((n / 256 ^ 3 % 256 : Nat)) : Int))
  rw [u8C_byte] at x4
  have fr := ((((Fr.refl (fun k => k = g) w).set_ (p := ⟨g, i * 4, none⟩) rfl (.int .u8 (((n / 256 ^ 0 % 256 : Nat)) : Int))).set_ (p := ⟨g, i * 4 + 1, none⟩) rfl (.int .u8 (((n / 256 ^ 1 % 256 : Nat)) : Int))).set_ (p := ⟨g, i * 4 + 2, none⟩) rfl (.int .u8 (((n / 256 ^ 2 % 256 : Nat)) : Int))).set_ (p := ⟨g, i * 4 + 3, none⟩) rfl (.int .u8 (((n / 256 ^ 3 % 256 : Nat)) : Int))
  have e0 : (((n / 256 ^ 0 % 256 : Nat)) : Int) = (n : Int) % 256 := by omega
  have e1 : (((n / 256 ^ 1 % 256 : Nat)) : Int) = (n : Int) / 256 % 256 := by omega
  have e2 : (((n / 256 ^ 2 % 256 : Nat)) : Int) = (n : Int) / 65536 := by omega
  have e3 : (((n / 256 ^ 3 % 256 : Nat)) : Int) = (n : Int) / 16777216 := by omega
  rw [e0, e1, e2, e3] at x4 fr
  clear e0 e1 e2 e3 x1 x2 x3 hx hb
  have X := Lib.hid x4
  have F := Lib.hid fr
  clear x4 fr
  go_enter Try.func51, Try.ntmps51
  go_wp2_with fail
  refine wp_loop_rounds 5 ?_
  rw [rounds_succ]
  go_wp2_with fail
  rw [rounds_succ]
  go_wp2_with fail
  rw [rounds_succ]
  go_wp2_with fail
  rw [rounds_succ]
  go_wp2_with fail
  rw [rounds_succ]
  go_wp2_with fail
  go_end0
  exact ⟨rfl, X.out, F.out⟩

/-- 256 bytes of the call's own. -/
def FullP (l : List UInt8) (w : World) (e : Ending) (w' : World) : Prop :=
  ∃ g, e = .returned (.slice (some ⟨g, 0, none⟩) 256 256) ∧ w.heap.size ≤ g ∧ Box w' g 5 (u8C l).toArray ∧ Below w.heap.size w w'
set_option maxRecDepth 100000 in
set_option maxHeartbeats 1000000 in
theorem head_all (n : Nat) (w : World) (hn : n < 100000) : Calls Try.prog 47 #[.int .i64 (n : Int)] w (FullP (headB n) w) := by
  have hmk := run_make256
  have hB := Box.new w 5 (u8C (full 0)).toArray
  go_enter Try.func47, Try.ntmps47
  go_wp2_with fail
  have HS := Lib.hid (setEntry_all 0 n (full 0) _ _ _ hB (full_len 0) (by omega) hn)
  clear hB
  have hbe := (Below.refl w.heap.size w).alloc (Nat.le_refl _) (.cells (u8C (full 0)).toArray 5)
  refine HS.out.mono ?_
  rintro e w1 ⟨rfl, h1, f1⟩
  have hb1 := hbe.trans (f1.below hbe.size (fun b hb => by omega))
  clear f1 hbe HS hmk
  go_wp2
  go_ret
  exact ⟨_, rfl, Nat.le_refl _, h1, hb1⟩

/-! ### groups in memory -/
def LieX (X : Nat → Prop) (w : World) (A : Option Addr) (l : List UInt8) : Prop :=
  0 < l.length → ∃ ad, A = some ad ∧ ad.block < w.heap.size ∧ ¬ X ad.block ∧ ∀ j (hj : j < l.length), w.cell? (ad.add j) = some (.int .u8 (l[j].toNat : Int))
theorem LieX.lie {X : Nat → Prop} {w : World} {A : Option Addr} {l : List UInt8} (h : LieX X w A l) : Lie w A l := fun hl => by
  obtain ⟨ad, e, h1, _, h2⟩ := h hl
  exact ⟨ad, e, h1, h2⟩
theorem LieX.off {X : Nat → Prop} {w : World} {A : Option Addr} {l : List UInt8} (h : LieX X w A l) (hl : 0 < l.length) : ∀ ad, A = some ad → ¬ X ad.block := fun ad e => by
  obtain ⟨ad', e', _, h2, _⟩ := h hl
  rw [e] at e'
  injection e' with e'
  rw [e']
  exact h2
def GrpAt (X : Nat → Prop) (w : World) (ad : Addr) (i : Nat) (x : GI) : Prop :=
  ∃ A c, w.cell? (ad.add (i * 2)) = some (.int .i64 x.1) ∧ w.cell? (ad.add (i * 2 + 1)) = some (.slice A x.2.length c) ∧ x.2.length ≤ c ∧ c ≤ maxLen ∧ LieX X w A x.2 ∧ i64 x.1
/-- A slice's address at which this group lies, and nothing of it in blocks of a set. -/
def Grp (X : Nat → Prop) (w : World) (A : Option Addr) (l : List GI) : Prop :=
  0 < l.length → ∃ ad, A = some ad ∧ ad.block < w.heap.size ∧ ¬ X ad.block ∧ ∀ i (hi : i < l.length), GrpAt X w ad i l[i]
section
variable {X Y : Nat → Prop} {w w' : World} {A : Option Addr} {l : List GI}
theorem LieX.fr {b : List UInt8} (h : LieX X w A b) (k : Fr X w w') : LieX X w' A b := fun hl => by
  obtain ⟨ad, e, h1, h2, h3⟩ := h hl
  exact ⟨ad, e, Nat.lt_of_lt_of_le h1 k.size, h2, fun j hj => (World.cell?_of_block (w := w) (a := ad.add j) (by rw [blk_add]; exact k.block _ h1 h2)).trans (h3 j hj)⟩
theorem LieX.mono {b : List UInt8} (h : LieX X w A b) (k : ∀ b, b < w.heap.size → Y b → X b) : LieX Y w A b := fun hl => by
  obtain ⟨ad, e, h1, h2, h3⟩ := h hl
  exact ⟨ad, e, h1, fun y => h2 (k _ h1 y), h3⟩
theorem Grp.fr (h : Grp X w A l) (k : Fr X w w') : Grp X w' A l := fun hl => by
  obtain ⟨ad, e, h1, h2, h3⟩ := h hl
  have hc : ∀ j, w'.cell? (ad.add j) = w.cell? (ad.add j) := fun j => World.cell?_of_block (w := w) (a := ad.add j) (by rw [blk_add]; exact k.block _ h1 h2)
  refine ⟨ad, e, Nat.lt_of_lt_of_le h1 k.size, h2, fun i hi => ?_⟩
  obtain ⟨B, c, g1, g2, g3, g4, g5, g6⟩ := h3 i hi
  exact ⟨B, c, by rw [hc]; exact g1, by rw [hc]; exact g2, g3, g4, g5.fr k, g6⟩
theorem Grp.mono (h : Grp X w A l) (k : ∀ b, b < w.heap.size → Y b → X b) : Grp Y w A l := fun hl => by
  obtain ⟨ad, e, h1, h2, h3⟩ := h hl
  refine ⟨ad, e, h1, fun y => h2 (k _ h1 y), fun i hi => ?_⟩
  obtain ⟨B, c, g1, g2, g3, g4, g5, g6⟩ := h3 i hi
  exact ⟨B, c, g1, g2, g3, g4, g5.mono k, g6⟩
theorem Grp.below (h : Grp X w A l) (k : Below w.heap.size w w') : Grp X w' A l := h.fr (Fr.of_below k)
theorem Grp.drew_ (h : Grp X w A l) : Grp X w.drew A l := h.fr (Fr.refl X w).drew
theorem Grp.nil_ : Grp X w A [] := fun h => absurd h (by simp)
/-- Element i: its two cells as the walk spells them. -/
theorem Grp.at_ (h : Grp X w A l) {i : Nat} (hi : i < l.length) : ∃ ad B c, A = some ad ∧ ad.block < w.heap.size ∧ w.cell? (ad.add (i * 2)) = some (.int .i64 l[i].1) ∧ w.cell? ⟨(ad.add (i * 2)).block, (ad.add (i * 2)).off + 1, none⟩ = some (.slice B l[i].2.length c) ∧
    l[i].2.length ≤ c ∧ c ≤ maxLen ∧ LieX X w B l[i].2 ∧ i64 l[i].1 := by
  obtain ⟨ad, e, h1, h2, h3⟩ := h (by omega)
  obtain ⟨B, c, g1, g2, g3, g4, g5, g6⟩ := h3 i hi
  have e2 : (⟨(ad.add (i * 2)).block, (ad.add (i * 2)).off + 1, none⟩ : Addr) = ad.add (i * 2 + 1) := by rw [← add_add_, Addr.add_succ']
  exact ⟨ad, B, c, e, h1, g1, by rw [e2]; exact g2, g3, g4, g5, g6⟩
/-- A part of a group. -/
theorem Grp.sub (h : Grp X w A l) (k m : Nat) {B : Option Addr} (hB : k < l.length → B = A.map (·.add (k * 2))) : Grp X w B ((l.drop k).take m) := fun hl => by
  have hk : k < l.length := by rw [List.length_take, List.length_drop] at hl; omega
  obtain ⟨ad, rfl, h1, h2, h3⟩ := h (by omega)
  rw [hB hk]
  refine ⟨ad.add (k * 2), rfl, by rw [blk_add]; exact h1, by rw [blk_add]; exact h2, fun i hi => ?_⟩
  have hi' : k + i < l.length := by rw [List.length_take, List.length_drop] at hi; omega
  have e : ((l.drop k).take m)[i] = l[k + i] := by rw [List.getElem_take, List.getElem_drop]
  obtain ⟨B, c, g1, g2, g3⟩ := h3 (k + i) hi'
  unfold GrpAt
  rw [e, add_add_, add_add_]
  have e1 : k * 2 + i * 2 = (k + i) * 2 := by omega
  have e2 : k * 2 + (i * 2 + 1) = (k + i) * 2 + 1 := by omega
  rw [e1, e2]
  exact ⟨B, c, g1, g2, g3⟩
end

def IdxRel (p : List GI) (gB : Nat) (w : World) (i : Value) (wr : World) : Prop :=
  ∃ k : Nat, i = .int .i64 (k : Int) ∧ k ≤ p.length ∧ Box wr gB 5 (u8C (idxTo p k)).toArray ∧ Below gB w wr
set_option maxRecDepth 100000 in
set_option maxHeartbeats 1000000 in
theorem index_all (X : Nat → Prop) (A : Option Addr) (p : List GI) (c : Nat) (w : World) (h : Grp X w A p) (hp : p.length ≤ 64) (_hc : p.length ≤ c) (_hm : c ≤ maxLen) (hv : ∀ x ∈ p, 0 ≤ x.1 ∧ x.1 < 100000) :
    Calls Try.prog 46 #[.slice A p.length c] w (FullP (idxB p) w) := by
  have hmk := run_make256
  have hB := Box.new w 5 (u8C (full 0)).toArray
  have hbe := (Below.refl w.heap.size w).alloc (Nat.le_refl _) (.cells (u8C (full 0)).toArray 5)
  go_enter Try.func46, Try.ntmps46
  go_wp2
  clear hmk
  go_loopw [9] (IdxRel p w.heap.size w) (fun i _ => p.length - (intOf i).toNat)
  case atStart => exact ⟨0, rfl, by omega, hB, hbe⟩
  case round =>
    obtain ⟨k, rfl, hk, hb, hw⟩ := hrel
    clear hB hbe
    by_cases hlt : k < p.length
    · obtain ⟨ad, B, c', rfl, hlt2, g1, g2, g3, g4, g5, g6⟩ := (h.below (hw.mono (Nat.le_refl _))).at_ hlt
      have hx := hv _ (List.getElem_mem hlt)
      have e1 : p[k].1 = ((p[k].1.toNat : Nat) : Int) := by omega
      have hgi : gi p k = p[k] := gi_eq hlt
      rw [e1] at g1
      have b1 : p[k].1.toNat < 100000 := by omega
      clear hx g5 g6 h e1
      have hs := hw.size
      generalize hN : p[k].1.toNat = N at *
      have hidx : idxTo p (k + 1) = setE (idxTo p k) k N := by rw [idxTo, hgi, hN]
      have HI := Lib.hid hidx
      clear hidx hN hgi
      have hlen := Lib.hid (idxTo_len p k)
      generalize hl2 : p[k].2.length = m at *
      clear hl2
      go_wp2_with fail
      have hb2 := hb.alloc (.cells #[.int .i64 (N : Int), .slice B m c'] 63)
      refine (setEntry_all k N (idxTo p k) w.heap.size _ _ hb2 hlen.out (by omega) b1).mono ?_
      rintro e w2 ⟨rfl, h2, f2⟩
      rw [← HI.out] at h2
      have hw2 := (hw.alloc hw.size (.cells #[.int .i64 (N : Int), .slice B m c'] 63)).trans (f2.below (by simp; omega) (fun b hb => by omega))
      clear hb hw hb2 f2
      go_wp2
      go_roundw
      case rel => exact ⟨k + 1, by go_num, by omega, h2, hw2⟩
      case measure => simp [intOf]; omega
    · obtain rfl : k = p.length := by omega
      go_wp2
      go_ret
      exact ⟨_, rfl, Nat.le_refl _, hb, hw⟩

set_option maxRecDepth 100000 in
set_option maxHeartbeats 400000 in
theorem equal_all (A B : Option Addr) (a b : List UInt8) (c c' : Nat) (w : World) (h1 : Lie w A a) (h2 : Lie w B b) :
    Calls Try.prog 49 #[.slice A a.length c, .slice B b.length c'] w (Same (.bool (decide (a = b))) w) := by
  have v1 := conv_lie c h1
  have v2 := conv_lie c' h2
  clear h1 h2
  go_enter Try.func49, Try.ntmps49
  go_wp2
  go_ret
  refine ⟨ret_bool ?_, rfl⟩
  by_cases e : a = b
  · subst e
    simp
  · simp [e]
end Go.Proofs.Ytkklplccngdalaa.Dk
