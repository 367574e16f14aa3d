/-
  Contracts of recorded and restore: what a log that is opened finds.
-/
import Derived.Test.YtkklplccngdalaaWlW5
namespace Go.Proofs.Ytkklplccngdalaa.Dk
open Go.RowKit

section
variable {w : World} {q g s : Nat} {d : Dsk} {l : List GI} {M : List (List UInt8)}

theorem info_wr : (Try.prog.info? 63).map (fun i => (i.zero, i.size, i.bytes)) = some (some (.agg #[.int .i64 0, .slice none 0 0]), 2, 32) := by kernel_rfl
/-- A new group's cells. -/
def grpCells (n : Nat) : Array Value := madeCells (Value.agg #[.int .i64 0, .slice none 0 0]).cells (n * 2)
theorem grpCells_size (n : Nat) : (grpCells n).size = n * 2 := size_madeCells _ _
theorem run_make_grp (n : Nat) (hn : n ≤ 2048) (w : World) : (Instr.makeSlice 34 (.int .i64 (n : Int)) (.int .i64 (n : Int))).run Try.prog w = .ok (.slice (some ⟨w.heap.size, 0, none⟩) n n) (w.alloc (.cells (grpCells n) 63)) := by
  obtain ⟨i0, hi0, hz0, hz1, hz2⟩ := info_parts info_wr
  have h := run_make (P := Try.prog) w 34 63 i0 _ Try.underlying34 hi0 hz0 .i64 .i64 n n (by omega) (by omega) (by rw [hz2]; omega) (by omega)
  rw [h, hz1, Int.toNat_natCast]
  rfl

/-- The first k elements are there. -/
def Part (l : List GI) (gR B : Nat) (k : Nat) (wr : World) : Prop :=
  ∃ cs : Array Value, Box wr gR 63 cs ∧ cs.size = l.length * 2 ∧ ∀ i (hi : i < l.length), i < k → ∃ gi, cs[i * 2]? = some (.int .i64 l[i].1) ∧ cs[i * 2 + 1]? = some (.slice (some ⟨gi, 0, none⟩) 256 256) ∧ B ≤ gi ∧ gi ≠ gR ∧ Box wr gi 72 (u8C l[i].2).toArray
theorem Part.lt {gR B k : Nat} {wr : World} (h : Part l gR B k wr) : gR < wr.heap.size := by
  obtain ⟨cs, hb, _⟩ := h
  exact hb.lt
theorem Part.below {gR B k : Nat} {wr w2 : World} (h : Part l gR B k wr) (hb : Below wr.heap.size wr w2) : Part l gR B k w2 := by
  obtain ⟨cs, h1, h2, h3⟩ := h
  refine ⟨cs, h1.below hb h1.lt, h2, fun i hi hk => ?_⟩
  obtain ⟨gi, a1, a2, a3, a4, a5⟩ := h3 i hi hk
  exact ⟨gi, a1, a2, a3, a4, a5.below hb a5.lt⟩
theorem Part.put {gR B k g3 : Nat} {wr : World} (h : Part l gR B k wr) (hk : k < l.length) (hg : B ≤ g3) (hne : g3 ≠ gR) (hx : Box wr g3 72 (u8C l[k].2).toArray) :
    Part l gR B (k + 1) ((wr.setCell ⟨gR, k * 2, none⟩ (.int .i64 l[k].1)).setCell ⟨gR, k * 2 + 1, none⟩ (.slice (some ⟨g3, 0, none⟩) 256 256)) := by
  obtain ⟨cs, h1, h2, h3⟩ := h
  refine ⟨_, (h1.set_ (k * 2) _).set_ (k * 2 + 1) _, by simpa using h2, fun i hi hik => ?_⟩
  by_cases e : i = k
  · subst e
    refine ⟨g3, ?_, ?_, hg, hne, (hx.far hne _).far hne _⟩
    · rw [Array.getElem?_setIfInBounds_ne (by omega), Array.getElem?_setIfInBounds_self_of_lt (by omega)]
    · rw [Array.getElem?_setIfInBounds_self_of_lt (by simp; omega)]
  · obtain ⟨gi, a1, a2, a3, a4, a5⟩ := h3 i hi (by omega)
    refine ⟨gi, ?_, ?_, a3, a4, (a5.far a4 _).far a4 _⟩
    · rw [Array.getElem?_setIfInBounds_ne (by omega), Array.getElem?_setIfInBounds_ne (by omega)]
      exact a1
    · rw [Array.getElem?_setIfInBounds_ne (by omega), Array.getElem?_setIfInBounds_ne (by omega)]
      exact a2
theorem Part.grp {gR B : Nat} {wr : World} {X : Nat → Prop} (h : Part l gR B l.length wr) (hX : ∀ b, X b → b < B) (hB : B ≤ gR) (h64 : ∀ x ∈ l, i64 x.1) (h256 : ∀ x ∈ l, x.2.length = 256) : Grp X wr (some ⟨gR, 0, none⟩) l := fun _ => by
  obtain ⟨cs, hb, hs, hc⟩ := h
  refine ⟨_, rfl, hb.lt, fun x => ?_, fun i hi => ?_⟩
  · have : gR < B := hX gR x
    omega
  · obtain ⟨gi, c0, c1, h1, h2, h3⟩ := hc i hi hi
    have hl := h256 _ (List.getElem_mem hi)
    refine ⟨some ⟨gi, 0, none⟩, 256, ?_, ?_, by omega, by unfold maxLen; omega, fun hp => ?_, h64 _ (List.getElem_mem hi)⟩
    · rw [lit_add, hb.cell]
      exact c0
    · rw [lit_add, hb.cell, hl]
      exact c1
    · refine ⟨_, rfl, h3.lt, fun x => ?_, fun j hj => ?_⟩
      · have : gi < B := hX gi x
        omega
      · rw [lit_add, h3.cell j]
        simp [u8C, List.getElem?_eq_getElem hj]

def RecRel (l : List GI) (gR : Nat) (w : World) (i : Value) (wr : World) : Prop :=
  ∃ k : Nat, i = .int .i64 (k : Int) ∧ k ≤ l.length ∧ Part l gR w.heap.size k wr ∧ Below w.heap.size w wr
def RecPost (l : List GI) (X : Nat → Prop) (w : World) (e : Ending) (w' : World) : Prop :=
  ∃ gR, e = .returned (.tuple #[.slice (some ⟨gR, 0, none⟩) l.length l.length, .int .i64 0]) ∧ Grp X w' (some ⟨gR, 0, none⟩) l ∧ Below w.heap.size w w'

set_option maxRecDepth 100000 in
set_option maxHeartbeats 4000000 in
theorem recorded_all (h : Lg w q g s d false) (ho : d.on = true) (hn : 4 ≤ d.L.length) (hP : Pend d.L.length d.L M l) :
    Calls Try.prog 50 #[.pointer (some ⟨q, 0, none⟩), .int .i64 (l.length : Int)] w (RecPost l (Tri q g s) w) := by
  obtain ⟨_, _, hok, _, hsec, _⟩ := hP
  have hlen := okG_len hok
  have hroom := room_lt (n := d.L.length)
  have h2048 := h.2.2.2.2
  have hmk := run_make_grp l.length (by omega)
  have hbe := (Below.refl w.heap.size w).alloc (Nat.le_refl _) (.cells (grpCells l.length) 63)
  have hB := Box.new w 63 (grpCells l.length)
  have hlt0 := h.lt
  have h64 : ∀ x ∈ l, i64 x.1 := fun x hx => by
    have := hok.1 x hx
    unfold okI at this
    unfold i64
    omega
  have h256 : ∀ x ∈ l, x.2.length = 256 := fun x hx => (hok.1 x hx).2.2
  go_enter Try.func50, Try.ntmps50
  go_wp2
  clear hmk
  go_loopw [15] (RecRel l w.heap.size w) (fun i _ => l.length - (intOf i).toNat)
  case atStart => exact ⟨0, rfl, by omega, ⟨_, hB, grpCells_size _, fun i _ hi => by omega⟩, hbe⟩
  case round =>
    obtain ⟨k, rfl, hk, hpart, hbl⟩ := hrel
    clear hB hbe
    by_cases hlt : k < l.length
    · obtain ⟨hs1, b, hs2, hs3⟩ := hsec k hlt
      have hx := hok.1 _ (List.getElem_mem hlt)
      have hL := h.below hbl
      have hbl256 : b.length = 256 := by
        obtain ⟨hk2, hk3⟩ := List.getElem?_eq_some_iff.1 hs2
        exact hL.2.1.2.2.2.1 b (hk3 ▸ List.getElem_mem hk2)
      have hN : l[k].1 = ((ent b (k % 64) : Nat) : Int) := by unfold okI at hx; omega
      obtain ⟨c0, _, _⟩ := hL.cells
      have HI : Hid (∀ wq, Calls Try.prog 45 #[.int .i64 (k : Int)] wq (Same (.int .i64 ((1 + k / 64 : Nat) : Int)) wq)) := fun wq => indexOf_all k wq (by omega)
      have HR1 : Hid (∀ wq, Lg wq q g s d false → Calls Try.prog 36 #[.pointer (some ⟨g, 0, none⟩), .int .i64 ((1 + k / 64 : Nat) : Int)] wq (ReadPost b wq)) := fun wq hq => by
        obtain ⟨hk2, hk3⟩ := List.getElem?_eq_some_iff.1 hs2
        have := read_ok (1 + k / 64) hq.2.1 ho hk2
        rw [hk3] at this
        exact this
      have HS : Hid (∀ wq, Lg wq q g s d false → Calls Try.prog 44 #[.pointer (some ⟨q, 0, none⟩), .int .i64 (k : Int)] wq (Same (.int .i64 ((spareAt d.L.length k : Nat) : Int)) wq)) := fun wq hq => spare_all k hq hn (by omega)
      have HR2 : Hid (∀ wq, Lg wq q g s d false → Calls Try.prog 36 #[.pointer (some ⟨g, 0, none⟩), .int .i64 ((spareAt d.L.length k : Nat) : Int)] wq (ReadPost l[k].2 wq)) := fun wq hq => by
        obtain ⟨hk2, hk3⟩ := List.getElem?_eq_some_iff.1 hs1
        have := read_ok (spareAt d.L.length k) hq.2.1 ho hk2
        rw [hk3] at this
        exact this
      have hm64 : k % 64 < 64 := by omega
      have HE : Hid (∀ wq gb t, Box wq gb t (u8C b).toArray → Calls Try.prog 48 #[.slice (some ⟨gb, 0, none⟩) 256 256, .int .i64 ((k : Int) % 64)] wq (Same (.int .i64 l[k].1) wq)) := fun wq gb t hb => by
        rw [hN, show (k : Int) % 64 = ((k % 64 : Nat) : Int) by omega]
        exact entry_all (k % 64) b gb t wq hb hbl256 hm64
      have hk9 : k + 1 ≤ 100000 := by omega
      have HL := Lib.hid hL
      have HB := Lib.hid hbl
      have HPT := Lib.hid hpart
      clear hL hbl hpart hN hs1 hs2 hs3 hx h
      generalize spareAt d.L.length k = Y at *
      generalize hZ : 1 + k / 64 = Z at *
      clear hZ
      go_wp2_with fail
      have c0d : wr.drew.cell? ⟨q, 0, none⟩ = some (.pointer (some ⟨g, 0, none⟩)) := c0
      go_region_held (fun w' => w'.cell? ⟨q, 0, none⟩ = some (.pointer (some ⟨g, 0, none⟩))) (first | with_reducible exact c0d | with_reducible exact c02 | assumption) (first | (go_at_call 45; (with_reducible refine (HI.out _).mono ?_); rintro e w' ⟨rfl, rfl⟩) | (go_at_call 36; (with_reducible refine (HR1.out _ HL.out.drew_).mono ?_); rintro e w2 ⟨g2, rfl, hg2, hx2, hb2⟩; have hL2 := HL.out.drew_.below hb2; have c02 := hL2.cells.1))
      have hB2 := HB.out.drew.trans (hb2.mono (by exact HB.out.size))
      have HB2 := Lib.hid hB2
      have HX2 := Lib.hid hx2
      have HP2 := Lib.hid (Part.below (wr := wr.drew) HPT.out hb2)
      have HL2 := Lib.hid hL2
      clear HL HB HPT c0 c0d hb2 hx2 hB2 hL2 HI HR1 hg2
      go_wp2_with fail
      have c03 : w2.drew.cell? ⟨q, 0, none⟩ = some (.pointer (some ⟨g, 0, none⟩)) := c02
      go_region_held (fun w' => w'.cell? ⟨q, 0, none⟩ = some (.pointer (some ⟨g, 0, none⟩))) (first | with_reducible exact c03 | with_reducible exact c04 | assumption) (first | (go_at_call 44; (with_reducible refine (HS.out _ HL2.out.drew_).mono ?_); rintro e w' ⟨rfl, rfl⟩) | (go_at_call 36; (with_reducible refine (HR2.out _ HL2.out.drew_).mono ?_); rintro e w3 ⟨g3, rfl, hg3, hx3, hb3⟩; have hL3 := HL2.out.drew_.below hb3; have c04 := hL3.cells.1))
      have hB3 := HB2.out.drew.trans (hb3.mono (by exact HB2.out.size))
      have HB3 := Lib.hid hB3
      have HX3 := Lib.hid hx3
      have HX4 := Lib.hid (HX2.out.drew.below hb3 (by exact HX2.out.lt))
      have HP3 := Lib.hid (Part.below (wr := w2.drew) HP2.out hb3)
      have hg4 : w.heap.size ≤ g3 := Nat.le_trans HB2.out.size hg3
      have hg5 : g3 ≠ w.heap.size := by
        have h1 := HP2.out.lt
        have h2 : w2.heap.size ≤ g3 := hg3
        omega
      clear HL2 HB2 HP2 HX2 c02 c03 c04 hb3 hx3 hB3 hL3 HS HR2 hg3
      have HPN := Lib.hid (HP3.out.put hlt hg4 hg5 HX3.out)
      obtain ⟨cs, hcs, hsz, hold⟩ := HP3.out
      have d0 : ∃ v, w3.cell? ⟨w.heap.size, k * 2, none⟩ = some v := ⟨_, by rw [hcs.cell, Array.getElem?_eq_getElem (by omega)]⟩
      have d1 : ∃ v, w3.cell? ⟨w.heap.size, k * 2 + 1, none⟩ = some v := ⟨_, by rw [hcs.cell, Array.getElem?_eq_getElem (by omega)]⟩
      obtain ⟨v0, d0⟩ := d0
      obtain ⟨v1, d1⟩ := d1
      have e0 := hcs.frozen (k * 2)
      have e1 := hcs.frozen (k * 2 + 1)
      have HBN := Lib.hid ((HB3.out.setCell (p := ⟨w.heap.size, k * 2, none⟩) (Nat.le_refl _) (.int .i64 l[k].1)).setCell (p := ⟨w.heap.size, k * 2 + 1, none⟩) (Nat.le_refl _) (.slice (some ⟨g3, 0, none⟩) 256 256))
      clear hcs hold HP3 HB3 HX3
      go_wp2_with fail
      with_reducible refine (HE.out _ g2 _ HX4.out).mono ?_
      rintro e w' ⟨rfl, rfl⟩
      clear HX4 HE
      go_wp2
      go_roundw
      case rel => exact ⟨k + 1, by go_num, by omega, HPN.out, HBN.out⟩
      case measure => simp [intOf]; omega
    · obtain rfl : k = l.length := by omega
      have hgrp := hpart.grp (X := Tri q g s) (fun b hb => by rcases hb with rfl | rfl | rfl <;> omega) (Nat.le_refl _) h64 h256
      clear hpart h hsec
      go_wp2
      go_ret2
      exact ⟨_, rfl, hgrp, hbl⟩
end
end Go.Proofs.Ytkklplccngdalaa.Dk
