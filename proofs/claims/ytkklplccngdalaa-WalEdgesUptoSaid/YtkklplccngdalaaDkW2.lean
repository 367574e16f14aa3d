/-
  Contracts of Full and of disk.New, Read, Write, Clone.
-/
import Derived.Test.YtkklplccngdalaaDkW1
import Derived.Laws.CopyOwn
import Derived.Laws.MakeOwn
import Derived.Deep.RegionHeld
namespace Go.Proofs.Ytkklplccngdalaa.Dk
open Go.RowKit

theorem u8C_rep (n : Nat) (x : UInt8) : u8C (List.replicate n x) = List.replicate n (.int .u8 (x.toNat : Int)) := by simp [u8C]
theorem made_one (n : Nat) : madeCells #[.int .u8 0] n = (u8C (List.replicate n 0)).toArray := by
  rw [u8C_rep]
  apply Array.toList_inj.1
  rw [toList_madeCells_one]
  rfl

theorem run_make256 (w : World) : (Instr.makeSlice 43 (.int .i64 256) (.int .i64 256)).run Try.prog w = .ok (.slice (some ⟨w.heap.size, 0, none⟩) 256 256) (w.alloc (.cells (u8C (full 0)).toArray 5)) := by
  obtain ⟨i0, hi0, hz0, hz1, hz2⟩ := info_parts info_u8
  have h := run_make (P := Try.prog) w 43 5 i0 _ Try.underlying43 hi0 hz0 .i64 .i64 256 256 (by omega) (by omega) (by rw [hz2]; omega) (by omega)
  rw [h, hz1]
  have e : madeCells (Value.int .u8 0).cells ((256 : Int).toNat * 1) = (u8C (full 0)).toArray := made_one 256
  rw [e]
  rfl

/-- What Full has written so far. -/
def part (x : UInt8) (k : Nat) : List UInt8 := List.replicate k x ++ List.replicate (256 - k) 0
theorem part_len (x : UInt8) {k : Nat} (h : k ≤ 256) : (part x k).length = 256 := by simp [part]; omega
theorem part_set (x : UInt8) {k : Nat} (h : k < 256) : (part x k).set k x = part x (k + 1) := by
  unfold part
  rw [List.set_append_right _ _ (by simp), List.length_replicate, Nat.sub_self]
  obtain ⟨m, hm⟩ : ∃ m, 256 - k = m + 1 := ⟨255 - k, by omega⟩
  rw [hm, List.replicate_succ, List.set_cons_zero, show 256 - (k + 1) = m by omega, List.replicate_succ', List.append_assoc]
  rfl
theorem u8C_set (l : List UInt8) (k : Nat) (x : UInt8) : (u8C l).toArray.setIfInBounds k (.int .u8 (x.toNat : Int)) = (u8C (l.set k x)).toArray := by
  simp [u8C, List.map_set]

def FullRel (x : UInt8) (g : Nat) (w : World) (i : Value) (wr : World) : Prop :=
  ∃ k : Nat, i = .int .i64 (k : Int) ∧ k ≤ 256 ∧ Box wr g 5 (u8C (part x k)).toArray ∧ Below g w wr
def FullPost (x : UInt8) (w : World) (e : Ending) (w' : World) : Prop :=
  ∃ g, e = .returned (.slice (some ⟨g, 0, none⟩) 256 256) ∧ w.heap.size ≤ g ∧ Box w' g 5 (u8C (full x)).toArray ∧ Below w.heap.size w w'

set_option maxRecDepth 100000 in
set_option maxHeartbeats 1000000 in
theorem full_all (x : UInt8) (w : World) : Calls Try.prog 29 #[.int .u8 (x.toNat : Int)] w (FullPost x w) := by
  have hmk := run_make256
  have hB := Box.new w 5 (u8C (part x 0)).toArray
  go_enter Try.func29, Try.ntmps29
  go_wp2
  clear hmk
  go_loopw [4] (FullRel x w.heap.size w) (fun i _ => 256 - (intOf i).toNat)
  case atStart => exact ⟨0, rfl, by omega, hB, (Below.refl _ _).alloc (Nat.le_refl _) _⟩
  case round =>
    obtain ⟨k, rfl, hk, hb, hw⟩ := hrel
    clear hB
    by_cases hlt : k < 256
    · have hc : wr.cell? ⟨w.heap.size, k, none⟩ = some (.int .u8 ((part x k)[k]'(by rw [part_len x hk]; exact hlt)).toNat) := by
        rw [hb.cell k]
        simp [u8C, List.getElem?_eq_getElem (show k < (part x k).length by rw [part_len x hk]; exact hlt)]
      have hf := hb.frozen k
      have h1 := hb.set_ k (.int .u8 (x.toNat : Int))
      rw [u8C_set, part_set x hlt] at h1
      have h2 := hw.setCell (p := ⟨w.heap.size, k, none⟩) (Nat.le_refl _) (.int .u8 (x.toNat : Int))
      clear hb hw
      go_wp2
      go_roundw
      case rel => exact ⟨k + 1, by go_num, by omega, h1, h2⟩
      case measure => simp [intOf]; omega
    · obtain rfl : k = 256 := by omega
      go_wp2
      go_ret
      have e : part x 256 = full x := by simp only [part, Nat.sub_self, List.replicate_zero, List.append_nil]; rfl
      rw [e] at hb
      exact ⟨_, rfl, Nat.le_refl _, hb, hw⟩

theorem full_lie {w : World} {g : Nat} {t : TypeId} {l : List UInt8} (h : Box w g t (u8C l).toArray) : Lie w (some ⟨g, 0, none⟩) l := fun _ =>
  ⟨_, rfl, h.lt, fun j hj => by rw [lit_add, h.cell j]; simp [u8C, List.getElem?_eq_getElem hj]⟩

theorem info_sec : (Try.prog.info? 72).map (fun i => (i.zero, i.size, i.bytes)) = some (some (.agg (Array.replicate 256 (.int .u8 0))), 256, 256) := by kernel_rfl

theorem run_zero_sec (w : World) : (zeroValue 72).run Try.prog w = .ok (.agg (u8C (full 0)).toArray) w := by
  obtain ⟨i0, hi0, hz0, _⟩ := info_parts info_sec
  have e : (u8C (full 0)).toArray = Array.replicate 256 (.int .u8 0) := by
    unfold full
    rw [u8C_rep]
    exact List.toArray_replicate _ _
  rw [e]
  simp [zeroValue, typeInfo, hi0, hz0]
theorem sec_size : (Try.prog.info? 72).map (·.size) = some 256 := by kernel_rfl
theorem sec_all (w : World) (g : Nat) : (Instr.sliceAt 72 (.pointer (some ⟨g, 0, none⟩)) none none none).run Try.prog w = .ok (.slice (some ⟨g, 0, none⟩) 256 256) w := by
  have e : Try.prog.arrayLen 72 = 256 := by kernel_rfl
  have h := run_sliceAt_array_all (P := Try.prog) w 72 ⟨g, 0, none⟩ (by kernel_rfl)
  obtain ⟨i0, hi0, hz0, hz1, hz2⟩ := info_parts info_u8
  have e2 : Try.prog.elem 72 = 5 := by kernel_rfl
  have e3 : ((sizeOf 5).run Try.prog w) = .ok 1 w := by simp [sizeOf, typeInfo, hi0, hz1]
  rw [e, e2, e3] at h
  exact h

/-- The bytes copied into a new variable. -/
theorem run_copy256 {w : World} {A : Option Addr} {b : List UInt8} (c : Nat) (hb : b.length = 256) (hL : Lie w A b) :
    ∃ w2, (Builtin.copy_ #[43, 43] 3 #[.slice (some ⟨w.heap.size, 0, none⟩) 256 256, .slice A 256 c]).run Try.prog (w.alloc (.cells (u8C (full 0)).toArray 72)) = .ok (.int .i64 256) w2 ∧ w2.rangeAt w.heap.size 0 (u8C b) ∧ Below w.heap.size w w2 := by
  have hx := Box.new w 72 (u8C (full 0)).toArray
  have hl : (u8C b).length = 256 := by rw [u8C_length, hb]
  have ht : (w.alloc (.cells (u8C (full 0)).toArray 72)).there w.heap.size 0 256 := fun j hj => by
    refine ⟨?_, hx.frozen _⟩
    rw [hx.cell, List.getElem?_toArray, List.getElem?_eq_getElem (by rw [u8C_length, full_len]; omega)]
    rfl
  obtain ⟨ad, rfl, _, hc⟩ := (hL.alloc (.cells (u8C (full 0)).toArray 72)) (by omega)
  have h := run_copy_cells (P := Try.prog) _ 43 43 3 5 w.heap.size 0 256 256 ad 256 c (u8C b) Try.underlying43 (by kernel_rfl) (by rw [hl]; rfl)
    (fun j v hv => by
      obtain ⟨hj, rfl⟩ := u8C_get hv
      exact hc j hj) (fun j hj => (ht j (by omega)).1) (fun j hj => (ht j (by omega)).2) (u8C_one b)
  rw [hl] at h
  refine ⟨_, h, World.rangeAt_setCells_same _ _ _ _ (by rw [hl]; exact ht), ?_⟩
  exact (((Fr.refl (fun k => k = w.heap.size) w).alloc _).sets rfl _ _).below (Nat.le_refl _) (fun k hk => by omega)

set_option maxRecDepth 100000 in
set_option maxHeartbeats 1000000 in
theorem write_ok (k : Nat) (A : Option Addr) (b : List UInt8) (c : Nat) (w : World) (g s : Nat) (d : Dsk) (h : Dk w g s d) (ho : d.on = true) (hk : k < d.L.length) (hb : b.length = 256) (hl : d.left ≠ 0) (hi : i64 d.left) (hwr : 0 ≤ d.wr ∧ d.wr ≤ 1000000000) (hL : Lie w A b) (hA : ∀ ad, A = some ad → ¬ Two g s ad.block) :
    Calls Try.prog 28 #[.pointer (some ⟨g, 0, none⟩), .int .i64 (k : Int), .slice A b.length c] w (DPost (.int .i64 0) g s (d.put k b) w) := by
  have hbad : ¬ d.Bad (k : Int) := by unfold Dsk.Bad; omega
  have hz := run_zero_sec
  have hs := sec_all
  go_enter Try.func28, Try.ntmps28
  go_wp2_with fail
  refine (access_ok (k : Int) h ho hbad).mono ?_
  rintro e w' ⟨rfl, rfl⟩
  rw [hb]
  go_wp2_with fail
  refine (fails_no h hl hi).mono ?_
  rintro e w1 ⟨rfl, h1, f1⟩
  obtain ⟨w2, hcp, hr2, hb2⟩ := run_copy256 c hb (hL.fr f1 hA)
  have h2 := h1.below hb2
  have f2 := f1.trans (Fr.of_below hb2)
  have hsG : s ≠ w1.heap.size := by have := h1.lt; omega
  have hgs : g ≠ s := h1.2.1
  clear hb2 h1 f1 h hL hA
  obtain ⟨cap, hc1, hc2, c0, _⟩ := h2.cells
  obtain ⟨h3, f4⟩ := h2.drew_.secs_ hk hb
  have f5 := f2.drew.trans f4
  clear f2 f4
  go_wp2_with fail
  clear hcp
  have hk0 : (0 : Int) ≤ (k : Int) := Int.natCast_nonneg _
  have hk8 : (k : Int) < (d.L.length : Int) := by omega
  have hu := Try.underlying72
  have hcs : (Try.prog.info? 72).map (·.size) = some (u8C b).length := by rw [sec_size, u8C_length, hb]
  have h1c := u8C_one b
  have hln : (u8C b).length = 256 := by rw [u8C_length, hb]
  have ht := (h2.2.2.2.2 k hk).2
  have hn0 : (w2.drew.setCells s (k * 256) (u8C b)).cell? ⟨g, 0, none⟩ = some (.slice (some ⟨s, 0, none⟩) d.L.length cap) := (World.cell?_of_block (w := w2.drew) (a := ⟨g, 0, none⟩) (setCells_heap s _ _ _ g hgs)).trans c0
  have hn1 : (w2.drew.setCells s (k * 256) (u8C b)).rangeAt w1.heap.size 0 (u8C b) := range_block (w := w2.drew) hr2 (setCells_heap s _ _ _ _ (Ne.symm hsG))
  have hn2 : (w2.drew.setCells s (k * 256) (u8C b)).there s (k * 256) 256 := World.there_setCells (w := w2.drew) ht _ _ _
  go_region_held (fun w' => w'.cell? ⟨g, 0, none⟩ = some (.slice (some ⟨s, 0, none⟩) d.L.length cap) ∧ w'.rangeAt w1.heap.size 0 (u8C b) ∧ w'.there s (k * 256) 256) (first | exact ⟨hn0, hn1, hn2⟩ | exact ⟨c0, hr2, ht⟩) (fail)
  clear hn0 hn1 hn2 ht hr2 c0 h2 hu hcs h1c hln hz hs
  obtain ⟨_, _, _, _, _, _, c3, _, _, _, f3⟩ := h3.cells
  simp only at c3
  obtain ⟨h6, f6⟩ := h3.wr_ (d.wr + 1)
  have f7 := f5.trans f6
  clear f5 f6 h3
  generalize w2.drew.setCells s (k * 256) (u8C b) = w3 at *
  go_wp2
  go_ret
  exact ⟨rfl, h6, f7⟩

section
variable {w : World} {g s : Nat} {d : Dsk}
set_option maxHeartbeats 400000 in
theorem write_off (n : Int) (A : Option Addr) (m c : Nat) (h : Dk w g s d) (ho : d.on = false) : Calls Try.prog 28 #[.pointer (some ⟨g, 0, none⟩), .int .i64 n, .slice A m c] w (Same (.int .i64 6) w) := by
  go_enter Try.func28, Try.ntmps28
  go_wp2_with fail
  refine (access_off n h ho).mono ?_
  rintro e w' ⟨rfl, rfl⟩
  go_wp2
  go_ret
  exact ⟨rfl, rfl⟩
set_option maxHeartbeats 400000 in
theorem write_bad (n : Int) (A : Option Addr) (m c : Nat) (h : Dk w g s d) (ho : d.on = true) (hb : d.Bad n) : Calls Try.prog 28 #[.pointer (some ⟨g, 0, none⟩), .int .i64 n, .slice A m c] w (Same (.int .i64 1) w) := by
  go_enter Try.func28, Try.ntmps28
  go_wp2_with fail
  refine (access_bad n h ho hb).mono ?_
  rintro e w' ⟨rfl, rfl⟩
  go_wp2
  go_ret
  exact ⟨rfl, rfl⟩
set_option maxHeartbeats 400000 in
theorem write_short (n : Int) (A : Option Addr) (m c : Nat) (h : Dk w g s d) (ho : d.on = true) (hb : ¬ d.Bad n) (hm : m ≠ 256) : Calls Try.prog 28 #[.pointer (some ⟨g, 0, none⟩), .int .i64 n, .slice A m c] w (Same (.int .i64 1) w) := by
  have b1 : ((m : Int) == 256) = false := beq_eq_false_iff_ne.2 (by omega)
  have b2 : (m == 256) = false := beq_eq_false_iff_ne.2 hm
  have b3 : ((m : Int) != 256) = true := by simp; omega
  go_enter Try.func28, Try.ntmps28
  go_wp2_with fail
  refine (access_ok n h ho hb).mono ?_
  rintro e w' ⟨rfl, rfl⟩
  go_wp2
  go_ret
  exact ⟨rfl, rfl⟩
set_option maxHeartbeats 400000 in
theorem write_dead (n : Int) (A : Option Addr) (c : Nat) (h : Dk w g s d) (ho : d.on = true) (hb : ¬ d.Bad n) (hl : d.left = 0) : Calls Try.prog 28 #[.pointer (some ⟨g, 0, none⟩), .int .i64 n, .slice A 256 c] w (DPost (.int .i64 6) g s d.off w) := by
  go_enter Try.func28, Try.ntmps28
  go_wp2_with fail
  refine (access_ok n h ho hb).mono ?_
  rintro e w' ⟨rfl, rfl⟩
  go_wp2_with fail
  refine (fails_yes h hl).mono ?_
  rintro e w1 ⟨rfl, h1, f1⟩
  go_wp2
  go_ret
  exact ⟨rfl, h1, f1⟩

theorem DPost.of_same {v : Value} {e : Ending} {w' : World} (h : Dk w g s d) (k : Same v w e w') : DPost v g s d w e w' := by
  obtain ⟨rfl, rfl⟩ := k
  exact ⟨rfl, h, Fr.refl _ _⟩

/-- Write, in all cases. -/
theorem write_all (n : Int) (A : Option Addr) (b : List UInt8) (c : Nat) (h : Dk w g s d) (hi : i64 d.left) (hwr : 0 ≤ d.wr ∧ d.wr ≤ 1000000000) (hL : Lie w A b) (hA : ∀ ad, A = some ad → ¬ Two g s ad.block) :
    Calls Try.prog 28 #[.pointer (some ⟨g, 0, none⟩), .int .i64 n, .slice A b.length c] w (DPost (.int .i64 (d.err n b.length)) g s (d.write n b) w) := by
  unfold Dsk.err Dsk.write
  by_cases ho : d.on = false
  · rw [if_pos ho, if_pos ho]
    exact (write_off n A b.length c h ho).mono fun _ _ k => DPost.of_same h k
  · have ho' : d.on = true := by simpa using ho
    rw [if_neg ho, if_neg ho]
    by_cases hb : d.Bad n
    · rw [if_pos (.inl hb), if_pos (.inl hb)]
      exact (write_bad n A b.length c h ho' hb).mono fun _ _ k => DPost.of_same h k
    · by_cases hm : b.length = 256
      · have hx : ¬ (d.Bad n ∨ b.length ≠ 256) := fun h => h.elim hb fun k => k hm
        rw [if_neg hx, if_neg hx]
        by_cases hl : d.left = 0
        · rw [if_pos hl, if_pos hl, hm]
          exact write_dead n A c h ho' hb hl
        · rw [if_neg hl, if_neg hl]
          have hn : n = (n.toNat : Int) := by unfold Dsk.Bad at hb; omega
          have hk : n.toNat < d.L.length := by unfold Dsk.Bad at hb; omega
          have := write_ok n.toNat A b c w g s d h ho' hk hm hl hi hwr hL hA
          rw [← hn] at this
          exact this
      · rw [if_pos (.inr hm), if_pos (.inr hm)]
        exact (write_short n A b.length c h ho' hb hm).mono fun _ _ k => DPost.of_same h k
end
end Go.Proofs.Ytkklplccngdalaa.Dk
