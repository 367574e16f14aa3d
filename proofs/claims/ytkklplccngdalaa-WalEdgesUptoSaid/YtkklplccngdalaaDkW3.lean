/-
  Contracts of disk.New, Read, Clone.
-/
import Derived.Test.YtkklplccngdalaaDkW2
import Derived.Lib.SliceRun
namespace Go.Proofs.Ytkklplccngdalaa.Dk
open Go.RowKit

theorem made_sec (n : Nat) : madeCells (Value.agg (Array.replicate 256 (.int .u8 0))).cells (n * 256) = (u8C (List.replicate (n * 256) 0)).toArray := by
  rw [u8C_rep]
  apply Array.ext
  · rw [size_madeCells]
    simp
  · intro i h1 h2
    have hv : (Value.agg (Array.replicate 256 (.int .u8 0))).cells = Array.replicate 256 (.int .u8 0) := rfl
    have hm : i % 256 < 256 := Nat.mod_lt _ (by omega)
    simp only [madeCells, hv, Array.getElem_map, Array.getElem_range, Array.size_replicate, List.getElem_toArray, List.getElem_replicate]
    rw [getElem!_pos _ _ (by rw [Array.size_replicate]; exact hm), Array.getElem_replicate]
    rfl
theorem run_make_sec (n : Nat) (hn : n ≤ 2048) (w : World) : (Instr.makeSlice 64 (.int .i64 (n : Int)) (.int .i64 (n : Int))).run Try.prog w = .ok (.slice (some ⟨w.heap.size, 0, none⟩) n n) (w.alloc (.cells (u8C (List.replicate (n * 256) 0)).toArray 72)) := by
  obtain ⟨i0, hi0, hz0, hz1, hz2⟩ := info_parts info_sec
  have h := run_make (P := Try.prog) w 64 72 i0 _ Try.underlying64 hi0 hz0 .i64 .i64 n n (by omega) (by omega) (by rw [hz2]; omega) (by omega)
  rw [h, hz1, Int.toNat_natCast, made_sec]
theorem secs_new (w : World) (n : Nat) (t : TypeId) : Secs (w.alloc (.cells (u8C (List.replicate (n * 256) 0)).toArray t)) w.heap.size (List.replicate n (full 0)) := by
  have hx := Box.new w t (u8C (List.replicate (n * 256) 0)).toArray
  refine ⟨fun x hx => ?_, fun i hi => ?_⟩
  · rw [List.eq_of_mem_replicate hx]
    exact full_len 0
  · rw [List.length_replicate] at hi
    have hc : ∀ j, j < 256 → (w.alloc (.cells (u8C (List.replicate (n * 256) 0)).toArray t)).cell? ⟨w.heap.size, i * 256 + j, none⟩ = some (.int .u8 0) := fun j hj => by
      rw [hx.cell, List.getElem?_toArray, u8C_rep, List.getElem?_replicate, if_pos (by omega)]
      rfl
    refine ⟨fun j v hv => ?_, fun j hj => ⟨by rw [hc j hj]; rfl, hx.frozen _⟩⟩
    rw [List.getElem_replicate] at hv
    obtain ⟨hj, rfl⟩ := u8C_get hv
    rw [full_len] at hj
    rw [hc j hj]
    have e : (full 0)[j]'(by rw [full_len]; exact hj) = 0 := by unfold full; exact List.getElem_replicate _
    rw [e]
    rfl

def NewPost (n : Nat) (w : World) (e : Ending) (w' : World) : Prop :=
  ∃ g s, e = .returned (.tuple #[.pointer (some ⟨g, 0, none⟩), .int .i64 0]) ∧ w.heap.size ≤ g ∧ w.heap.size ≤ s ∧ Dk w' g s (new n) ∧ Below w.heap.size w w'

set_option maxRecDepth 100000 in
set_option maxHeartbeats 400000 in
theorem new_ok (n : Nat) (w : World) (h1 : 1 ≤ n) (h2 : n ≤ 2048) : Calls Try.prog 27 #[.int .i64 (n : Int)] w (NewPost n w) := by
  have hm := run_make_sec n h2
  have hse := secs_new w n 72
  have b1 : decide ((n : Int) < 1) = false := by simp; omega
  have b2 : decide ((2048 : Int) < (n : Int)) = false := by simp; omega
  go_enter Try.func27, Try.ntmps27
  go_wp2
  go_ret2
  have hB := (Below.refl w.heap.size w).alloc (Nat.le_refl _) (.cells (u8C (List.replicate (n * 256) 0)).toArray 72)
  refine ⟨_, _, rfl, by omega, Nat.le_refl _, ⟨⟨n, ?_, by simp [new], by unfold maxLen; omega⟩, by omega, by simp; omega, ?_⟩, hB.alloc hB.size _⟩
  · have hx := Box.new (w.alloc (.cells (u8C (List.replicate (n * 256) 0)).toArray 72)) 66 #[.slice (some ⟨w.heap.size, 0, none⟩) n n, .bool true, .int .i64 (-1), .int .i64 0]
    have e : (new n).L.length = n := List.length_replicate
    have e2 : (w.alloc (.cells (u8C (List.replicate (n * 256) 0)).toArray 72)).heap.size = w.heap.size + 1 := by simp
    rw [e2] at hx
    rw [e]
    exact hx
  · exact hse.block (Below.heap_alloc _ _ _ (by simp))
set_option maxHeartbeats 400000 in
theorem new_bad (n : Int) (w : World) (h : n < 1 ∨ 2048 < n) : Calls Try.prog 27 #[.int .i64 n] w (Same (.tuple #[.pointer none, .int .i64 1]) w) := by
  rcases h with h | h
  · go_enter Try.func27, Try.ntmps27
    go_wp2
    go_ret2
    exact ⟨rfl, rfl⟩
  · have h' : ¬ n < 1 := by omega
    go_enter Try.func27, Try.ntmps27
    go_wp2
    go_ret2
    exact ⟨rfl, rfl⟩

section
variable {w : World} {g s : Nat} {d : Dsk}
set_option maxHeartbeats 400000 in
theorem read_off (n : Int) (h : Dk w g s d) (ho : d.on = false) : Calls Try.prog 36 #[.pointer (some ⟨g, 0, none⟩), .int .i64 n] w (Same (.tuple #[.slice none 0 0, .int .i64 6]) w) := by
  go_enter Try.func36, Try.ntmps36
  go_wp2_with fail
  refine (access_off n h ho).mono ?_
  rintro e w' ⟨rfl, rfl⟩
  go_wp2
  go_ret2
  exact ⟨rfl, rfl⟩
set_option maxHeartbeats 400000 in
theorem read_bad (n : Int) (h : Dk w g s d) (ho : d.on = true) (hb : d.Bad n) : Calls Try.prog 36 #[.pointer (some ⟨g, 0, none⟩), .int .i64 n] w (Same (.tuple #[.slice none 0 0, .int .i64 1]) w) := by
  go_enter Try.func36, Try.ntmps36
  go_wp2_with fail
  refine (access_bad n h ho hb).mono ?_
  rintro e w' ⟨rfl, rfl⟩
  go_wp2
  go_ret2
  exact ⟨rfl, rfl⟩

theorem Box.sets_ {t : TypeId} : ∀ (vs : List Value) (o : Nat) {w : World} {cs : Array Value}, Box w g t cs → o + vs.length = cs.size → Box (w.setCells g o vs) g t (cs.toList.take o ++ vs).toArray
  | [], o, w, cs, h, e => by
    have e2 : (cs.toList.take o ++ []).toArray = cs := by rw [List.append_nil, List.take_of_length_le (by simp at e ⊢; omega)]
    rw [e2]
    exact h
  | v :: r, o, w, cs, h, e => by
    have hlt : o < cs.size := by simp at e; omega
    have := Box.sets_ r (o + 1) (h.set_ o v) (by simp at e ⊢; omega)
    have e2 : ((cs.setIfInBounds o v).toList.take (o + 1) ++ r).toArray = (cs.toList.take o ++ v :: r).toArray := by
      congr 1
      rw [Array.toList_setIfInBounds, List.take_add_one, List.take_set_of_le (Nat.le_refl _), List.getElem?_set_self (by simpa using hlt), List.append_assoc]
      rfl
    rw [e2] at this
    exact this
theorem store_new (w : World) (vs : List Value) (hl : vs.length = 256) (h1 : ∀ v ∈ vs, v.oneCell' = true) :
    ∃ w2, (storeCells ⟨w.heap.size, 0, none⟩ vs).run Try.prog (w.alloc (.cells (u8C (full 0)).toArray 72)) = .ok () w2 ∧ Box w2 w.heap.size 72 vs.toArray ∧ Below w.heap.size w w2 := by
  have hx := Box.new w 72 (u8C (full 0)).toArray
  have hz : (u8C (full 0)).toArray.size = 256 := by rw [List.size_toArray, u8C_length, full_len]
  have h := run_storeCells_cells (P := Try.prog) w.heap.size 0 vs 0 (w.alloc (.cells (u8C (full 0)).toArray 72)) (fun j hj => by
    rw [hx.cell, Array.getElem?_eq_getElem (by rw [hz]; omega)]
    rfl) (fun j _ => hx.frozen _) h1
  refine ⟨_, h, ?_, (((Fr.refl (fun k => k = w.heap.size) w).alloc _).sets rfl _ _).below (Nat.le_refl _) (fun k hk => by omega)⟩
  have := hx.sets_ vs 0 (by rw [hz]; omega)
  simpa using this
def ReadPost (l : List UInt8) (w : World) (e : Ending) (w' : World) : Prop :=
  ∃ g, e = .returned (.tuple #[.slice (some ⟨g, 0, none⟩) 256 256, .int .i64 0]) ∧ w.heap.size ≤ g ∧ Box w' g 72 (u8C l).toArray ∧ Below w.heap.size w w'

set_option maxRecDepth 100000 in
set_option maxHeartbeats 1000000 in
theorem read_ok (k : Nat) (h : Dk w g s d) (ho : d.on = true) (hk : k < d.L.length) : Calls Try.prog 36 #[.pointer (some ⟨g, 0, none⟩), .int .i64 (k : Int)] w (ReadPost d.L[k] w) := by
  have hbad : ¬ d.Bad (k : Int) := by unfold Dsk.Bad; omega
  obtain ⟨cap, hc1, hc2, c0, _⟩ := h.cells
  have hz := run_zero_sec
  have hs := sec_all
  have hr := (h.2.2.2.2 k hk).1
  have hln : (u8C d.L[k]).length = 256 := by rw [u8C_length]; exact h.2.2.2.1 _ (List.getElem_mem hk)
  go_enter Try.func36, Try.ntmps36
  go_wp2_with fail
  refine (access_ok (k : Int) h ho hbad).mono ?_
  rintro e w' ⟨rfl, rfl⟩
  go_wp2_with fail
  refine wp_load_mid 72 (.tmp 19) rfl s (k * 256) rfl (u8C d.L[k]) _ hr Try.underlying72 rfl (by rw [sec_size, hln]) ?_
  obtain ⟨w2, hst, hx2, hb2⟩ := store_new w (u8C d.L[k]) hln (u8C_one _)
  go_wp2
  go_ret2
  exact ⟨_, rfl, Nat.le_refl _, hx2, hb2⟩
end
end Go.Proofs.Ytkklplccngdalaa.Dk
