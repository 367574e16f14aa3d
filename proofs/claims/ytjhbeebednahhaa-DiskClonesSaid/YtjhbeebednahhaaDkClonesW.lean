/-
  The walk of DiskClones.
-/
import Derived.Test.YtjhbeebednahhaaDkStaysW
namespace Go.Proofs.Ytjhbeebednahhaa.Dk
open Go.RowKit

/-- What a sector holds behind k writes of the clone. -/
def want (x y : UInt8) (j k i : Nat) : UInt8 := if i < k then y else if i = j then x else 0
def LL (x y : UInt8) (j k : Nat) : List (List UInt8) := (List.range 8).map fun i => full (want x y j k i)
theorem LL_len (x y : UInt8) (j k : Nat) : (LL x y j k).length = 8 := by simp [LL]
theorem LL_at (x y : UInt8) (j k i : Nat) (h : i < 8) : (LL x y j k)[i]? = some (full (want x y j k i)) := by
  unfold LL
  rw [List.getElem?_map, List.getElem?_range h]
  rfl
theorem LL_zero (x y : UInt8) (j : Nat) : (List.replicate 8 (full 0)).set j (full x) = LL x y j 0 := by
  apply List.ext_getElem?
  intro i
  by_cases h : i < 8
  · rw [LL_at x y j 0 i h, List.getElem?_set]
    by_cases e : j = i
    · rw [if_pos e, if_pos (by simpa using (show j < 8 by omega))]
      simp [want, e]
    · rw [if_neg e, List.getElem?_replicate, if_pos h]
      simp [want, show ¬ i = j from fun k => e k.symm]
  · rw [List.getElem?_eq_none (by simp; omega), List.getElem?_eq_none (by rw [LL_len]; omega)]
theorem LL_succ (x y : UInt8) (j k : Nat) : (LL x y j k).set (k % 8) (full y) = LL x y j (k + 1) := by
  apply List.ext_getElem?
  intro i
  by_cases h : i < 8
  · rw [LL_at x y j (k + 1) i h, List.getElem?_set]
    by_cases e : k % 8 = i
    · rw [if_pos e, if_pos (by rw [LL_len]; omega)]
      simp [want, show i < k + 1 by omega]
    · rw [if_neg e, LL_at x y j k i h]
      have : (i < k + 1) ↔ (i < k) := by omega
      simp [want, this]
  · rw [List.getElem?_eq_none (by simp [LL_len]; omega), List.getElem?_eq_none (by rw [LL_len]; omega)]

/-- The clone behind k writes. -/
def cl (x y : UInt8) (j m k : Nat) : Dsk := ⟨LL x y j k, true, (m : Int) - k, 1 + k⟩
theorem cl_zero (x y : UInt8) (j m : Nat) : ((new 8).put j (full x)).cut (m : Int) = cl x y j m 0 := by
  unfold Dsk.cut Dsk.put cl new
  rw [← LL_zero x y j]
  simp only
  congr 1
theorem cl_succ (x y : UInt8) (j m k : Nat) (h : k < m) : (cl x y j m k).put (k % 8) (full y) = cl x y j m (k + 1) := by
  unfold Dsk.put cl less
  simp only [LL_succ]
  rw [if_pos (by omega)]
  congr 1 <;> omega

def CloneRel (x y : UInt8) (j m g s g' s' : Nat) (w : World) (i : Value) (wr : World) : Prop :=
  ∃ k : Nat, i = .int .i64 (k : Int) ∧ k ≤ m ∧ Dk wr g' s' (cl x y j m k) ∧ Dk wr g s (cl x y j m 0) ∧ Below w.heap.size w wr
def Good (m k : Nat) (d : Dsk) : Prop := d.L.length = 8 ∧ d.on = true ∧ d.left = (m : Int) - k ∧ 0 ≤ d.wr ∧ d.wr ≤ 1 + k
def DiskRel (m g s g' s' : Nat) (c : Dsk) (w : World) (i : Value) (wr : World) : Prop :=
  ∃ (k : Nat) (d : Dsk), i = .int .i64 (k : Int) ∧ k ≤ m ∧ Good m k d ∧ Dk wr g s d ∧ Dk wr g' s' c ∧ Below w.heap.size w wr
def EndRel (g' s' : Nat) (c : Dsk) (w : World) (i : Value) (wr : World) : Prop :=
  ∃ k : Nat, i = .int .i64 (k : Int) ∧ k ≤ 8 ∧ Dk wr g' s' c ∧ Below w.heap.size w wr
theorem Good.put {m k : Nat} {d : Dsk} (h : Good m k d) (hk : k < m) (i : Nat) (b : List UInt8) : Good m (k + 1) (d.put i b) := by
  obtain ⟨h1, h2, h3, h4, h5⟩ := h
  refine ⟨by simp [Dsk.put, h1], h2, ?_, by show 0 ≤ d.wr + 1; omega, by show d.wr + 1 ≤ _; omega⟩
  show less d.left = _
  unfold less
  rw [if_pos (by omega)]
  omega
theorem i64_small {n : Int} (h1 : -1000 ≤ n) (h2 : n ≤ 1000000000) : i64 n := by unfold i64; omega

set_option maxRecDepth 100000 in
set_option maxHeartbeats 16000000 in
theorem clones_in (x y : UInt8) (j m : Nat) (w : World) (hj : j < 8) (hm : m ≤ 20) :
    Calls Try.prog 6 #[.int .u8 (x.toNat : Int), .int .u8 (y.toNat : Int), .int .i64 (j : Int), .int .i64 (m : Int)] w (TruePost w) := by
  have b1 : decide ((j : Int) < 0) = false := by simp
  have b2 : decide ((7 : Int) < (j : Int)) = false := by simp; omega
  have b3 : decide ((m : Int) < 0) = false := by simp
  have b4 : decide ((20 : Int) < (m : Int)) = false := by simp; omega
  have HFx : Hid (∀ w, Calls Try.prog 13 #[.int .u8 (x.toNat : Int)] w (FullP (full x) w)) := fun w => full_l _ _ _ w rfl rfl
  have HFy : Hid (∀ w, Calls Try.prog 13 #[.int .u8 (y.toNat : Int)] w (FullP (full y) w)) := fun w => full_l _ _ _ w rfl rfl
  go_enter Try.func6, Try.ntmps6
  go_wp2_with fail
  refine (awake_all w).mono ?_
  rintro e w1 ⟨rfl, hb1⟩
  go_wp2_with fail
  refine (new_ok 8 w1 (by omega) (by omega)).mono ?_
  rintro e w2 ⟨g, s, rfl, hg, hs, h2, hb2⟩
  have hc2 := hb1.trans (hb2.mono hb1.size)
  have hg' : w.heap.size ≤ g := Nat.le_trans hb1.size hg
  have hs' : w.heap.size ≤ s := Nat.le_trans hb1.size hs
  clear hb1 hb2 hg hs
  go_wp2_with fail
  clear b1 b2 b3 b4
  refine (HFx.out _).mono ?_
  rintro e w3 ⟨g3, rfl, hg3, hx3, hb3⟩
  have h3 := h2.below hb3
  have hl2 := h2.lt
  have hc3 := hc2.trans (hb3.mono hc2.size)
  clear h2 hc2 hb3
  go_wp2_with fail
  refine (write_box (j : Int) g3 _ (full x) 256 h3 (i64_small (by decide) (by decide)) (by show (0 : Int) ≤ 0 ∧ (0 : Int) ≤ _; omega) hx3 (full_len x) (by omega) (by omega)).mono ?_
  rintro e w4 ⟨rfl, h4, f4⟩
  rw [err_ok rfl (by omega) (by rw [new_len]; omega) (by show (-1 : Int) ≠ 0; decide)]
  rw [write_put rfl (by omega) (by rw [new_len]; omega) (by show (-1 : Int) ≠ 0; decide) (full_len x), Int.toNat_natCast] at h4
  have hc4 := hc3.trans (f4.below hc3.size (fun b hb => by rcases hb with rfl | rfl <;> omega))
  clear h3 hc3 f4 hx3
  go_wp2_with fail
  refine (cut_all (m : Int) h4).mono ?_
  rintro e w5 ⟨rfl, h5, f5⟩
  rw [cl_zero x y j m] at h5
  have hl4 := h4.lt
  have hc5 := hc4.trans (f5.below hc4.size (fun b hb => by rcases hb with rfl | rfl <;> omega))
  clear h4 hc4 f5
  go_wp2_with fail
  refine (clone_all g s _ w5 h5 (by show 1 ≤ (LL x y j 0).length; rw [LL_len]; omega) (by show (LL x y j 0).length ≤ 2048; rw [LL_len]; omega)).mono ?_
  rintro e w6 ⟨g', s', rfl, hg1, hs1, h6, hb6⟩
  have h6d := h5.below hb6
  have hl5 := h5.lt
  have hc6 := hc5.trans (hb6.mono hc5.size)
  have hcs5 := hc5.size
  clear h5 hc5 hb6
  go_wp2_with fail
  refine (sectors_all h6).mono ?_
  rintro e w' ⟨rfl, rfl⟩
  rw [show (cl x y j m 0).L.length = 8 from LL_len x y j 0]
  go_wp2_with fail
  refine (writes_all h6).mono ?_
  rintro e w' ⟨rfl, rfl⟩
  rw [show (cl x y j m 0).wr = 1 from rfl]
  go_wp2_with fail
  go_loopw [13] (CloneRel x y j m g s g' s' w) (fun i _ => m - (intOf i).toNat)
  case atStart => exact ⟨0, rfl, by omega, h6, h6d, hc6⟩
  case round =>
    obtain ⟨k, rfl, hk, hC, hD, hbw⟩ := hrel
    clear h6 h6d hc6
    have hlC := hC.lt
    by_cases hlt : k < m
    · have b5 : (k : Int) < (m : Int) := by omega
      go_wp2_with fail
      refine (HFy.out _).mono ?_
      rintro e w7 ⟨g7, rfl, hg7, hx7, hb7⟩
      have hC7 := hC.below hb7
      have hD7 := hD.below hb7
      have hc7 := hbw.trans (hb7.mono hbw.size)
      clear hC hD hbw hb7
      have HW := Lib.hid (write_box ((k : Int) % 8) g7 _ (full y) 256 hC7 (by show i64 ((m : Int) - k); exact i64_small (by omega) (by omega)) (by show 0 ≤ 1 + (k : Int) ∧ 1 + (k : Int) ≤ _; omega) hx7 (full_len y) (by omega) (by omega))
      go_wp2_with fail
      refine HW.out.mono ?_
      rintro e w8 ⟨rfl, h8, f8⟩
      rw [err_ok rfl (by omega) (by rw [show (cl x y j m k).L.length = 8 from LL_len x y j k]; omega) (by show (m : Int) - k ≠ 0; omega)]
      rw [write_put rfl (by omega) (by rw [show (cl x y j m k).L.length = 8 from LL_len x y j k]; omega) (by show (m : Int) - k ≠ 0; omega) (full_len y), show ((k : Int) % 8).toNat = k % 8 by omega, cl_succ x y j m k hlt] at h8
      have hD8 := hD7.fr f8 (fun h => by rcases h with h | h <;> omega) (fun h => by rcases h with h | h <;> omega)
      have hc8 := hc7.trans (f8.below hc7.size (fun b hb => by rcases hb with rfl | rfl <;> omega))
      clear HW hC7 hD7 hc7 f8 hx7
      go_wp2
      go_roundw
      case rel => exact ⟨k + 1, by go_num, by omega, h8, hD8, hc8⟩
      case measure => simp [intOf]; omega
    · obtain rfl : k = m := by omega
      go_wp2_with fail
      refine (HFy.out _).mono ?_
      rintro e w7 ⟨g7, rfl, hg7, hx7, hb7⟩
      have hC7 := hC.below hb7
      have hD7 := hD.below hb7
      have hc7 := hbw.trans (hb7.mono hbw.size)
      clear hC hD hbw hb7 HFy
      go_wp2_with fail
      refine (write_box (j : Int) g7 _ (full y) 256 hC7 (by show i64 ((k : Int) - k); exact i64_small (by omega) (by omega)) (by show 0 ≤ 1 + (k : Int) ∧ 1 + (k : Int) ≤ _; omega) hx7 (full_len y) (by omega) (by omega)).mono ?_
      rintro e w8 ⟨rfl, h8, f8⟩
      rw [err_dead rfl (by omega) (by rw [show (cl x y j k k).L.length = 8 from LL_len x y j k]; omega) (by show (k : Int) - k = 0; omega)]
      rw [write_off_ rfl (by omega) (by rw [show (cl x y j k k).L.length = 8 from LL_len x y j k]; omega) (by show (k : Int) - k = 0; omega) (full_len y)] at h8
      have hD8 := hD7.fr f8 (fun h => by rcases h with h | h <;> omega) (fun h => by rcases h with h | h <;> omega)
      have hc8 := hc7.trans (f8.below hc7.size (fun b hb => by rcases hb with rfl | rfl <;> omega))
      clear hC7 hD7 hc7 f8 hx7
      go_wp2_with fail
      have HR := Lib.hid (read_at (j : Int) j (full x) hD8 rfl rfl (by show (LL x y j 0)[j]? = _; rw [LL_at x y j 0 j hj]; simp [want]))
      refine HR.out.mono ?_
      clear HR
      rintro e w9 ⟨g9, rfl, hg9, hx9, hb9⟩
      have hC9 := h8.below hb9
      have hD9 := hD8.below hb9
      have hc9 := hc8.trans (hb9.mono hc8.size)
      clear h8 hD8 hc8 hb9
      have LF := Lib.hid (full_len x)
      have H1 : Hid (∀ w, Dk w g s (cl x y j k 0) → Calls Try.prog 17 #[.pointer (some ⟨g, 0, none⟩)] w (Same (.int .i64 1) w)) := fun _ h => writes_all h
      have H2 : Hid (∀ w, Dk w g' s' (cl x y j k k).off → Calls Try.prog 17 #[.pointer (some ⟨g', 0, none⟩)] w (Same (.int .i64 ((k : Int) + 1)) w)) := fun _ h => by
        have := writes_all h
        rw [show (cl x y j k k).off.wr = (k : Int) + 1 by show 1 + (k : Int) = _; omega] at this
        exact this
      have cv := conv_box 256 hx9.drew LF.out
      have hwk : IntKind.i64.wrap ((k : Int) + 1) = (k : Int) + 1 := by rw [IntKind.wrap_i64]; omega
      go_wp2_with fail
      go_region_held (fun w' => (convert 31 9 (.slice (some ⟨g9, 0, none⟩) 256 256)).run Try.prog w' = .ok (.string ⟨(full x).toArray⟩) w') (first | exact cv | exact cv2 | assumption)
        (first | (go_at_call 13; (with_reducible refine (HFx.out _).mono ?_); rintro e wA ⟨gA, rfl, hgA, hxA, hbA⟩; have cvA := conv_box 256 hxA LF.out; have cv2 := conv_box 256 (hx9.drew.below hbA hx9.lt) LF.out; have hCA := hC9.drew_.below hbA; have hDA := hD9.drew_.below hbA; have hcA := hc9.drew.trans (hbA.mono (by exact hc9.size))) | (go_at_call 17; (with_reducible refine (H1.out _ hDA).mono ?_); rintro e w' ⟨rfl, rfl⟩) | (go_at_call 17; (with_reducible refine (H2.out _ hCA).mono ?_); rintro e w' ⟨rfl, rfl⟩))
      clear cv cv2 cvA hxA hx9 hC9 hD9 hc9 H1 H2 LF hwk
      have hlA := hCA.lt
      have hlB := hDA.lt
      go_wp2_with fail
      go_loopw [18] (DiskRel k g s g' s' (cl x y j k k).off w) (fun i _ => k - (intOf i).toNat)
      case atStart => exact ⟨0, _, rfl, by omega, ⟨LL_len x y j 0, rfl, by show (k : Int) - 0 = _; omega, by show (0 : Int) ≤ 1 + 0; omega, by show (1 : Int) + 0 ≤ _; omega⟩, hDA, hCA, hcA⟩
      case round =>
        obtain ⟨n, d, rfl, hn, hgd, hD, hC, hbw⟩ := hrel
        clear hDA hCA hcA hbA hgA
        have hlD := hD.lt
        have hlC := hC.lt
        have HG := Lib.hid hgd
        have hdl : d.L.length = 8 ∧ d.left = (k : Int) - n ∧ 0 ≤ d.wr ∧ d.wr ≤ 1 + n := ⟨hgd.1, hgd.2.2.1, hgd.2.2.2.1, hgd.2.2.2.2⟩
        have HO := Lib.hid hgd.2.1
        have HDL := Lib.hid hdl
        clear hgd hdl
        by_cases hlt : n < k
        · have b5 : (n : Int) < (k : Int) := by omega
          go_wp2_with fail
          refine (HFx.out _).mono ?_
          rintro e w7 ⟨g7, rfl, hg7, hx7, hb7⟩
          have hC7 := hC.below hb7
          have hD7 := hD.below hb7
          have hc7 := hbw.trans (hb7.mono hbw.size)
          clear hC hD hbw hb7
          have hne : g7 ≠ g ∧ g7 ≠ s := by omega
          have HW := Lib.hid (write_box (7 - (n : Int) % 8) g7 _ (full x) 256 hD7 (by have := HDL.out; exact i64_small (by omega) (by omega)) (by have := HDL.out; omega) hx7 (full_len x) hne.1 hne.2)
          go_wp2_with fail
          refine HW.out.mono ?_
          rintro e w8 ⟨rfl, h8, f8⟩
          have hdl := HDL.out
          rw [err_ok HO.out (by omega) (by omega) (by omega)]
          rw [write_put HO.out (by omega) (by omega) (by omega) (full_len x)] at h8
          have hC8 := hC7.fr f8 (fun h => by rcases h with h | h <;> omega) (fun h => by rcases h with h | h <;> omega)
          have hc8 := hc7.trans (f8.below hc7.size (fun b hb => by rcases hb with rfl | rfl <;> omega))
          clear HW hC7 hD7 hc7 f8 hx7 hdl
          go_wp2
          go_roundw
          case rel => exact ⟨n + 1, _, by go_num, by omega, HG.out.put hlt _ _, h8, hC8, hc8⟩
          case measure => simp [intOf]; omega
        · obtain rfl : n = k := by omega
          go_wp2_with fail
          refine (HFx.out _).mono ?_
          rintro e w7 ⟨g7, rfl, hg7, hx7, hb7⟩
          have hC7 := hC.below hb7
          have hD7 := hD.below hb7
          have hc7 := hbw.trans (hb7.mono hbw.size)
          clear hC hD hbw hb7 HFx
          have hne : g7 ≠ g ∧ g7 ≠ s := by omega
          have HW := Lib.hid (write_box 0 g7 _ (full x) 256 hD7 (by have := HDL.out; exact i64_small (by omega) (by omega)) (by have := HDL.out; omega) hx7 (full_len x) hne.1 hne.2)
          go_wp2_with fail
          refine HW.out.mono ?_
          rintro e w8 ⟨rfl, h8, f8⟩
          have hdl := HDL.out
          rw [err_dead HO.out (by omega) (by omega) (by omega)]
          have hC8 := hC7.fr f8 (fun h => by rcases h with h | h <;> omega) (fun h => by rcases h with h | h <;> omega)
          have hc8 := hc7.trans (f8.below hc7.size (fun b hb => by rcases hb with rfl | rfl <;> omega))
          clear HW hC7 hD7 hc7 f8 hx7 hdl h8 HDL HO HG
          go_wp2_with fail
          refine (up_all hC8).mono ?_
          rintro e w9 ⟨rfl, h9, f9⟩
          have hl8 := hC8.lt
          have hc9 := hc8.trans (f9.below hc8.size (fun b hb => by rcases hb with rfl | rfl <;> omega))
          clear hC8 hc8 f9
          go_wp2_with fail
          go_loopw [19] (EndRel g' s' (cl x y j n n).off.up w) (fun i _ => 8 - (intOf i).toNat)
          case atStart => exact ⟨0, rfl, by omega, h9, hc9⟩
          case round =>
            obtain ⟨i, rfl, hi, hC, hbw⟩ := hrel
            clear h9 hc9
            by_cases hi8 : i < 8
            · have HLi : Hid ((cl x y j n n).off.up.L[i]? = some (full (want x y j n i))) := LL_at x y j n i hi8
              have LF := Lib.hid (full_len (want x y j n i))
              have HF : Hid (∀ w, Calls Try.prog 13 #[.int .u8 ((want x y j n i).toNat : Int)] w (FullP (full (want x y j n i)) w)) := fun w => full_l _ _ _ w rfl rfl
              go_wp2_with fail
              refine (read_at (i : Int) i _ hC rfl rfl HLi.out).mono ?_
              rintro e w5 ⟨g5, rfl, hg5, hx5, hb5⟩
              have h5 := hC.below hb5
              have hc5 := hbw.trans (hb5.mono hbw.size)
              clear hC hbw hb5 HLi
              have hwt : want x y j n i = (if i < n then y else if i = j then x else 0) := rfl
              generalize want x y j n i = z at *
              generalize full z = F at *
              have cv5 := conv_box 256 hx5.drew LF.out
              by_cases hin : i < n
              · rw [if_pos hin] at hwt
                subst hwt
                have q1 : (i : Int) < (n : Int) := by omega
                by_cases hij : i = j
                · subst hij
                  go_wp2_with fail
                  go_region_held (fun w' => (convert 31 9 (.slice (some ⟨g5, 0, none⟩) 256 256)).run Try.prog w' = .ok (.string ⟨F.toArray⟩) w') (first | exact cv5 | exact cv6 | assumption)
                    (first | (go_at_call 13; refine (HF.out _).mono ?_; rintro e w6 ⟨g6, rfl, hg6, hx6, hb6⟩; have cvA := conv_box 256 hx6 LF.out; have cv6 := conv_box 256 (hx5.drew.below hb6 hx5.lt) LF.out; have h6 := h5.drew_.below hb6; have hc6 := hc5.drew.trans (hb6.mono (by exact hc5.size))))
                  clear cv5 cv6 cvA h5 hc5 hx5 hx6 HF
                  go_wp2
                  go_roundw
                  case rel => exact ⟨i + 1, by go_num, by omega, h6, hc6⟩
                  case measure => simp [intOf]; omega
                · have q2 : ((i : Int) == (j : Int)) = false := beq_eq_false_iff_ne.2 (by omega)
                  have q3 : (i == j) = false := beq_eq_false_iff_ne.2 hij
                  go_wp2_with fail
                  go_region_held (fun w' => (convert 31 9 (.slice (some ⟨g5, 0, none⟩) 256 256)).run Try.prog w' = .ok (.string ⟨F.toArray⟩) w') (first | exact cv5 | exact cv6 | assumption)
                    (first | (go_at_call 13; refine (HF.out _).mono ?_; rintro e w6 ⟨g6, rfl, hg6, hx6, hb6⟩; have cvA := conv_box 256 hx6 LF.out; have cv6 := conv_box 256 (hx5.drew.below hb6 hx5.lt) LF.out; have h6 := h5.drew_.below hb6; have hc6 := hc5.drew.trans (hb6.mono (by exact hc5.size))))
                  clear cv5 cv6 cvA h5 hc5 hx5 hx6 HF
                  go_wp2
                  go_roundw
                  case rel => exact ⟨i + 1, by go_num, by omega, h6, hc6⟩
                  case measure => simp [intOf]; omega
              · rw [if_neg hin] at hwt
                have q1 : decide ((i : Int) < (n : Int)) = false := by simp; omega
                have q4 : decide (i < n) = false := by simp; omega
                by_cases hij : i = j
                · rw [if_pos hij] at hwt
                  subst hwt
                  subst hij
                  go_wp2_with fail
                  go_region_held (fun w' => (convert 31 9 (.slice (some ⟨g5, 0, none⟩) 256 256)).run Try.prog w' = .ok (.string ⟨F.toArray⟩) w') (first | exact cv5 | exact cv6 | assumption)
                    (first | (go_at_call 13; refine (HF.out _).mono ?_; rintro e w6 ⟨g6, rfl, hg6, hx6, hb6⟩; have cvA := conv_box 256 hx6 LF.out; have cv6 := conv_box 256 (hx5.drew.below hb6 hx5.lt) LF.out; have h6 := h5.drew_.below hb6; have hc6 := hc5.drew.trans (hb6.mono (by exact hc5.size))))
                  clear cv5 cv6 cvA h5 hc5 hx5 hx6 HF
                  go_wp2
                  go_roundw
                  case rel => exact ⟨i + 1, by go_num, by omega, h6, hc6⟩
                  case measure => simp [intOf]; omega
                · rw [if_neg hij] at hwt
                  subst hwt
                  have q2 : ((i : Int) == (j : Int)) = false := beq_eq_false_iff_ne.2 (by omega)
                  have q3 : (i == j) = false := beq_eq_false_iff_ne.2 hij
                  go_wp2_with fail
                  go_region_held (fun w' => (convert 31 9 (.slice (some ⟨g5, 0, none⟩) 256 256)).run Try.prog w' = .ok (.string ⟨F.toArray⟩) w') (first | exact cv5 | exact cv6 | assumption)
                    (first | (go_at_call 13; refine (HF.out _).mono ?_; rintro e w6 ⟨g6, rfl, hg6, hx6, hb6⟩; have cvA := conv_box 256 hx6 LF.out; have cv6 := conv_box 256 (hx5.drew.below hb6 hx5.lt) LF.out; have h6 := h5.drew_.below hb6; have hc6 := hc5.drew.trans (hb6.mono (by exact hc5.size))))
                  clear cv5 cv6 cvA h5 hc5 hx5 hx6 HF
                  go_wp2
                  go_roundw
                  case rel => exact ⟨i + 1, by go_num, by omega, h6, hc6⟩
                  case measure => simp [intOf]; omega
            · go_wp2
              go_ret
              exact ⟨rfl, hbw⟩

set_option maxRecDepth 100000 in
set_option maxHeartbeats 4000000 in
theorem clones_walk (x y : UInt8) (at_ after : Int) (w : World) (_h1 : i64 at_) (_h2 : i64 after) :
    Calls Try.prog 6 #[.int .u8 (x.toNat : Int), .int .u8 (y.toNat : Int), .int .i64 at_, .int .i64 after] w (TruePost w) := by
  by_cases hin : 0 ≤ at_ ∧ at_ ≤ 7 ∧ 0 ≤ after ∧ after ≤ 20
  · have := clones_in x y at_.toNat after.toNat w (by omega) (by omega)
    rw [show ((at_.toNat : Nat) : Int) = at_ by omega, show ((after.toNat : Nat) : Int) = after by omega] at this
    exact this
  · have hor : at_ < 0 ∨ (0 ≤ at_ ∧ 7 < at_) ∨ (0 ≤ at_ ∧ at_ ≤ 7 ∧ after < 0) ∨ (0 ≤ at_ ∧ at_ ≤ 7 ∧ 0 ≤ after ∧ 20 < after) := by omega
    rcases hor with h | ⟨h, h'⟩ | ⟨h, h', h''⟩ | ⟨h, h', h'', h3⟩
    all_goals
      go_enter Try.func6, Try.ntmps6
      go_wp2_with fail
      refine (awake_all w).mono ?_
      rintro e w1 ⟨rfl, hb1⟩
      go_wp2_with fail
      refine (new_ok 8 w1 (by omega) (by omega)).mono ?_
      rintro e w2 ⟨g, s, rfl, hg, hs, h2, hb2⟩
      have hc2 := hb1.trans (hb2.mono hb1.size)
      go_wp2
      go_ret
      exact ⟨rfl, hc2⟩
end Go.Proofs.Ytjhbeebednahhaa.Dk
