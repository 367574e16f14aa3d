/-
  The document's Roll: counted, it is the same.
-/
import Derived.Test.YtadindhnaidmeaaDoorChR2
import Derived.Test.YtadindhnaidmeaaDoorChW3
namespace Go.Proofs.YtadindhnaidmeaaDoor.Ch
open Go.RowKit

theorem cnt_bit (l : List Int) (j : Nat) : (setF l 0).testBit j = decide (0 < cntN l j) := by
  rw [setF_bit, Nat.zero_testBit, Bool.false_or, Bool.eq_iff_iff, decide_eq_true_iff, List.any_eq_true]
  unfold cntN
  rw [List.countP_pos_iff]
theorem lit_act (i : Nat) (h : i < 12) : actB (i : Int) = (726).testBit i := hasB_lit 726 i h
theorem act_bit (l : List Int) : (setF l 0 &&& 726 ≠ 0) = (0 < actN l) := by
  apply propext
  unfold actN
  rw [List.countP_pos_iff]
  constructor
  · intro h
    obtain ⟨i, hi⟩ := Nat.exists_testBit_of_ne_zero h
    rw [Nat.testBit_and, Bool.and_eq_true] at hi
    obtain ⟨h1, h2⟩ := hi
    rw [setF_bit, Nat.zero_testBit, Bool.false_or, List.any_eq_true] at h1
    obtain ⟨s, hs, he⟩ := h1
    rw [decide_eq_true_iff] at he
    subst he
    exact ⟨s, hs, by rw [lit_act _ (norm_lt s)]; exact h2⟩
  · rintro ⟨s, hs, ha⟩ h
    rw [lit_act _ (norm_lt s)] at ha
    have h1 : (setF l 0).testBit (normS s) = true := by
      rw [setF_bit, Nat.zero_testBit, Bool.false_or, List.any_eq_true]
      exact ⟨s, hs, by simp⟩
    have : (setF l 0 &&& 726).testBit (normS s) = true := by rw [Nat.testBit_and, h1, ha]; rfl
    rw [h, Nat.zero_testBit] at this
    cases this
theorem run_bit (l : List Int) : (setF l 0 &&& 2 ≠ 0) = (0 < cntN l 1) := by
  apply propext
  have h := cnt_bit l 1
  rw [Bool.eq_iff_iff, decide_eq_true_iff] at h
  rw [← h]
  constructor
  · intro h0
    obtain ⟨i, hi⟩ := Nat.exists_testBit_of_ne_zero h0
    rw [Nat.testBit_and, Bool.and_eq_true] at hi
    obtain ⟨h1, h2⟩ := hi
    have : i = 1 := by
      rw [show (2 : Nat) = 2 ^ 1 from rfl, Nat.testBit_two_pow, decide_eq_true_iff] at h2
      exact h2.symm
    subst this
    exact h1
  · intro h1 h0
    have : (setF l 0 &&& 2).testBit 1 = true := by rw [Nat.testBit_and, h1]; rfl
    rw [h0, Nat.zero_testBit] at this
    cases this
theorem nil_bit (l : List Int) : (setF l 0 = 0) = (l.length = 0) := by
  apply propext
  cases l with
  | nil => simp [setF]
  | cons s l =>
    refine ⟨fun h => ?_, fun h => by simp at h⟩
    have : (setF (s :: l) 0).testBit (normS s) = true := by rw [setF_bit]; simp
    rw [h, Nat.zero_testBit] at this
    cases this
theorem all_bit (l : List Int) (j : Nat) (hj : j < 12) (hl : l.length ≠ 0) : (setF l 0 = 2 ^ j) = (cntN l j = l.length) := by
  apply propext
  unfold cntN
  rw [List.countP_eq_length]
  constructor
  · intro h s hs
    have h1 : (setF l 0).testBit (normS s) = true := by
      rw [setF_bit, Nat.zero_testBit, Bool.false_or, List.any_eq_true]
      exact ⟨s, hs, by simp⟩
    rw [h, Nat.testBit_two_pow, decide_eq_true_iff] at h1
    rw [decide_eq_true_iff]
    exact h1.symm
  · intro h
    refine set_eq (setF_lt l 0 (by omega)) (show 2 ^ j < 2 ^ 12 from Nat.pow_lt_pow_right (by decide) hj) fun i _ => ?_
    rw [setF_bit, Nat.zero_testBit, Bool.false_or, Nat.testBit_two_pow, Bool.eq_iff_iff, List.any_eq_true, decide_eq_true_iff]
    constructor
    · rintro ⟨s, hs, hi⟩
      have := h s hs
      rw [decide_eq_true_iff] at this hi
      omega
    · rintro rfl
      obtain ⟨s, hs⟩ := List.exists_mem_of_length_pos (show 0 < l.length by omega)
      exact ⟨s, hs, h s hs⟩
def cascade (c : Nat → Nat) (a len : Nat) : Int :=
  if len = 0 then 0 else if 0 < c 9 ∨ (0 < c 10 ∧ 0 < a) then 9 else if 0 < c 10 then 10 else if 0 < c 7 ∨ (0 < c 8 ∧ 0 < a) then 7 else if 0 < c 8 then 8
  else if 0 < c 4 ∨ (0 < c 5 ∧ 0 < a) then 4 else if 0 < c 5 then 5 else if 0 < c 6 then 6 else if 0 < c 2 ∨ (0 < c 3 ∧ 0 < c 1) then 2 else if 0 < c 3 then 3
  else if 0 < c 1 then 1 else if c 11 = len then 11 else if c 0 = len then 0 else 1
theorem roll_cnt (l : List Int) : rollP l = cascade (cntN l) (actN l) l.length := by
  unfold rollP togP cascade
  by_cases h0 : l.length = 0
  · rw [if_pos (by rw [nil_bit]; exact h0), if_pos h0]
  · have e1 : (setF l 0 = 2048) = (cntN l 11 = l.length) := all_bit l 11 (by decide) h0
    have e2 : (setF l 0 = 1) = (cntN l 0 = l.length) := all_bit l 0 (by decide) h0
    rw [if_neg (by rw [nil_bit]; exact h0), if_neg h0]
    simp only [underB, cnt_bit, act_bit, run_bit, e1, e2, Bool.or_eq_true, Bool.and_eq_true, decide_eq_true_eq]

/-- The block of the counts. -/
def Bx (w : World) (g : Nat) (cs : Array Value) : Prop := w.heap[g]? = some (.cells cs 41 (0, 0))
section
variable {w w' : World} {g : Nat} {cs : Array Value}
theorem Bx.lt (h : Bx w g cs) : g < w.heap.size := (Array.getElem?_eq_some_iff.1 h).1
theorem Bx.cell (h : Bx w g cs) (i : Nat) : w.cell? ⟨g, i, none⟩ = cs[i]? := cell_of_row w g i cs _ (0, 0) h
theorem Bx.frozen (h : Bx w g cs) (i : Nat) : w.frozen? ⟨g, i, none⟩ = false := by
  unfold Bx at h
  simp [World.frozen?, h]
theorem Bx.new (w : World) (cs : Array Value) : Bx (w.alloc (.cells cs 41)) w.heap.size cs := heap_alloc_new w _
theorem Bx.set_ (h : Bx w g cs) (i : Nat) (u : Value) : Bx (w.setCell ⟨g, i, none⟩ u) g (cs.setIfInBounds i u) := by
  unfold Bx at h ⊢
  simp [World.setCell, Array.getElem?_modify, h]
end
def RlRel (l : List Int) (len g : Nat) (w : World) (va vi : Value) (wr : World) : Prop :=
  ∃ (k a : Nat) (c : Nat → Nat), k ≤ len ∧ va = .int .i64 (a : Int) ∧ vi = .int .i64 (k : Int) ∧ Hid (c = cntN (l.take k)) ∧ Hid (a = actN (l.take k)) ∧ Hid (a ≤ k) ∧ Hid (∀ j, c j ≤ k) ∧ Hid (Bx wr g (cntC c)) ∧ Hid (Below w.heap.size w wr)
set_option maxRecDepth 100000 in
set_option maxHeartbeats 4000000 in
theorem refRoll_any (l : List Int) (A : Option Addr) (cap : Nat) (w : World) (hl : l.length ≤ 1000000) (hA : Nums w A l) : Calls Tryd.prog 23 #[.slice A l.length cap] w fun e w' => e = .returned (.int .i64 (rollP l)) ∧ Below w.heap.size w w' := by
  have HA := Lib.hid hA
  clear hA
  rw [roll_cnt]
  generalize hX : cascade (cntN l) (actN l) l.length = X
  have HX := Lib.hid hX
  clear hX
  generalize hL : l.length = len at *
  have HL := Lib.hid hL
  clear hL
  have hb := (Below.refl w.heap.size w).alloc (Nat.le_refl _) (.cells (cntC fun _ => 0) 41)
  have hx := Bx.new w (cntC fun _ => 0)
  have hz : cntC (fun _ => 0) = #[.int .i64 0, .int .i64 0, .int .i64 0, .int .i64 0, .int .i64 0, .int .i64 0, .int .i64 0, .int .i64 0, .int .i64 0, .int .i64 0, .int .i64 0, .int .i64 0] := rfl
  have HR : Hid (RlRel l len w.heap.size w (.int .i64 0) (.int .i64 0) (w.alloc (.cells #[.int .i64 0, .int .i64 0, .int .i64 0, .int .i64 0, .int .i64 0, .int .i64 0, .int .i64 0, .int .i64 0, .int .i64 0, .int .i64 0, .int .i64 0, .int .i64 0] 41))) := by
    rw [← hz]
    exact ⟨0, 0, fun _ => 0, by omega, rfl, rfl, (by unfold Hid; funext j; simp [cntN]), (by simp [Hid, actN]), Nat.le_refl _, (fun _ => Nat.le_refl _), hx, hb⟩
  clear hb hx hz
  go_enter Tryd.func23, Tryd.ntmps23
  go_wp2
  go_loopw [4, 5] (RlRel l len w.heap.size w) (fun _ x _ => len - (intOf x).toNat)
  case atStart => exact HR.out
  case round =>
    rename World => wr
    obtain ⟨k, a, c, hk, rfl, rfl, HC, HAc, hak, HCb, HBx, HBl⟩ := hrel
    have hak' : a ≤ k := hak.out
    clear hak
    by_cases hlt : k < len
    · have hki : k < l.length := by rw [HL.out]; exact hlt
      obtain ⟨g, off, rfl, hg, c0⟩ := HA.out.at_ hki
      rw [← HBl.out.cell (p := ⟨g, off + k, none⟩) hg] at c0
      have hklt : ((k : Nat) : Int) < (len : Int) := by omega
      have HT := Lib.hid (fun j => cnt_take l k j hki)
      have HTa := Lib.hid (act_take l k hki)
      generalize l[k] = x at *
      cases he : exB x
      · have hj12 : 0 < 12 := by omega
        have hnr : normS x = 0 := by unfold normS; rw [he]; rfl
        have hx0 : x < 0 ∨ 12 ≤ x := by unfold exB at he; simp at he; omega
        have hx1 : (x < 0 ∨ (¬ x < 0 ∧ 12 ≤ x)) := by omega
        clear he hx0
        have hA := refActing_any ((0 : Nat) : Int) (wr.setCell ⟨w.heap.size, 0, none⟩ (.int .i64 ((c 0 : Int) + 1)))
        have m0 := (HBx.out.cell 0).trans (cntC_at c 0 hj12)
        have f0 := HBx.out.frozen 0
        have hBn : Bx (wr.setCell ⟨w.heap.size, 0, none⟩ (.int .i64 ((c 0 : Int) + 1))) w.heap.size (cntC (bump c 0)) := by have := HBx.out.set_ 0 (.int .i64 ((c 0 : Int) + 1)); rwa [cntC_bump c 0 hj12] at this
        have hbn : Below w.heap.size w (wr.setCell ⟨w.heap.size, 0, none⟩ (.int .i64 ((c 0 : Int) + 1))) := HBl.out.setCell (p := ⟨w.heap.size, 0, none⟩) (Nat.le_refl _) _
        have HCn : Hid (bump c 0 = cntN (l.take (k + 1))) := by
          unfold Hid
          funext i
          rw [HT.out i, ← HC.out, hnr]
          unfold bump
          by_cases h : i = 0
          · rw [if_pos h, if_pos h.symm]
          · rw [if_neg h, if_neg (Ne.symm h)]
        have HBd : Hid (∀ i, bump c 0 i ≤ k + 1) := fun i => by have := HCb.out i; unfold bump; split <;> omega
        have hck := HCb.out 0
        have HTb := HTa.out
        rw [hnr, ← HAc.out] at HTb
        have HTc := Lib.hid HTb
        clear HTb HTa HT HC hnr HCb HBx HAc
        generalize hbm : bump c 0 = c' at *
        clear hbm
        generalize c 0 = ck at *
        have hw2 := Lib.hid hBn
        have hw3 := Lib.hid hbn
        clear hBn hbn
        rcases hx1 with hx1 | ⟨hx1, hx2⟩
        · cases hac : actB ((0 : Nat) : Int)
          · rw [hac] at hA
            have HA3 : Hid (a = actN (l.take (k + 1))) := by unfold Hid; rw [HTc.out, hac]; rfl
            clear HTc hac
            go_wp2_with fail
            refine hA.mono ?_
            rintro e w1 ⟨rfl, rfl⟩
            go_wp2
            go_roundw
            case rel => exact ⟨k + 1, a, c', by omega, rfl, by go_num, HCn, HA3, Nat.le_succ_of_le hak', HBd, hw2, hw3⟩
            case measure => simp [intOf]; omega
          · rw [hac] at hA
            have HA3 : Hid (a + 1 = actN (l.take (k + 1))) := by unfold Hid; rw [HTc.out, hac]; rfl
            clear HTc hac
            go_wp2_with fail
            refine hA.mono ?_
            rintro e w1 ⟨rfl, rfl⟩
            go_wp2
            go_roundw
            case rel => exact ⟨k + 1, a + 1, c', by omega, by go_num, by go_num, HCn, HA3, Nat.succ_le_succ hak', HBd, hw2, hw3⟩
            case measure => simp [intOf]; omega
        · cases hac : actB ((0 : Nat) : Int)
          · rw [hac] at hA
            have HA3 : Hid (a = actN (l.take (k + 1))) := by unfold Hid; rw [HTc.out, hac]; rfl
            clear HTc hac
            go_wp2_with fail
            refine hA.mono ?_
            rintro e w1 ⟨rfl, rfl⟩
            go_wp2
            go_roundw
            case rel => exact ⟨k + 1, a, c', by omega, rfl, by go_num, HCn, HA3, Nat.le_succ_of_le hak', HBd, hw2, hw3⟩
            case measure => simp [intOf]; omega
          · rw [hac] at hA
            have HA3 : Hid (a + 1 = actN (l.take (k + 1))) := by unfold Hid; rw [HTc.out, hac]; rfl
            clear HTc hac
            go_wp2_with fail
            refine hA.mono ?_
            rintro e w1 ⟨rfl, rfl⟩
            go_wp2
            go_roundw
            case rel => exact ⟨k + 1, a + 1, c', by omega, by go_num, by go_num, HCn, HA3, Nat.succ_le_succ hak', HBd, hw2, hw3⟩
            case measure => simp [intOf]; omega
      · have hx1 : 0 ≤ x ∧ x < 12 := by unfold exB at he; simp at he; exact he
        obtain ⟨j, rfl⟩ : ∃ j : Nat, x = (j : Int) := ⟨x.toNat, by omega⟩
        have hj12 : j < 12 := by omega
        have hnr : normS (j : Int) = j := by unfold normS; rw [he]; rfl
        have d1 : ¬ ((j : Int) < 0) := by omega
        have d2 : ¬ (12 ≤ (j : Int)) := by omega
        clear he hx1
        have hA := refActing_any ((j : Nat) : Int) (wr.setCell ⟨w.heap.size, j, none⟩ (.int .i64 ((c j : Int) + 1)))
        have m0 := (HBx.out.cell j).trans (cntC_at c j hj12)
        have f0 := HBx.out.frozen j
        have hBn : Bx (wr.setCell ⟨w.heap.size, j, none⟩ (.int .i64 ((c j : Int) + 1))) w.heap.size (cntC (bump c j)) := by have := HBx.out.set_ j (.int .i64 ((c j : Int) + 1)); rwa [cntC_bump c j hj12] at this
        have hbn : Below w.heap.size w (wr.setCell ⟨w.heap.size, j, none⟩ (.int .i64 ((c j : Int) + 1))) := HBl.out.setCell (p := ⟨w.heap.size, j, none⟩) (Nat.le_refl _) _
        have HCn : Hid (bump c j = cntN (l.take (k + 1))) := by
          unfold Hid
          funext i
          rw [HT.out i, ← HC.out, hnr]
          unfold bump
          by_cases h : i = j
          · rw [if_pos h, if_pos h.symm]
          · rw [if_neg h, if_neg (Ne.symm h)]
        have HBd : Hid (∀ i, bump c j i ≤ k + 1) := fun i => by have := HCb.out i; unfold bump; split <;> omega
        have hck := HCb.out j
        have HTb := HTa.out
        rw [hnr, ← HAc.out] at HTb
        have HTc := Lib.hid HTb
        clear HTb HTa HT HC hnr HCb HBx HAc
        generalize hbm : bump c j = c' at *
        clear hbm
        generalize c j = ck at *
        have hw2 := Lib.hid hBn
        have hw3 := Lib.hid hbn
        clear hBn hbn
        cases hac : actB ((j : Nat) : Int)
        · rw [hac] at hA
          have HA3 : Hid (a = actN (l.take (k + 1))) := by unfold Hid; rw [HTc.out, hac]; rfl
          clear HTc hac
          go_wp2_with fail
          refine hA.mono ?_
          rintro e w1 ⟨rfl, rfl⟩
          go_wp2
          go_roundw
          case rel => exact ⟨k + 1, a, c', by omega, rfl, by go_num, HCn, HA3, Nat.le_succ_of_le hak', HBd, hw2, hw3⟩
          case measure => simp [intOf]; omega
        · rw [hac] at hA
          have HA3 : Hid (a + 1 = actN (l.take (k + 1))) := by unfold Hid; rw [HTc.out, hac]; rfl
          clear HTc hac
          go_wp2_with fail
          refine hA.mono ?_
          rintro e w1 ⟨rfl, rfl⟩
          go_wp2
          go_roundw
          case rel => exact ⟨k + 1, a + 1, c', by omega, by go_num, by go_num, HCn, HA3, Nat.succ_le_succ hak', HBd, hw2, hw3⟩
          case measure => simp [intOf]; omega
    · have hkl : k = len := by omega
      subst hkl
      have HX2 : Hid (cascade c a k = X) := by
        unfold Hid
        rw [← HX.out, HC.out, HAc.out, List.take_of_length_le (by rw [HL.out]; omega)]
      have hcell := fun j hj => (HBx.out.cell j).trans (cntC_at c j hj)
      have m0 := hcell 0 (by decide)
      have m1 := hcell 1 (by decide)
      have m2 := hcell 2 (by decide)
      have m3 := hcell 3 (by decide)
      have m4 := hcell 4 (by decide)
      have m5 := hcell 5 (by decide)
      have m6 := hcell 6 (by decide)
      have m7 := hcell 7 (by decide)
      have m8 := hcell 8 (by decide)
      have m9 := hcell 9 (by decide)
      have m10 := hcell 10 (by decide)
      have m11 := hcell 11 (by decide)
      unfold cascade at HX2
      clear hcell HC HAc HCb HX HR HA HBx
      generalize c 0 = n0 at *
      generalize c 1 = n1 at *
      generalize c 2 = n2 at *
      generalize c 3 = n3 at *
      generalize c 4 = n4 at *
      generalize c 5 = n5 at *
      generalize c 6 = n6 at *
      generalize c 7 = n7 at *
      generalize c 8 = n8 at *
      generalize c 9 = n9 at *
      generalize c 10 = n10 at *
      generalize c 11 = n11 at *
      by_cases hk0 : k = 0
      · have HX3 : Hid (0 = X) := by unfold Hid; rw [← HX2.out, if_pos hk0]
        have d0 : ((k : Int) == 0) = true := by simp [hk0]
        clear HX2 hk0
        go_wp2
        go_ret
        exact ⟨ret_int HX3.out, HBl.out⟩
      have d0 : ((k : Int) == 0) = false := by simpa using hk0
      by_cases e11 : n11 = k
      · have d1 : ((n11 : Int) == (k : Int)) = true := by simp [e11]
        go_wp2
        all_goals go_ret
        all_goals refine ⟨ret_int ?_, HBl.out⟩
        all_goals refine Eq.trans (Eq.symm ?_) HX2.out
        all_goals repeat (first | rfl | exact if_pos (by omega) | refine (if_neg (by omega)).trans ?_)
      have d1 : ((n11 : Int) == (k : Int)) = false := by simp; omega
      by_cases e0 : n0 = k
      · have d2 : ((n0 : Int) == (k : Int)) = true := by simp [e0]
        go_wp2
        all_goals go_ret
        all_goals refine ⟨ret_int ?_, HBl.out⟩
        all_goals refine Eq.trans (Eq.symm ?_) HX2.out
        all_goals repeat (first | rfl | exact if_pos (by omega) | refine (if_neg (by omega)).trans ?_)
      have d2 : ((n0 : Int) == (k : Int)) = false := by simp; omega
      go_wp2
      all_goals go_ret
      all_goals refine ⟨ret_int ?_, HBl.out⟩
      all_goals refine Eq.trans (Eq.symm ?_) HX2.out
      all_goals repeat (first | rfl | exact if_pos (by omega) | refine (if_neg (by omega)).trans ?_)
end Go.Proofs.YtadindhnaidmeaaDoor.Ch
