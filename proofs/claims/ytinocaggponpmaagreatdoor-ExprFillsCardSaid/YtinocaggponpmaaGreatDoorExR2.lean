/-
  Contracts of the reader's operator; node, number, name.
-/
import Derived.Test.YtinocaggponpmaaGreatDoorExR1
namespace Go.Proofs.YtinocaggponpmaaGreatDoor.Ep
open Go.RowKit Lx

theorem idx_ops (k : Nat) (h : k < 17) (W : World) : (Instr.index 82 (.agg opsC) (.int .i64 k)).run Tryz.prog W = .ok (.agg #[.string ⟨(opS k).toArray⟩, .int .i64 (opL k), .int .i64 (opK k)]) W := by
  have : k = 0 ∨ k = 1 ∨ k = 2 ∨ k = 3 ∨ k = 4 ∨ k = 5 ∨ k = 6 ∨ k = 7 ∨ k = 8 ∨ k = 9 ∨ k = 10 ∨ k = 11 ∨ k = 12 ∨ k = 13 ∨ k = 14 ∨ k = 15 ∨ k = 16 := by omega
  rcases this with rfl | rfl | rfl | rfl | rfl | rfl | rfl | rfl | rfl | rfl | rfl | rfl | rfl | rfl | rfl | rfl | rfl <;> (simp [Instr.index, go_sem, opsC, opsT, opS, opL, opK, opAt]; done)

theorem operGo_step (ts : List Tok) (lv k : Int) (j : Nat) (h : j < 17) :
    operGo ts lv k (opsT.drop j) j = if (decide (opL j = lv) && decide (opK j = k) && sgnT ts (opS j)) = true then (j : Int) else operGo ts lv k (opsT.drop (j + 1)) (j + 1) := by
  have hl : j < opsT.length := h
  rw [List.drop_eq_getElem_cons hl, operGo]
  have e : opAt (j : Int) = opsT[j] := by
    unfold opAt; rw [Int.toNat_natCast, List.getD_eq_getElem?_getD, List.getElem?_eq_getElem hl]; rfl
  unfold opL opK opS
  rw [e]
theorem operGo_end (ts : List Tok) (lv k : Int) (j : Nat) (h : ¬ j < 17) : operGo ts lv k (opsT.drop j) j = -1 := by
  rw [List.drop_eq_nil_of_le (show opsT.length ≤ j by have : opsT.length = 17 := rfl; omega), operGo]
theorem operGo_bd (ts : List Tok) (lv k : Int) : ∀ (l : List (List UInt8 × Int × Int)) (i : Nat), -1 ≤ operGo ts lv k l i ∧ operGo ts lv k l i < i + l.length
  | [], i => by rw [operGo]; simp; omega
  | o :: l, i => by
    rw [operGo]
    have := operGo_bd ts lv k l (i + 1)
    split
    · simp; omega
    · simp; omega
theorem operT_bd (ts : List Tok) (lv k : Int) : -1 ≤ operT ts lv k ∧ operT ts lv k < 17 := by
  have := operGo_bd ts lv k opsT 0
  have hl : opsT.length = 17 := rfl
  unfold operT
  omega

set_option maxHeartbeats 2000000 in
theorem oper_any (p g c : Nat) (L : List Tok) (i tk : Nat) (lv k : Int) (w : World) (h : Rd p g c L i tk w) :
    Calls Tryz.prog 113 #[.pointer (some ⟨p, 0, none⟩), .int .i64 lv, .int .i64 k] w fun e w' => e = .returned (.int .i64 (operT (L.drop i) lv k)) ∧ Below w.heap.size w w' := by
  obtain ⟨T, fz, hO⟩ := h.ops.blk
  go_enter Tryz.func113, Tryz.ntmps113
  go_wp2_with (refine wpList_load_row rfl 82 _ rfl 0 rfl _ opsC fz _ hO Tryz.underlying82 rfl (by kernel_rfl) ?_)
  clear hO
  go_loopw [10] (fun x wr => ∃ j : Nat, j ≤ 17 ∧ x = .int .i64 j ∧ Hid (operGo (L.drop i) lv k (opsT.drop j) j = operT (L.drop i) lv k) ∧ Below w.heap.size w wr) (fun x _ => 17 - (intOf x).toNat)
  case atStart => exact ⟨0, by omega, rfl, rfl, Below.refl _ _⟩
  case round =>
    obtain ⟨j, hj, rfl, HS, hbr⟩ := hrel
    by_cases hlt : j < 17
    · have hix := idx_ops j hlt
      have HG := Lib.hid (operGo_step (L.drop i) lv k j hlt)
      have hr := h.below hbr (Nat.le_refl _)
      generalize opL (j : Int) = x at *
      generalize opK (j : Int) = y at *
      generalize opS (j : Int) = s at *
      by_cases h1 : x = lv
      · have d1 : (x == lv) = true := by simpa using h1
        by_cases h2 : y = k
        · have d2 : (y == k) = true := by simpa using h2
          have HS2 : Hid (operT (L.drop i) lv k = if sgnT (L.drop i) s = true then (j : Int) else operGo (L.drop i) lv k (opsT.drop (j + 1)) (j + 1)) := by
            unfold Hid; rw [← HS.out, HG.out]; simp [h1, h2]
          clear h1 h2 HG HS
          go_wp2_with fail
          refine (sgn_any p g c L i tk s _ (hr.alloc _)).mono ?_
          rintro e w2 ⟨rfl, hb2⟩
          have hbr2 : Below w.heap.size w w2 := (hbr.alloc hbr.size _).trans (hb2.mono (by have := hbr.size; simp; omega))
          clear hb2
          generalize hsg : sgnT (L.drop i) s = sg at *
          cases sg
          · have HS3 : Hid (operGo (L.drop i) lv k (opsT.drop (j + 1)) (j + 1) = operT (L.drop i) lv k) := by unfold Hid; rw [HS2.out]; simp
            clear HS2 hsg
            go_wp2
            go_roundw
            case rel => exact ⟨j + 1, by omega, by go_num, HS3, hbr2⟩
            case measure => simp [intOf]; omega
          · have HS3 : Hid ((j : Int) = operT (L.drop i) lv k) := by unfold Hid; rw [HS2.out]; simp
            clear HS2 hsg
            go_wp2
            go_ret
            exact ⟨ret_int HS3.out, hbr2⟩
        · have d2 : (y == k) = false := by simpa using h2
          have HS3 : Hid (operGo (L.drop i) lv k (opsT.drop (j + 1)) (j + 1) = operT (L.drop i) lv k) := by
            unfold Hid; rw [← HS.out, HG.out]; simp [h2]
          clear h1 h2 HG HS
          go_wp2
          go_roundw
          case rel => exact ⟨j + 1, by omega, by go_num, HS3, hbr.alloc hbr.size _⟩
          case measure => simp [intOf]; omega
      · have d1 : (x == lv) = false := by simpa using h1
        have HS3 : Hid (operGo (L.drop i) lv k (opsT.drop (j + 1)) (j + 1) = operT (L.drop i) lv k) := by
          unfold Hid; rw [← HS.out, HG.out]; simp [h1]
        clear h1 HG HS
        go_wp2
        go_roundw
        case rel => exact ⟨j + 1, by omega, by go_num, HS3, hbr.alloc hbr.size _⟩
        case measure => simp [intOf]; omega
    · have HS3 : Hid (-1 = operT (L.drop i) lv k) := by
        unfold Hid; rw [← HS.out, operGo_end _ _ _ _ hlt]
      go_wp2
      go_ret
      exact ⟨ret_int HS3.out, hbr⟩

set_option maxHeartbeats 1000000 in
theorem node_any (op : Int) (a : Option Addr) (n c : Nat) (w : World) :
    Calls Tryz.prog 58 #[.int .i64 op, .slice a n c] w fun e w' => e = .returned (exV op 0 [] a n c) ∧ Below w.heap.size w w' := by
  go_enter Tryz.func58, Tryz.ntmps58
  go_wp2
  exact bodyPost_ret (v := exV op 0 [] a n c) (by simp [results, Tryz.results58, go_sem, exV]) rfl ⟨rfl, (Below.refl _ _).alloc (Nat.le_refl _) _⟩
set_option maxHeartbeats 1000000 in
theorem num_any (n : Int) (w : World) :
    Calls Tryz.prog 94 #[.int .i64 n] w fun e w' => e = .returned (exV 0 n [] none 0 0) ∧ Below w.heap.size w w' := by
  go_enter Tryz.func94, Tryz.ntmps94
  go_wp2_with fail
  refine (node_any _ _ _ _ _).mono ?_
  rintro e w1 ⟨rfl, hb⟩
  have hbw := below_new hb
  have hx := (Box.new w 25 _).below hb (by simp)
  obtain ⟨c0, c1, c2, c3, f0, f1, f2, f3⟩ := hx.four
  unfold exV
  have hsz : w.heap.size < w1.heap.size := by have := hb.size; simp at this; omega
  clear hx hb
  go_wp2
  exact bodyPost_ret (v := exV 0 n [] none 0 0) (by simp [results, Tryz.results94, go_sem, exV, c0, c1, c2, c3, hsz]) rfl ⟨rfl, (below_set4 hbw (Nat.le_refl _) _ _ _ _).alloc (below_set4 hbw (Nat.le_refl _) _ _ _ _).size _⟩
set_option maxHeartbeats 1000000 in
theorem nam_any (s : List UInt8) (w : World) :
    Calls Tryz.prog 97 #[.string ⟨s.toArray⟩] w fun e w' => e = .returned (exV 1 0 s none 0 0) ∧ Below w.heap.size w w' := by
  go_enter Tryz.func97, Tryz.ntmps97
  go_wp2_with fail
  refine (node_any _ _ _ _ _).mono ?_
  rintro e w1 ⟨rfl, hb⟩
  have hbw := below_new hb
  have hx := (Box.new w 25 _).below hb (by simp)
  obtain ⟨c0, c1, c2, c3, f0, f1, f2, f3⟩ := hx.four
  unfold exV
  have hsz : w.heap.size < w1.heap.size := by have := hb.size; simp at this; omega
  clear hx hb
  go_wp2
  exact bodyPost_ret (v := exV 1 0 s none 0 0) (by simp [results, Tryz.results97, go_sem, exV, c0, c1, c2, c3, hsz]) rfl ⟨rfl, (below_set4 hbw (Nat.le_refl _) _ _ _ _).alloc (below_set4 hbw (Nat.le_refl _) _ _ _ _).size _⟩
end Go.Proofs.YtinocaggponpmaaGreatDoor.Ep
