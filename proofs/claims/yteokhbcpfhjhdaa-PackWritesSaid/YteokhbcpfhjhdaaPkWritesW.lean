/-
  The walk of PackWrites.
-/
import Derived.Test.YteokhbcpfhjhdaaPkW9
import Derived.Test.YteokhbcpfhjhdaaPkR1
import Derived.Deep.RegionHeld
namespace Go.Proofs.Yteokhbcpfhjhdaa.Pk
open Go.RowKit

def WritesRel (its : List It) (base : Nat) (w : World) (v i : Value) (wr : World) : Prop :=
  ∃ (k : Nat) (A : Option Addr) (c : Nat), i = .int .i64 (k : Int) ∧ k ≤ its.length ∧ v = .slice A (laidL (its.take k)).length c ∧
    wr.ownsRow base 5 1 (.slice A (laidL (its.take k)).length c) (laidL (its.take k)).length (u8C (laidL (its.take k))) ∧ base ≤ wr.heap.size ∧ Below w.heap.size w wr

theorem wr5 : (([] : List UInt8) ++ bs 5) = [10] := by decide
theorem own_first {w : World} {base : Nat} {A : Option Addr} {c : Nat} {b : UInt8} (h : w.ownsRow base 5 1 (.slice A 1 c) 1 (u8C [b])) :
    ∃ g, A = some ⟨g, 0, none⟩ ∧ base ≤ g ∧ w.cell? ⟨g, 0, none⟩ = some (.int .u8 (b.toNat : Int)) ∧ w.frozen? ⟨g, 0, none⟩ = false := by
  rcases h.2 with ⟨_, h0⟩ | ⟨g, cap, cur, hv, hb, hh, _⟩
  · omega
  · injection hv with e1 _ e3
    subst e1
    refine ⟨g, rfl, hb, ?_, ?_⟩
    · have := h.cells (g := g) rfl 0 (.int .u8 (b.toNat : Int)) rfl
      rwa [lit_add] at this
    · simp [World.frozen?, hh]

set_option maxRecDepth 100000 in
set_option maxHeartbeats 8000000 in
theorem writes_small (B : Option Addr) (its : List It) (d : Nat) (w : World) (hi : Its w B its) (hd : its.length ≤ d) (hdm : d ≤ maxLen) (hs : smallB its = true) :
    Calls Try.prog 3 #[.slice B its.length d] w (TruePost w) := by
  obtain ⟨h200, h2000⟩ := smallB_of hs
  have H2 := Lib.hid h2000
  have HS := Lib.hid hs
  clear hs h2000
  go_enter Try.func3, Try.ntmps3
  go_wp2_with fail
  refine (awake_all w).mono ?_
  rintro e w1 ⟨rfl, hb1⟩
  go_wp2_with fail
  refine (small_all B its d w1 (hi.below hb1) hd hdm).mono ?_
  rintro e w' ⟨rfl, rfl⟩
  rw [HS.out]
  go_wp2_with fail
  go_loopw [5, 6] (WritesRel its w1.heap.size w) (fun _ i _ => its.length - (intOf i).toNat)
  case atStart => exact ⟨0, none, 0, rfl, by omega, rfl, World.ownsRow_nil _ _ _ _, Nat.le_refl _, hb1⟩
  case round =>
    obtain ⟨k, A, c, rfl, hk, rfl, ho, hsz, hbw⟩ := hrel
    have hb1s := hb1.size
    by_cases hlt : k < its.length
    · have hir := hi.below hbw
      obtain ⟨ad, rfl, hab, hat, hright⟩ := hir.at_ hlt
      obtain ⟨i0, i1, i2, i3, i4⟩ := hat.cells
      have HT := Lib.hid (List.take_succ_eq_append_getElem hlt)
      have hx2 : its[k].s.size ≤ 2000 := H2.out _ (List.getElem_mem hlt)
      have hxn : i64 its[k].n := hright.2.1
      have hln : (laidL (its.take k)).length ≤ 402000 := by
        have := laidL_len (its.take k) (fun y hy => H2.out y (List.mem_of_mem_take hy))
        rw [List.length_take] at this
        omega
      clear hat hright
      generalize its[k] = x at *
      obtain ⟨xk, xn, xb, xs, xm⟩ := x
      simp only at i0 i1 i2 i3 i4 hx2 hxn
      have HL : Hid (laidL (its.take (k + 1)) = laidL (its.take k) ++ itB ⟨xk, xn, xb, xs, xm⟩) := by unfold Hid; rw [HT.out, laidL_snoc]
      clear HT
      generalize laidL (its.take k) = L at *
      by_cases hk0 : xk = 0 ∨ xk = 3
      · have HI : Hid (itB ⟨xk, xn, xb, xs, xm⟩ = bs xn) := by unfold Hid itB; rw [if_pos hk0]
        rcases hk0 with rfl | rfl
        all_goals
          go_wp2_with fail
          refine (refInt_all w1.heap.size A L c xn wr hxn ho hsz (by omega)).mono ?_
          rintro e w2 ⟨A2, c2, rfl, ho2, hb2⟩
          rw [← HI.out, ← HL.out] at ho2 ⊢
          have hc2 := hbw.trans (hb2.mono hb1s)
          have hs2 := Nat.le_trans hsz hb2.size
          clear ho hb2
          go_wp2
          go_roundw
          case rel => exact ⟨k + 1, A2, c2, by go_num, by omega, rfl, ho2, hs2, hc2⟩
          case measure => simp [intOf]; omega
      · have hk0' : (xk == 0) = false := beq_eq_false_iff_ne.2 (fun h => hk0 (.inl h))
        have hk3' : (xk == 3) = false := beq_eq_false_iff_ne.2 (fun h => hk0 (.inr h))
        by_cases hk1 : xk = 1
        · subst hk1
          have HI : Hid (itB ⟨1, xn, xb, xs, xm⟩ = [if xb then 1 else 0]) := by unfold Hid itB; simp
          clear hk0 hk0' hk3'
          go_wp2_with fail
          refine (refBool_all w1.heap.size A L c xb wr ho hsz (by omega)).mono ?_
          rintro e w2 ⟨A2, c2, rfl, ho2, hb2⟩
          rw [← HI.out, ← HL.out] at ho2 ⊢
          have hc2 := hbw.trans (hb2.mono hb1s)
          have hs2 := Nat.le_trans hsz hb2.size
          clear ho hb2
          go_wp2
          go_roundw
          case rel => exact ⟨k + 1, A2, c2, by go_num, by omega, rfl, ho2, hs2, hc2⟩
          case measure => simp [intOf]; omega
        · have hk1' : (xk == 1) = false := beq_eq_false_iff_ne.2 hk1
          by_cases hk2 : xk = 2
          · subst hk2
            have HI : Hid (itB ⟨2, xn, xb, xs, xm⟩ = bs (xs.size : Int) ++ xs.data.toList) := by unfold Hid itB; simp
            clear hk0 hk0' hk3' hk1 hk1'
            go_wp2_with fail
            refine (refText_all w1.heap.size A L c xs wr ho hsz (by omega)).mono ?_
            rintro e w2 ⟨A2, c2, rfl, ho2, hb2⟩
            rw [List.append_assoc, ← HI.out, ← HL.out] at ho2 ⊢
            have hc2 := hbw.trans (hb2.mono hb1s)
            have hs2 := Nat.le_trans hsz hb2.size
            clear ho hb2
            go_wp2
            go_roundw
            case rel => exact ⟨k + 1, A2, c2, by go_num, by omega, rfl, ho2, hs2, hc2⟩
            case measure => simp [intOf]; omega
          · have hk2' : (xk == 2) = false := beq_eq_false_iff_ne.2 hk2
            have HI : Hid (itB ⟨xk, xn, xb, xs, xm⟩ = []) := by unfold Hid itB; rw [if_neg hk0, if_neg hk1, if_neg hk2]
            have HX : Hid (laidL (its.take (k + 1)) = L) := by unfold Hid; rw [HL.out, HI.out, List.append_nil]
            clear hk0 hk1 hk2
            go_wp2
            go_roundw
            case rel => exact ⟨k + 1, A, c, by go_num, by omega, by rw [HX.out], by rw [HX.out]; exact ho, hsz, hbw⟩
            case measure => simp [intOf]; omega
    · rw [List.take_of_length_le (by omega)] at ho ⊢
      have hln : (laidL its).length ≤ 402000 := by
        have := laidL_len its (fun y hy => H2.out y hy)
        omega
      have hL := Lie.of_own ho
      have hw2 := Wr.new wr
      have hb2 : Below wr.heap.size wr (wr.alloc (.cells #[.slice none 0 0] 33)) := (Below.refl _ wr).alloc (Nat.le_refl _) _
      clear ho hk hb1 hb1s
      go_wp2_with fail
      refine (wint_all wr.heap.size [] 5 _ hw2 (by unfold i64; omega) (by simp)).mono ?_
      rintro e w3 ⟨rfl, hw3, hb3⟩
      rw [wr5] at hw3
      have hc3 := hb2.trans hb3
      clear hw2 hb2 hb3
      go_wp2_with fail
      refine (wbytes_all wr.heap.size [10] w3 hw3 (by decide)).mono ?_
      rintro e w4 ⟨A4, c4, rfl, ho4, hb4⟩
      obtain ⟨ga, rfl, hga, hcell, hfr⟩ := own_first (b := 10) ho4
      have hw5 := hw3.below (hb4.setCell (p := ⟨ga, 0, none⟩) hga (.int .u8 7))
      have hc5 := hc3.trans ((hb4.setCell (p := ⟨ga, 0, none⟩) hga (.int .u8 7)).mono hc3.size)
      clear hw3 ho4 hb4 hc3
      simp only [List.length_cons, List.length_nil]
      go_wp2_with fail
      refine (wbytes_all wr.heap.size [10] _ hw5 (by decide)).mono ?_
      rintro e w6 ⟨A6, c6, rfl, ho6, hb6⟩
      have hc6 := hc5.trans (hb6.mono hc5.size)
      have hL6 := Lie.of_own ho6
      have hLw := hL.below hc6
      have hbw6 := hbw.trans (hc6.mono hbw.size)
      have hi6 := hi.below hbw6
      have hcvb : (convert 25 9 (.slice A6 1 c6)).run Try.prog w6.drew = .ok (.string ⟨#[10]⟩) w6.drew := conv_lie c6 hL6.drew
      have hcvw : (convert 25 9 (.slice A (laidL its).length c)).run Try.prog w6.drew = .ok (.string ⟨(laidL its).toArray⟩) w6.drew := conv_lie c hLw.drew
      clear ho6 hb6 hc5 hw5 hL hcell hfr hc6
      simp only [List.length_cons, List.length_nil]
      go_wp2_with fail
      go_region_held (fun w' => (convert 25 9 (.slice A (laidL its).length c)).run Try.prog w' = .ok (.string ⟨(laidL its).toArray⟩) w' ∧ (convert 25 9 (.slice A6 1 c6)).run Try.prog w' = .ok (.string ⟨#[10]⟩) w') (first | exact ⟨hcvw, hcvb⟩ | exact ⟨hcw7, hcb7⟩ | assumption)
        (first | (go_at_call 16; refine (laid_all B its d _ (by exact hi6.below (Below.refl _ _).drew) (by exact HS.out)).mono ?_; rintro e w7 ⟨A7, c7, rfl, ho7, hb7⟩; have hcv7 := conv_lie c7 (Lie.of_own ho7); have hcw7 := conv_lie c (hLw.drew.below hb7); have hcb7 : (convert 25 9 (.slice A6 1 c6)).run Try.prog w7 = .ok (.string ⟨#[10]⟩) w7 := conv_lie c6 (hL6.drew.below hb7); have hc7 := hbw6.drew.trans (hb7.mono (by exact hbw6.size))))
      all_goals go_wp2
      all_goals go_ret
      all_goals exact ⟨rfl, hc7⟩

theorem writes_walk (B : Option Addr) (its : List It) (d : Nat) (w : World) (hd : its.length ≤ d) (hdm : d ≤ maxLen) (hi : Its w B its) :
    Calls Try.prog 3 #[.slice B its.length d] w (TruePost w) := by
  rcases hs : smallB its with _ | _
  · have HS := Lib.hid hs
    clear hs
    go_enter Try.func3, Try.ntmps3
    go_wp2_with fail
    refine (awake_all w).mono ?_
    rintro e w1 ⟨rfl, hb1⟩
    go_wp2_with fail
    refine (small_all B its d w1 (hi.below hb1) hd hdm).mono ?_
    rintro e w' ⟨rfl, rfl⟩
    rw [HS.out]
    go_wp2
    go_ret
    exact ⟨rfl, hb1⟩
  · exact writes_small B its d w hi hd hdm hs
end Go.Proofs.Yteokhbcpfhjhdaa.Pk
