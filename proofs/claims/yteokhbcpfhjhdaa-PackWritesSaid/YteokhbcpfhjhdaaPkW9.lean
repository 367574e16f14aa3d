/-
  Contracts of the laws' own small and laid.
-/
import Derived.Test.YteokhbcpfhjhdaaPkW8
import Derived.Test.YteokhbcpfhjhdaaPkO
namespace Go.Proofs.Yteokhbcpfhjhdaa.Pk
open Go.RowKit

def smallB (l : List It) : Bool := decide (l.length ≤ 200) && l.all fun x => decide (x.s.size ≤ 2000)
theorem smallB_of {l : List It} (h : smallB l = true) : l.length ≤ 200 ∧ ∀ x ∈ l, x.s.size ≤ 2000 := by
  simp only [smallB, Bool.and_eq_true, decide_eq_true_eq, List.all_eq_true] at h
  exact h

def SmallRel (its : List It) (i : Value) : Prop := ∃ k : Nat, i = .int .i64 (k : Int) ∧ k ≤ its.length ∧ (its.take k).all (fun x => decide (x.s.size ≤ 2000)) = true

set_option maxHeartbeats 2000000 in
theorem small_all (B : Option Addr) (its : List It) (d : Nat) (w : World) (hi : Its w B its) (_hd : its.length ≤ d) (_hdm : d ≤ maxLen) :
    Calls Try.prog 10 #[.slice B its.length d] w fun e w' => e = .returned (.bool (smallB its)) ∧ w = w' := by
  rcases Nat.lt_or_ge 200 its.length with h | h
  · have g1 : decide ((200 : Int) < (its.length : Int)) = true := by simp; omega
    have HB : Hid (smallB its = false) := by unfold Hid smallB; simp; intro h2; omega
    go_enter Try.func10, Try.ntmps10
    go_wp2
    go_ret
    exact ⟨ret_bool HB.out.symm, rfl⟩
  · have g1 : decide ((200 : Int) < (its.length : Int)) = false := by simp; omega
    go_enter Try.func10, Try.ntmps10
    go_wp2
    go_loop [3] (SmallRel its) (fun i => its.length - (intOf i).toNat)
    case atStart => exact ⟨0, rfl, by omega, rfl⟩
    case round =>
      obtain ⟨k, rfl, hk, hall⟩ := hrel
      have HA := Lib.hid hall
      clear hall
      by_cases hlt : k < its.length
      · obtain ⟨ad, rfl, hab, hat, hright⟩ := hi.at_ hlt
        obtain ⟨i0, i1, i2, i3, i4⟩ := hat.cells
        have HT := Lib.hid (List.take_succ_eq_append_getElem hlt)
        have HM := Lib.hid (List.getElem_mem hlt)
        have hsz : its[k].s.size ≤ 9223372036854775807 := hright.2.2.1
        clear hat hright
        generalize its[k] = x at *
        by_cases hs : x.s.size ≤ 2000
        · have g2 : decide ((2000 : Int) < (x.s.size : Int)) = false := by simp; omega
          have HN : Hid ((its.take (k + 1)).all (fun x => decide (x.s.size ≤ 2000)) = true) := by
            unfold Hid; rw [HT.out, List.all_append, HA.out]; simp [hs]
          go_wp2
          go_round
          case rel => exact ⟨k + 1, by go_num, by omega, HN.out⟩
          case measure => simp [intOf]; omega
        · have g2 : decide ((2000 : Int) < (x.s.size : Int)) = true := by simp; omega
          have HB : Hid (smallB its = false) := by
            unfold Hid
            rcases hb : smallB its with _ | _
            · rfl
            · exact absurd ((smallB_of hb).2 x HM.out) hs
          go_wp2
          go_ret
          exact ⟨ret_bool HB.out.symm, rfl⟩
      · have HB : Hid (smallB its = true) := by
          have h2 := HA.out
          rw [List.take_of_length_le (by omega)] at h2
          unfold Hid smallB
          rw [h2]
          simp [h]
        go_wp2
        go_ret
        exact ⟨ret_bool HB.out.symm, rfl⟩

/-- The bytes of a thing, and of things. -/
def itB (x : It) : List UInt8 :=
  if x.kind = 0 ∨ x.kind = 3 then bs x.n else if x.kind = 1 then [if x.b then 1 else 0] else if x.kind = 2 then bs (x.s.size : Int) ++ x.s.data.toList else []
def laidL (l : List It) : List UInt8 := l.flatMap itB
theorem laidL_snoc (l : List It) (x : It) : laidL (l ++ [x]) = laidL l ++ itB x := by simp [laidL]
theorem itB_len (x : It) (h : x.s.size ≤ 2000) : (itB x).length ≤ 2010 := by
  unfold itB
  have := bs_len x.n
  have := bs_len (x.s.size : Int)
  split
  · omega
  · split
    · simp
    · split
      · simp; omega
      · simp
theorem laidL_len (l : List It) (h : ∀ x ∈ l, x.s.size ≤ 2000) : (laidL l).length ≤ 2010 * l.length := by
  induction l with
  | nil => simp [laidL]
  | cons x l ih =>
    have h1 := itB_len x (h x (by simp))
    have h2 := ih (fun y hy => h y (by simp [hy]))
    simp only [laidL, List.flatMap_cons, List.length_append, List.length_cons] at h2 ⊢
    omega

def LaidRel (its : List It) (w : World) (i : Value) (wr : World) : Prop :=
  ∃ k : Nat, i = .int .i64 (k : Int) ∧ k ≤ its.length ∧ Wr wr w.heap.size (laidL (its.take k)) ∧ Below w.heap.size w wr

set_option maxRecDepth 100000 in
set_option maxHeartbeats 4000000 in
theorem laid_all (B : Option Addr) (its : List It) (d : Nat) (w : World) (hi : Its w B its) (hs : smallB its = true) :
    Calls Try.prog 16 #[.slice B its.length d] w (ClonePost (laidL its) w) := by
  obtain ⟨h200, h2000⟩ := smallB_of hs
  have H2 := Lib.hid h2000
  clear hs h2000
  go_enter Try.func16, Try.ntmps16
  go_wp2_with fail
  go_loopw [4] (LaidRel its w) (fun i _ => its.length - (intOf i).toNat)
  case atStart => exact ⟨0, rfl, by omega, Wr.new w, (Below.refl _ w).alloc (Nat.le_refl _) _⟩
  case round =>
    obtain ⟨k, rfl, hk, hw, hbw⟩ := hrel
    by_cases hlt : k < its.length
    · have hir := hi.below hbw
      obtain ⟨ad, rfl, hab, hat, hright⟩ := hir.at_ hlt
      obtain ⟨i0, i1, i2, i3, i4⟩ := hat.cells
      have HT := Lib.hid (List.take_succ_eq_append_getElem hlt)
      have hx2 : its[k].s.size ≤ 2000 := H2.out _ (List.getElem_mem hlt)
      have hxn : i64 its[k].n := hright.2.1
      have hln : (laidL (its.take k)).length ≤ 402000 := by
        have := laidL_len (its.take k) (fun y hy => H2.out y (List.mem_of_mem_take hy))
        rw [List.length_take] at this
        omega
      clear hat hright
      generalize its[k] = x at *
      obtain ⟨xk, xn, xb, xs, xm⟩ := x
      simp only at i0 i1 i2 i3 i4 hx2 hxn
      have HL : Hid (laidL (its.take (k + 1)) = laidL (its.take k) ++ itB ⟨xk, xn, xb, xs, xm⟩) := by unfold Hid; rw [HT.out, laidL_snoc]
      clear HT
      generalize laidL (its.take k) = L at *
      by_cases hk0 : xk = 0 ∨ xk = 3
      · have HI : Hid (itB ⟨xk, xn, xb, xs, xm⟩ = bs xn) := by unfold Hid itB; rw [if_pos hk0]
        rcases hk0 with rfl | rfl
        all_goals
          go_wp2_with fail
          refine (wint_all w.heap.size L xn wr hw hxn (by omega)).mono ?_
          rintro e w2 ⟨rfl, hw2, hb2⟩
          rw [← HI.out, ← HL.out] at hw2
          have hc2 := hbw.trans hb2
          clear hw hb2
          go_wp2
          go_roundw
          case rel => exact ⟨k + 1, by go_num, by omega, hw2, hc2⟩
          case measure => simp [intOf]; omega
      · have hk0' : (xk == 0) = false := beq_eq_false_iff_ne.2 (fun h => hk0 (.inl h))
        have hk3' : (xk == 3) = false := beq_eq_false_iff_ne.2 (fun h => hk0 (.inr h))
        by_cases hk1 : xk = 1
        · subst hk1
          have HI : Hid (itB ⟨1, xn, xb, xs, xm⟩ = [if xb then 1 else 0]) := by unfold Hid itB; simp
          clear hk0 hk0' hk3'
          go_wp2_with fail
          refine (wbool_all w.heap.size L xb wr hw (by omega)).mono ?_
          rintro e w2 ⟨rfl, hw2, hb2⟩
          rw [← HI.out, ← HL.out] at hw2
          have hc2 := hbw.trans hb2
          clear hw hb2
          go_wp2
          go_roundw
          case rel => exact ⟨k + 1, by go_num, by omega, hw2, hc2⟩
          case measure => simp [intOf]; omega
        · have hk1' : (xk == 1) = false := beq_eq_false_iff_ne.2 hk1
          by_cases hk2 : xk = 2
          · subst hk2
            have HI : Hid (itB ⟨2, xn, xb, xs, xm⟩ = bs (xs.size : Int) ++ xs.data.toList) := by unfold Hid itB; simp
            clear hk0 hk0' hk3' hk1 hk1'
            go_wp2_with fail
            refine (wtext_all w.heap.size L xs wr hw (by omega)).mono ?_
            rintro e w2 ⟨rfl, hw2, hb2⟩
            rw [List.append_assoc, ← HI.out, ← HL.out] at hw2
            have hc2 := hbw.trans hb2
            clear hw hb2
            go_wp2
            go_roundw
            case rel => exact ⟨k + 1, by go_num, by omega, hw2, hc2⟩
            case measure => simp [intOf]; omega
          · have hk2' : (xk == 2) = false := beq_eq_false_iff_ne.2 hk2
            have HI : Hid (itB ⟨xk, xn, xb, xs, xm⟩ = []) := by unfold Hid itB; rw [if_neg hk0, if_neg hk1, if_neg hk2]
            have hw2 := hw
            rw [← List.append_nil L, ← HI.out, ← HL.out] at hw2
            clear hk0 hk1 hk2 hw
            go_wp2
            go_roundw
            case rel => exact ⟨k + 1, by go_num, by omega, hw2, hbw⟩
            case measure => simp [intOf]; omega
    · have hw2 := hw
      rw [List.take_of_length_le (by omega)] at hw2
      have hln : (laidL its).length ≤ 402000 := by
        have := laidL_len its (fun y hy => H2.out y hy)
        omega
      clear hw
      go_wp2_with fail
      refine (wbytes_all w.heap.size (laidL its) wr hw2 (by omega)).mono ?_
      rintro e w3 ⟨A3, c3, rfl, ho3, hb3⟩
      go_wp2
      go_ret
      exact ⟨A3, c3, rfl, own_less ho3 hbw.size, hbw.trans (hb3.mono hbw.size)⟩
end Go.Proofs.Yteokhbcpfhjhdaa.Pk
