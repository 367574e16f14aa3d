/-
  The walk of PackBack.
-/
import Derived.Test.YteokhbcpfhjhdaaPkTk
namespace Go.Proofs.Yteokhbcpfhjhdaa.Pk
open Go.RowKit

theorem part_not {its : List It} {k : Nat} (h : k < (laidL its).length) : takenB ((laidL its).take k) its = false := by
  rcases hb : takenB ((laidL its).take k) its with _ | _
  · rfl
  · have e := congrArg List.length (taken_laid hb)
    rw [List.length_take] at e
    omega

set_option maxRecDepth 100000 in
set_option maxHeartbeats 4000000 in
theorem back_small (B : Option Addr) (its : List It) (d : Nat) (cut : Int) (w : World) (hi : Its w B its) (hd : its.length ≤ d) (hdm : d ≤ maxLen) (hs : smallB its = true) :
    Calls Try.prog 5 #[.slice B its.length d, .int .i64 cut] w (TruePost w) := by
  obtain ⟨h200, h2000⟩ := smallB_of hs
  have HW := Lib.hid (laid_taken its (fun x hx => ⟨hi.1 x hx, h2000 x hx⟩))
  have HS := Lib.hid hs
  have hln : (laidL its).length ≤ 402000 := by
    have := laidL_len its h2000
    omega
  clear hs h2000
  rcases Nat.lt_or_ge 60 its.length with h60 | h60
  · have g1 : decide ((60 : Int) < (its.length : Int)) = true := by simp; omega
    go_enter Try.func5, Try.ntmps5
    go_wp2_with fail
    refine (awake_all w).mono ?_
    rintro e w1 ⟨rfl, hb1⟩
    go_wp2_with fail
    refine (small_all B its d w1 (hi.below hb1) hd hdm).mono ?_
    rintro e w' ⟨rfl, rfl⟩
    rw [HS.out]
    go_wp2
    go_ret
    exact ⟨rfl, hb1⟩
  · have g1 : decide ((60 : Int) < (its.length : Int)) = false := by simp; omega
    have HP := Lib.hid (fun k (h : k < (laidL its).length) => part_not (its := its) (k := k) h)
    go_enter Try.func5, Try.ntmps5
    go_wp2_with fail
    refine (awake_all w).mono ?_
    rintro e w1 ⟨rfl, hb1⟩
    go_wp2_with fail
    refine (small_all B its d w1 (hi.below hb1) hd hdm).mono ?_
    rintro e w' ⟨rfl, rfl⟩
    rw [HS.out]
    go_wp2_with fail
    refine (laid_all B its d w1 (hi.below hb1) HS.out).mono ?_
    rintro e w2 ⟨A, c, rfl, ho2, hb2⟩
    have hc2 := hb1.trans (hb2.mono hb1.size)
    have hL2 := Lie.of_own ho2
    have hcc := (Rr.of_own ho2).1
    clear ho2 hb2
    rcases Nat.lt_or_ge 4000 (laidL its).length with h4 | h4
    · have g2 : decide ((4000 : Int) < ((laidL its).length : Int)) = true := by simp; omega
      go_wp2
      go_ret
      exact ⟨rfl, hc2⟩
    · have g2 : decide ((4000 : Int) < ((laidL its).length : Int)) = false := by simp; omega
      go_wp2_with fail
      refine (taken_all A (laidL its) c B its d w2 hL2 (by omega) (hi.below hc2) hd hdm).mono ?_
      rintro e w3 ⟨rfl, hb3⟩
      rw [HW.out]
      have hc3 := hc2.trans (hb3.mono hc2.size)
      have hL3 := hL2.below hb3
      clear hL2 hb3 hc2 g2
      by_cases h0 : cut < 0
      · have g3 : decide (cut < 0) = true := by simpa using h0
        go_wp2
        go_ret
        exact ⟨rfl, hc3⟩
      · have g3 : decide (cut < 0) = false := by simpa using h0
        obtain ⟨k, rfl⟩ : ∃ k : Nat, cut = (k : Int) := ⟨cut.toNat, by omega⟩
        by_cases hk : (laidL its).length ≤ k
        · have g4 : decide (((laidL its).length : Int) ≤ (k : Int)) = true := by simp; omega
          go_wp2
          go_ret
          exact ⟨rfl, hc3⟩
        · have g4 : decide (((laidL its).length : Int) ≤ (k : Int)) = false := by simp; omega
          have HN := Lib.hid (HP.out k (by omega))
          have hsl := slice_to A (laidL its).length c k (by omega)
          have hLk := hL3.take k
          have hlk : ((laidL its).take k).length = k := by rw [List.length_take]; omega
          have HK := Lib.hid hlk
          clear hlk
          go_wp2_with fail
          have hct := taken_all A ((laidL its).take k) c B its d w3 hLk (by rw [HK.out]; omega) (hi.below hc3) hd hdm
          rw [HK.out] at hct
          refine hct.mono ?_
          rintro e w4 ⟨rfl, hb4⟩
          rw [HN.out]
          clear hct
          go_wp2
          go_ret
          exact ⟨rfl, hc3.trans (hb4.mono hc3.size)⟩

theorem back_walk (B : Option Addr) (its : List It) (d : Nat) (cut : Int) (w : World) (hd : its.length ≤ d) (hdm : d ≤ maxLen) (hi : Its w B its) (_hc : i64 cut) :
    Calls Try.prog 5 #[.slice B its.length d, .int .i64 cut] w (TruePost w) := by
  rcases hs : smallB its with _ | _
  · have HS := Lib.hid hs
    clear hs
    go_enter Try.func5, Try.ntmps5
    go_wp2_with fail
    refine (awake_all w).mono ?_
    rintro e w1 ⟨rfl, hb1⟩
    go_wp2_with fail
    refine (small_all B its d w1 (hi.below hb1) hd hdm).mono ?_
    rintro e w' ⟨rfl, rfl⟩
    rw [HS.out]
    go_wp2
    go_ret
    exact ⟨rfl, hb1⟩
  · exact back_small B its d cut w hi hd hdm hs
end Go.Proofs.Yteokhbcpfhjhdaa.Pk
