/-
  The walk of PackSticks.
-/
import Derived.Test.YteokhbcpfhjhdaaPkW8
import Derived.Test.YteokhbcpfhjhdaaPkO
namespace Go.Proofs.Yteokhbcpfhjhdaa.Pk
open Go.RowKit

theorem dec_stick (l : List UInt8) : dec (128 :: 0 :: l) = none := by
  have h : grp 10 (128 :: 0 :: l) = some [128, 0] := rfl
  unfold dec
  rw [h]
  rfl
theorem rInt_stick (l : List UInt8) : rInt (128 :: 0 :: l) false = (0, 128 :: 0 :: l, true) := by
  unfold rInt
  rw [dec_stick]
  rfl

theorem own_two (w : World) : (w.alloc (.cells #[.int .u8 128, .int .u8 0] 5)).ownsRow w.heap.size 5 1 (.slice (some ⟨w.heap.size, 0, none⟩) 2 2) 2 (u8C [128, 0]) :=
  ⟨rfl, .inr ⟨w.heap.size, 2, #[.int .u8 128, .int .u8 0], rfl, Nat.le_refl _, heap_alloc_new w _, Nat.le_refl _, by unfold maxLen; omega, rfl, rfl⟩⟩

def StickRel (S : Nat → Prop) (l0 : List UInt8) (g : Nat) (len : Nat) (w : World) (n i : Value) (wr : World) : Prop :=
  ∃ k : Nat, i = .int .i64 (k : Int) ∧ k ≤ len ∧ n = .int .i64 0 ∧ Rr 61 S wr g l0 true ∧ Below w.heap.size w wr

set_option maxRecDepth 100000 in
set_option maxHeartbeats 4000000 in
theorem sticks_short (A : Option Addr) (l : List UInt8) (c : Nat) (B : Option Addr) (its : List It) (d : Nat) (w : World) (hl : Lie w A l) (hi : Its w B its) (h2 : l.length ≤ 2000) (h50 : its.length ≤ 50) :
    Calls Try.prog 8 #[.slice A l.length c, .slice B its.length d] w (TruePost w) := by
  have g1 : decide ((2000 : Int) < (l.length : Int)) = false := by simp; omega
  have g2 : decide ((50 : Int) < (its.length : Int)) = false := by simp; omega
  go_enter Try.func8, Try.ntmps8
  go_wp2_with fail
  refine (awake_all w).mono ?_
  rintro e w1 ⟨rfl, hb1⟩
  have hl1 := (hl.below hb1).alloc (.cells #[.int .u8 128, .int .u8 0] 5)
  go_wp2_with (at_builtin; refine wpList_append_lie rfl (.tmp 25) (.tmp 26) rfl rfl (own_two w1) rfl hl1 ?c1 ?c2 ?c3 ?_)
  case c1 => unfold maxLen; omega
  case c2 => omega
  case c3 => simp
  intro A2 c2 w2 ho2 hg2 hat2
  have hb2 : Below w.heap.size w w2 := (hb1.alloc hb1.size _).grown hg2 (by simp; have := hb1.size; omega) (fun k hk => by simp [Value.ownBlock] at hk; have := hb1.size; omega)
  rw [← u8C_append] at ho2
  have hlen : 2 + l.length = (128 :: 0 :: l).length := by simp; omega
  rw [hlen] at ho2 ⊢
  have hL2 := Lie.of_own (l := 128 :: 0 :: l) ho2
  have HS := Lib.hid (rInt_stick l)
  obtain ⟨l0, hl0⟩ : ∃ l0, l0 = 128 :: 0 :: l := ⟨_, rfl⟩
  rw [← hl0] at hL2 HS ⊢
  have hlz : l0.length ≤ 2002 := by rw [hl0]; simp; omega
  have HZ : Hid ((l0.length : Int) = (l.length : Int) + 2) := by unfold Hid; rw [hl0]; simp; omega
  clear hlen ho2 hat2 hg2 hl1 hb1 hl0
  go_wp2_with fail
  refine (read_all A2 l0 c2 w2 hL2 (by omega)).mono ?_
  rintro e w3 ⟨g, rfl, hg, hr3, hb3⟩
  have hc3 := hb2.trans (hb3.mono hb2.size)
  have hS : ∀ b, (w2.heap.size ≤ b ∧ b < g) → b ≠ g := fun b h => by omega
  have hwg : w.heap.size ≤ g := Nat.le_trans hb2.size hg
  clear hL2 hb2 hb3
  go_wp2_with fail
  refine (rint_all _ g l0 false w3 hr3 hS).mono ?_
  rintro e w4 ⟨rfl, hr4, hg4⟩
  rw [HS.out] at hr4 ⊢
  have hc4 := below_gr hc3 hg4 hc3.size hwg
  clear hr3 hc3 hg4
  go_wp2_with fail
  refine (rerr_all _ g l0 true w4 hr4).mono ?_
  rintro e w5 ⟨rfl, rfl⟩
  have he : errV true = 30 := rfl
  rw [he]
  have HE := Lib.hid he
  clear he
  go_wp2_with fail
  go_loopw [7, 8] (StickRel (fun b => w2.heap.size ≤ b ∧ b < g) l0 g its.length w) (fun _ i _ => its.length - (intOf i).toNat)
  case atStart => exact ⟨0, rfl, by omega, rfl, hr4, hc4⟩
  case round =>
    obtain ⟨k, rfl, hk, rfl, hr, hbw⟩ := hrel
    clear hr4 hc4
    by_cases hlt : k < its.length
    · have hir := hi.below hbw
      obtain ⟨ad, rfl, hab, hat, hright⟩ := hir.at_ hlt
      obtain ⟨i0, i1, i2, i3, i4⟩ := hat.cells
      clear hat
      generalize its[k] = x at *
      obtain ⟨xk, xn, xb, xs, xm⟩ := x
      simp only at i0 i1 i2 i3 i4
      by_cases hk0 : xk = 0
      · subst hk0
        go_wp2_with fail
        refine (rint_all _ g l0 true wr hr hS).mono ?_
        rintro e w6 ⟨rfl, hr6, hg6⟩
        have e0 : rInt l0 true = (0, l0, true) := rfl
        rw [e0] at hr6 ⊢
        have hc6 := below_gr hbw hg6 hbw.size hwg
        clear e0
        go_wp2_with fail
        refine (rleft_all _ g l0 true w6 hr6).mono ?_
        rintro e w7 ⟨rfl, rfl⟩
        rw [HZ.out]
        go_wp2_with fail
        refine (rerr_all _ g l0 true w6 hr6).mono ?_
        rintro e w7 ⟨rfl, rfl⟩
        rw [HE.out]
        go_wp2
        go_roundw
        case rel => exact ⟨k + 1, by go_num, by omega, rfl, hr6, hc6⟩
        case measure => simp [intOf]; omega
      · have hk0' : (xk == 0) = false := beq_eq_false_iff_ne.2 hk0
        by_cases hk1 : xk = 1
        · subst hk1
          go_wp2_with fail
          refine (rbool_all _ g l0 true wr hr hS).mono ?_
          rintro e w6 ⟨rfl, hr6, hg6⟩
          have e0 : rBool l0 true = (false, l0, true) := rfl
          rw [e0] at hr6 ⊢
          have hc6 := below_gr hbw hg6 hbw.size hwg
          clear e0
          go_wp2_with fail
          refine (rleft_all _ g l0 true w6 hr6).mono ?_
          rintro e w7 ⟨rfl, rfl⟩
          rw [HZ.out]
          go_wp2_with fail
          refine (rerr_all _ g l0 true w6 hr6).mono ?_
          rintro e w7 ⟨rfl, rfl⟩
          rw [HE.out]
          go_wp2
          go_roundw
          case rel => exact ⟨k + 1, by go_num, by omega, rfl, hr6, hc6⟩
          case measure => simp [intOf]; omega
        · have hk1' : (xk == 1) = false := beq_eq_false_iff_ne.2 hk1
          by_cases hk2 : xk = 2
          · subst hk2
            go_wp2_with fail
            refine (rtext_all _ g l0 true xm wr hr hS (by omega)).mono ?_
            rintro e w6 ⟨rfl, hr6, hg6⟩
            have e0 : rText l0 true xm = ([], l0, true) := rfl
            rw [e0] at hr6 ⊢
            have hc6 := below_gr hbw hg6 hbw.size hwg
            clear e0
            go_wp2_with fail
            refine (rleft_all _ g l0 true w6 hr6).mono ?_
            rintro e w7 ⟨rfl, rfl⟩
            rw [HZ.out]
            go_wp2_with fail
            refine (rerr_all _ g l0 true w6 hr6).mono ?_
            rintro e w7 ⟨rfl, rfl⟩
            rw [HE.out]
            go_wp2
            go_roundw
            case rel => exact ⟨k + 1, by go_num, by omega, rfl, hr6, hc6⟩
            case measure => simp [intOf]; omega
          · have hk2' : (xk == 2) = false := beq_eq_false_iff_ne.2 hk2
            go_wp2_with fail
            refine (rcount_all _ g l0 true xm wr hr hS).mono ?_
            rintro e w6 ⟨rfl, hr6, hg6⟩
            have e0 : rCount l0 true xm = (0, l0, true) := rfl
            rw [e0] at hr6 ⊢
            have hc6 := below_gr hbw hg6 hbw.size hwg
            clear e0
            go_wp2_with fail
            refine (rleft_all _ g l0 true w6 hr6).mono ?_
            rintro e w7 ⟨rfl, rfl⟩
            rw [HZ.out]
            go_wp2_with fail
            refine (rerr_all _ g l0 true w6 hr6).mono ?_
            rintro e w7 ⟨rfl, rfl⟩
            rw [HE.out]
            go_wp2
            go_roundw
            case rel => exact ⟨k + 1, by go_num, by omega, rfl, hr6, hc6⟩
            case measure => simp [intOf]; omega
    · go_wp2
      go_ret
      exact ⟨rfl, hbw⟩

theorem sticks_walk (A : Option Addr) (l : List UInt8) (c : Nat) (B : Option Addr) (its : List It) (d : Nat) (w : World) (_hc : l.length ≤ c) (_hcm : c ≤ maxLen) (hl : Lie w A l) (_hd : its.length ≤ d) (_hdm : d ≤ maxLen) (hi : Its w B its) :
    Calls Try.prog 8 #[.slice A l.length c, .slice B its.length d] w (TruePost w) := by
  rcases Nat.lt_or_ge 2000 l.length with h2 | h2
  · have g1 : decide ((2000 : Int) < (l.length : Int)) = true := by simp; omega
    go_enter Try.func8, Try.ntmps8
    go_wp2_with fail
    refine (awake_all w).mono ?_
    rintro e w1 ⟨rfl, hb1⟩
    go_wp2
    go_ret
    exact ⟨rfl, hb1⟩
  · rcases Nat.lt_or_ge 50 its.length with h5 | h5
    · have g1 : decide ((2000 : Int) < (l.length : Int)) = false := by simp; omega
      have g2 : decide ((50 : Int) < (its.length : Int)) = true := by simp; omega
      go_enter Try.func8, Try.ntmps8
      go_wp2_with fail
      refine (awake_all w).mono ?_
      rintro e w1 ⟨rfl, hb1⟩
      go_wp2
      go_ret
      exact ⟨rfl, hb1⟩
    · exact sticks_short A l c B its d w hl hi h2 h5
end Go.Proofs.Yteokhbcpfhjhdaa.Pk
