/-
  PageOne, walked.
-/
import Derived.Test.YthgoapcafjijfaaPgL1
import Derived.Test.YthgoapcafjijfaaPgLaysW
namespace Go.Proofs.Ythgoapcafjijfaa.Pg
open Go.RowKit

def OneRel (l : List Rec) (w : World) (s i : Value) (wr : World) : Prop :=
  ∃ k : Nat, i = .int .i64 (k : Int) ∧ s = .int .i64 ((sumP (l.take k) : Nat) : Int) ∧ k ≤ l.length ∧ Below w.heap.size w wr

set_option maxRecDepth 100000 in
set_option maxHeartbeats 4000000 in
theorem oneW (A : Option Addr) (b : List UInt8) (c : Nat) (w : World) (_hc : b.length ≤ c) (_hm : c ≤ maxLen) (hl : Lie w A b) :
    Calls Try.prog 7 #[.slice A b.length c] w (TruePost w) := by
  by_cases h3 : 3000 < b.length
  · have d3 : decide ((3000 : Int) < (b.length : Int)) = true := decide_eq_true (by omega)
    clear hl
    generalize b.length = n at *
    go_enter Try.func7, Try.ntmps7
    go_wp2_with fail
    refine (awake_all w).mono ?_
    rintro e w1 ⟨rfl, hb1⟩
    go_wp2
    all_goals first | (exfalso; omega) | skip
    go_ret
    exact ⟨rfl, hb1⟩
  · have d3 : decide ((3000 : Int) < (b.length : Int)) = false := decide_eq_false (by omega)
    go_enter Try.func7, Try.ntmps7
    go_wp2_with fail
    refine (awake_all w).mono ?_
    rintro e w1 ⟨rfl, hb1⟩
    have HR := Lib.hid (read_all b A c w1 (hl.below hb1) (by omega))
    go_wp2_with fail
    all_goals first | (exfalso; omega) | skip
    with_reducible refine HR.out.mono ?_
    rintro e w2 (⟨l, A2, c2, gC, base, hrd, rfl, h1, h2, h2b, hor, hb2⟩ | ⟨hrd, rfl, hb2⟩)
    · obtain ⟨hb256, hdv, hok, hlb⟩ := read_some hrd
      have hgl := gb_lt b 0
      have hsm := div_sm (by omega) hdv (by omega)
      have hB2 := hb1.trans (hb2.mono hb1.size)
      have hrc := hor.recs
      have HRC := Lib.hid hrc
      have HL := Lib.hid (lay_ok _ A2 l c2 w2 hrc hsm hok)
      have HLB := Lib.hid hlb
      have HB := Lib.hid hb256
      have HF := Lib.hid (fun wx (hb : Below w2.heap.size w2 wx) => free_all _ A2 l c2 wx (hrc.below hb) hsm)
      have HFP : Hid (freeP l = 7 - sumP l) := if_pos hok.1
      have HSZ := Lib.hid hsm.2
      have HIN := Lib.hid hok.2.1
      have h7 := hok.2.2
      have hcn := count_le hok.1
      clear HR hrd hdv hok hlb hsm hor hrc
      rw [hb256]
      clear hb256 d3 h3
      go_wp2_with fail
      with_reducible refine HL.out.mono ?_
      rintro e w3 ⟨g, rfl, hg, hx3, hb3⟩
      have hB3 := hB2.trans (hb3.mono hB2.size)
      clear HL
      go_wp2
      go_loopw [8, 9] (OneRel l w3) (fun _ i _ => l.length - (intOf i).toNat)
      case atStart => exact ⟨0, rfl, rfl, by omega, Below.refl _ _⟩
      case round =>
        obtain ⟨k, rfl, rfl, hk, hw⟩ := hrel
        have hbw : Below w2.heap.size w2 wr := hb3.trans (hw.mono hb3.size)
        have hrw := HRC.out.below hbw
        by_cases hlt : k < l.length
        · obtain ⟨ad, D, d, rfl, had, q1, q2, _⟩ := hrw.at_ hlt
          have hsz := HSZ.out _ (List.getElem_mem hlt)
          have hsum := Lib.hid (sum_take hlt)
          have hsl := sum_take_le l k
          have h4 := slots_four l[k]
          have hk0 : (0 : Int) ≤ (k : Int) := by omega
          have hkl : (k : Int) < (l.length : Int) := by omega
          have HSL : Hid (∀ wx, Calls Try.prog 18 #[.agg #[.string l[k].1, .slice D l[k].2.length d]] wx (Val (.int .i64 ((slotsP l[k] : Nat) : Int)) wx)) := fun wx => slots_all l[k] D d wx hsz.1 hsz.2
          have HQ : Hid (∀ wx, Below wr.heap.size wr wx → wx.cell? (ad.add (k * 2)) = some (.string l[k].1)) := fun wx hb => (hb.cell (p := ad.add (k * 2)) (by rw [blk_add]; exact had)).trans q1
          have HPR : Hid (∀ j (hj : j + 1 = k) (hj2 : j < l.length), (∀ wx, Below wr.heap.size wr wx → wx.cell? (ad.add (j * 2)) = some (.string l[j].1)) ∧ (Op.bytesLess l[k].1.toList l[j].1.toList || (l[k].1.toList == l[j].1.toList)) = false) := fun j hj hj2 => by
            obtain ⟨ad', _, _, e, _, r1, _⟩ := hrw.at_ hj2
            injection e with e
            subst e
            refine ⟨fun wx hb => (hb.cell (p := ad.add (j * 2)) (by rw [blk_add]; exact had)).trans r1, ?_⟩
            subst hj
            rw [less_leq, inc_at HIN.out hlt]
            rfl
          clear hrw hsz
          generalize l[k] = p at *
          generalize sumP (l.take k) = T at *
          generalize slotsP p = S at *
          go_wp2_with fail
          with_reducible refine (HSL.out _).mono ?_
          rintro e w4 ⟨rfl, hb4⟩
          have hB4 := hw.trans (hb4.mono hw.size)
          have r1 := HQ.out w4 hb4
          clear HSL HQ q1 q2
          rcases k with _ | j
          · go_wp2_with fail
            go_quiet (fail)
            go_wp2
            all_goals first | (exfalso; omega) | skip
            go_roundw
            case rel => exact ⟨1, by go_num, by rw [hsum.out]; go_num, by omega, below_drewN hB4 _⟩
            case measure => simp [intOf]; omega
          · obtain ⟨s1, s2⟩ := HPR.out j rfl (by omega)
            have r2 := s1 w4 hb4
            clear s1 HPR
            generalize l[j].1 = t at *
            have d0 : decide ((0 : Int) < (j : Int) + 1) = true := decide_eq_true (by omega)
            have d1 : decide (0 < j + 1) = true := decide_eq_true (by omega)
            have e1 : (((j + 1 : Nat) : Int)) = (j : Int) + 1 := by omega
            rw [e1] at hk0 hkl ⊢
            go_wp2_with fail
            go_quiet (fail)
            go_wp2
            all_goals first | (exfalso; simp_all; done) | skip
            go_roundw
            case rel => exact ⟨j + 1 + 1, by go_num, by rw [hsum.out]; go_num, by omega, below_drewN hB4 _⟩
            case measure => simp [intOf]; omega
        · obtain rfl : k = l.length := by omega
          rw [List.take_length]
          have hx4 := hx3.below hw hx3.lt
          have hBw := hB3.trans (hw.mono hB3.size)
          have v1 := conv_box 256 hx4 (by rw [HLB.out]; exact HB.out)
          have v2 := conv_lie c (hl.below hBw)
          rw [HB.out] at v2
          rw [HLB.out] at v1
          have hfp := HFP.out
          clear hrw hx4 hx3 hl
          go_wp2_with fail
          with_reducible refine (HF.out wr hbw).mono ?_
          rintro e w5 ⟨rfl, hb5⟩
          have hB5 := hBw.trans (hb5.mono hBw.size)
          have hsf : ((sumP l : Nat) : Int) + ((freeP l : Nat) : Int) = 7 := by omega
          clear HF hfp
          generalize freeP l = F at *
          generalize sumP l = T at *
          go_wp2
          all_goals first | (exfalso; omega) | skip
          go_ret
          exact ⟨rfl, hB5⟩
    · have hB2 := hb1.trans (hb2.mono hb1.size)
      clear HR hrd
      go_wp2
      all_goals first | (exfalso; omega) | skip
      go_ret
      exact ⟨rfl, hB2⟩
end Go.Proofs.Ythgoapcafjijfaa.Pg
