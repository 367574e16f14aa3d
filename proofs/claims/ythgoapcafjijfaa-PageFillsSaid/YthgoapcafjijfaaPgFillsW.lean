/-
  PageFills, walked.
-/
import Derived.Test.YthgoapcafjijfaaPgF1
import Derived.Test.YthgoapcafjijfaaPgLaysW
namespace Go.Proofs.Ythgoapcafjijfaa.Pg
open Go.RowKit

def FillRel (l : List Rec) (x : Rec) (w : World) (gX : Nat) (cs : Array Value) (v b i : Value) (wr : World) : Prop :=
  ∃ (k n : Nat) (A : Option Addr) (c : Nat), i = .int .i64 (k : Int) ∧ v = .slice A n c ∧ b = .bool (foldI x (l.take k)).1 ∧ k ≤ l.length ∧ n ≤ 2 * k ∧ (∀ p ∈ l.take k, p.1 ≠ x.1) ∧ RowP gX w.heap.size wr A n c (foldI x (l.take k)).2 ∧ Box wr gX 37 cs ∧ Below w.heap.size w wr

theorem step_yes {x p : Rec} {st : Bool × List Rec} (h1 : st.1 = false) (h2 : less x.1 p.1 = true) : stepI x st p = (true, st.2 ++ [x] ++ [p]) := by simp [stepI, h1, h2]
theorem step_in {x p : Rec} {st : Bool × List Rec} (h1 : st.1 = true) : stepI x st p = (true, st.2 ++ [p]) := by simp [stepI, h1]
theorem step_no {x p : Rec} {st : Bool × List Rec} (h1 : st.1 = false) (h2 : less x.1 p.1 = false) : stepI x st p = (false, st.2 ++ [p]) := by simp [stepI, h1, h2]
theorem take_ne {l : List Rec} {x : Rec} {k : Nat} (h : k < l.length) (a : ∀ p ∈ l.take k, p.1 ≠ x.1) (r : l[k].1 ≠ x.1) : ∀ p ∈ l.take (k + 1), p.1 ≠ x.1 := by
  rw [take_snoc h]
  intro p hp
  rcases List.mem_append.1 hp with hp | hp
  · exact a p hp
  · rw [List.mem_singleton.1 hp]
    exact r
theorem fill_ok {l : List Rec} {x : Rec} (h : okP l) (hx : recP x) (hn : ∀ p ∈ l, p.1 ≠ x.1) : allP (insR x l) ∧ incP (insR x l) ∧ sumP (insR x l) = slotsP x + sumP l :=
  ⟨fun q hq => by
    rcases ins_mem hq with rfl | hq
    · exact hx
    · exact h.1 q hq, ins_inc h.2.1 hn, ins_sum x l⟩

section
variable (A : Option Addr) (l : List Rec) (c : Nat) (s : ByteArray) (B : Option Addr) (b : List UInt8) (d : Nat) (w : World)
set_option maxRecDepth 100000 in
set_option maxHeartbeats 4000000 in
theorem fills_far (hc : l.length ≤ c) (hm : c ≤ maxLen) (h : Recs (fun b => w.heap.size ≤ b) w A l) (hf : ¬ (smallL l ∧ l.length ≤ 20 ∧ s.size ≤ 200 ∧ b.length ≤ 200)) :
    Calls Try.prog 8 #[.slice A l.length c, .string s, .slice B b.length d] w (TruePost w) := by
  generalize hs9 : s.size = n1 at *
  generalize b.length = n2 at *
  go_enter Try.func8, Try.ntmps8
  go_wp2_with fail
  refine (awake_all w).mono ?_
  rintro e w1 ⟨rfl, hb1⟩
  have HSM := Lib.hid (small_all _ A l c w1 (h.below hb1) hc hm)
  go_wp2_with fail
  with_reducible refine HSM.out.mono ?_
  rintro e w' ⟨rfl, rfl⟩
  clear h HSM
  by_cases hsm : smallL l
  · rw [decide_eq_true hsm]
    by_cases h2 : l.length ≤ 20
    · have d2 : decide ((20 : Int) < (l.length : Int)) = false := decide_eq_false (by omega)
      by_cases h3 : n1 ≤ 200
      · have d3 : decide ((200 : Int) < (n1 : Int)) = false := decide_eq_false (by omega)
        have h4 : ¬ n2 ≤ 200 := fun h4 => hf ⟨hsm, h2, h3, h4⟩
        have d4 : decide ((200 : Int) < (n2 : Int)) = true := decide_eq_true (by omega)
        clear hf hsm
        go_wp2
        all_goals first | (exfalso; omega) | skip
        go_ret
        exact ⟨rfl, hb1⟩
      · have d3 : decide ((200 : Int) < (n1 : Int)) = true := decide_eq_true (by omega)
        clear hf hsm
        go_wp2
        all_goals first | (exfalso; omega) | skip
        go_ret
        exact ⟨rfl, hb1⟩
    · have d2 : decide ((20 : Int) < (l.length : Int)) = true := decide_eq_true (by omega)
      clear hf hsm
      go_wp2
      all_goals first | (exfalso; omega) | skip
      go_ret
      exact ⟨rfl, hb1⟩
  · rw [decide_eq_false hsm]
    clear hf hsm
    go_wp2
    go_ret
    exact ⟨rfl, hb1⟩

set_option maxRecDepth 100000 in
set_option maxHeartbeats 4000000 in
theorem fills_bad (hc : l.length ≤ c) (hm : c ≤ maxLen) (h : Recs (fun b => w.heap.size ≤ b) w A l) (hsm : smallL l) (h2 : l.length ≤ 20) (h3 : s.size ≤ 200) (h4 : b.length ≤ 200) (hbad : ¬ okP l ∨ ¬ recP (s, b)) :
    Calls Try.prog 8 #[.slice A l.length c, .string s, .slice B b.length d] w (TruePost w) := by
  have HSL : Hid (∀ wx, Calls Try.prog 18 #[.agg #[.string s, .slice B b.length d]] wx (Val (.int .i64 ((slotsP (s, b) : Nat) : Int)) wx)) := fun wx => slots_all (s, b) B d wx (by show s.size ≤ _; omega) (by show b.length ≤ _; omega)
  have hno := @slots_no (s, b)
  generalize slotsP (s, b) = S at *
  generalize hs9 : s.size = n1 at *
  have d2 : decide ((20 : Int) < (l.length : Int)) = false := decide_eq_false (by omega)
  have d3 : decide ((200 : Int) < (n1 : Int)) = false := decide_eq_false (by omega)
  have d4 : decide ((200 : Int) < (b.length : Int)) = false := decide_eq_false (by omega)
  go_enter Try.func8, Try.ntmps8
  go_wp2_with fail
  refine (awake_all w).mono ?_
  rintro e w1 ⟨rfl, hb1⟩
  have HSM := Lib.hid (small_all _ A l c w1 (h.below hb1) hc hm)
  go_wp2_with fail
  with_reducible refine HSM.out.mono ?_
  rintro e w' ⟨rfl, rfl⟩
  rw [decide_eq_true hsm]
  have hsp := hsm.sm
  by_cases hok : okP l
  · have hS := hno (hbad.resolve_left (fun k => k hok))
    subst hS
    have HL := Lib.hid (lay_ok _ A l c w1 (h.below hb1) hsp hok)
    clear HSM hsm hsp h hbad hno
    go_wp2_with fail
    all_goals first | (exfalso; omega) | skip
    with_reducible refine HL.out.mono ?_
    rintro e w2 ⟨g, rfl, hg, _, hb2⟩
    have hB2 := hb1.trans (hb2.mono hb1.size)
    have hB3 := hB2.alloc hB2.size (.cells #[.string s, .slice B b.length d] 37)
    clear HL
    go_wp2_with fail
    with_reducible refine (HSL.out _).mono ?_
    rintro e w4 ⟨rfl, hb4⟩
    have hB4 := hB3.trans (hb4.mono hB3.size)
    clear HSL
    go_wp2
    go_ret
    exact ⟨rfl, hB4⟩
  · have HL := Lib.hid (lay_no _ A l c w1 (h.below hb1) hsp hok)
    have hne : layE l ≠ 0 := fun h => hok (layE_zero.1 h)
    clear HSM hsm hsp h hbad hno hok
    generalize layE l = E at *
    have hE : (E == 0) = false := beq_eq_false_iff_ne.2 hne
    have hE2 : (E != 0) = true := by simp [bne, hE]
    go_wp2_with fail
    all_goals first | (exfalso; omega) | skip
    with_reducible refine HL.out.mono ?_
    rintro e w2 ⟨rfl, hb2⟩
    have hB2 := hb1.trans (hb2.mono hb1.size)
    have hB3 := hB2.alloc hB2.size (.cells #[.string s, .slice B b.length d] 37)
    clear HL
    go_wp2_with fail
    with_reducible refine (HSL.out _).mono ?_
    rintro e w4 ⟨rfl, hb4⟩
    have hB4 := hB3.trans (hb4.mono hB3.size)
    clear HSL
    go_wp2
    all_goals first | (exfalso; omega) | skip
    go_ret
    exact ⟨rfl, hB4⟩

set_option maxRecDepth 100000 in
set_option maxHeartbeats 4000000 in
theorem fills_near (hc : l.length ≤ c) (hm : c ≤ maxLen) (h : Recs (fun b => w.heap.size ≤ b) w A l) (hd : b.length ≤ d) (hdm : d ≤ maxLen) (hl : Lie w B b) (hsm : smallL l) (h2 : l.length ≤ 20) (h3 : s.size ≤ 200) (h4 : b.length ≤ 200) (hok : okP l) (hrx : recP (s, b)) :
    Calls Try.prog 8 #[.slice A l.length c, .string s, .slice B b.length d] w (TruePost w) := by
  have hsp := hsm.sm
  have HSL : Hid (∀ wx, Calls Try.prog 18 #[.agg #[.string s, .slice B b.length d]] wx (Val (.int .i64 ((slotsP (s, b) : Nat) : Int)) wx)) := fun wx => slots_all (s, b) B d wx (by show s.size ≤ _; omega) (by show b.length ≤ _; omega)
  have hS1 := slots_pos hrx
  have hS4 := slots_four (s, b)
  have HRX : Hid (∀ wx, Below w.heap.size w wx → RecV (fun b => w.heap.size ≤ b) wx (.string s) (.slice B b.length d) (s, b)) := fun wx hb =>
    ⟨B, d, rfl, rfl, hd, hdm, fun hp => by
      obtain ⟨ad, e, q1, q2⟩ := hl hp
      exact ⟨ad, e, Nat.lt_of_lt_of_le q1 hb.size, by omega, fun j hj => (hb.cell (p := ad.add j) (by rw [blk_add]; exact q1)).trans (q2 j hj)⟩, by show s.size ≤ maxLen; unfold maxLen; omega⟩
  have HOK := Lib.hid hok
  have HX := Lib.hid hrx
  have HXS : Hid ((s, b).1.size ≤ 1000000 ∧ (s, b).2.length ≤ 1000000) := ⟨by show s.size ≤ _; omega, by show b.length ≤ _; omega⟩
  have HSP := Lib.hid hsp
  have HFR := Lib.hid (fun wx (hb : Below w.heap.size w wx) => free_all _ A l c wx (h.below hb) hsp)
  have HFP : Hid (freeP l = 7 - sumP l) := if_pos hok.1
  have h7 := hok.2.2
  have d2 : decide ((20 : Int) < (l.length : Int)) = false := decide_eq_false (by omega)
  have d3 : decide ((200 : Int) < (s.size : Int)) = false := decide_eq_false (by omega)
  have d4 : decide ((200 : Int) < (b.length : Int)) = false := decide_eq_false (by omega)
  have e0 : (((slotsP (s, b) : Nat) : Int) == 0) = false := beq_eq_false_iff_ne.2 (by omega)
  go_enter Try.func8, Try.ntmps8
  go_wp2_with fail
  refine (awake_all w).mono ?_
  rintro e w1 ⟨rfl, hb1⟩
  have HSM := Lib.hid (small_all _ A l c w1 (h.below hb1) hc hm)
  go_wp2_with fail
  with_reducible refine HSM.out.mono ?_
  rintro e w' ⟨rfl, rfl⟩
  rw [decide_eq_true hsm]
  have HL := Lib.hid (lay_ok _ A l c w1 (h.below hb1) hsp hok)
  have HH := Lib.hid h
  clear HSM hsm hsp h hrx hok hl hd hdm hc hm
  go_wp2_with fail
  all_goals first | (exfalso; omega) | skip
  with_reducible refine HL.out.mono ?_
  rintro e w2 ⟨g, rfl, hg, _, hb2⟩
  have hB2 := hb1.trans (hb2.mono hb1.size)
  have hB3 := hB2.alloc hB2.size (.cells #[.string s, .slice B b.length d] 37)
  have hx3 := Box.new w2 37 #[.string s, .slice B b.length d]
  clear HL
  go_wp2_with fail
  with_reducible refine (HSL.out _).mono ?_
  rintro e w4 ⟨rfl, hb4⟩
  have hB4 := hB3.trans (hb4.mono hB3.size)
  have hx4 := hx3.below hb4 hx3.lt
  have hgX : w.heap.size ≤ w2.heap.size := hB2.size
  clear HSL hx3 hB3 hb4
  go_wp2
  all_goals first | (exfalso; omega) | skip
  go_loopw [13, 14, 15] (FillRel l (s, b) w w2.heap.size #[.string s, .slice B b.length d]) (fun _ _ i _ => l.length - (intOf i).toNat)
  case atStart => exact ⟨0, 0, none, 0, rfl, rfl, rfl, by omega, by omega, by simp, RowP.nil_ _ _ _, hx4, hB4⟩
  case round =>
    clear hx4 hB4
    obtain ⟨k, n, A5, c5, rfl, rfl, rfl, hk, hn2, hne, hrow, hxr, hbr⟩ := hrel
    have x0 : wr.cell? ⟨w2.heap.size, 0, none⟩ = some (.string s) := hxr.cell 0
    have x1 : wr.cell? ⟨w2.heap.size, 1, none⟩ = some (.slice B b.length d) := hxr.cell 1
    by_cases hlt : k < l.length
    · obtain ⟨ad, D, e9, rfl, had, q1, q2, q3, q4, q5, q6⟩ := (HH.out.below hbr).at_ hlt
      have hk0 : (0 : Int) ≤ (k : Int) := by omega
      have hkl : (k : Int) < (l.length : Int) := by omega
      by_cases heq : l[k].1 = s
      · rw [heq] at q1
        clear hrow hne q5 HH HFR HRX
        go_wp2
        go_ret
        exact ⟨rfl, hbr⟩
      · have hbeq : (l[k].1.toList == s.toList) = false := str_ne heq
        have HT := Lib.hid (take_ne (x := (s, b)) hlt hne heq)
        have HFS := Lib.hid (fold_succ (s, b) hlt)
        have hrv : RecV (fun b => w.heap.size ≤ b) wr (.string l[k].1) (.slice D l[k].2.length e9) l[k] := ⟨D, e9, rfl, rfl, q3, q4, q5, q6⟩
        have hsX := hxr.lt
        clear hne q5
        generalize hst : foldI (s, b) (l.take k) = st at *
        clear hst
        obtain ⟨bo, L⟩ := st
        simp only at hrow ⊢
        cases bo with
        | true =>
          rw [step_in rfl] at HFS
          obtain ⟨A6, c6, w6, hr6, hrow6, hx6, hb6⟩ := run_app_rec hrow (m := n + 1) rfl hrv (by omega) hsX hxr hgX hbr
          have HROW : Hid (RowP w2.heap.size w.heap.size w6 A6 (n + 1) c6 (foldI (s, b) (l.take (k + 1))).2) := by
            show RowP _ _ _ _ _ _ _
            rw [HFS.out]
            exact hrow6
          have HB : Hid ((foldI (s, b) (l.take (k + 1))).1 = true) := by
            show _ = _
            rw [HFS.out]
          clear hrow hrow6 hrv HFS HRX HFR HH hxr hbr
          generalize l[k] = p at *
          go_wp2_with (at_builtin; refine wpList_append_run rfl (.tmp 90) (.tmp 95) _ _ rfl rfl rfl hr6 ?_)
          all_goals first | (exfalso; omega) | skip
          go_roundw
          case rel => exact ⟨k + 1, n + 1, A6, c6, by go_num, rfl, by rw [HB.out], by omega, by omega, HT.out, HROW.out, hx6, hb6⟩
          case measure => simp [intOf]; omega
        | false =>
          cases hL : less s l[k].1 with
          | true =>
            rw [step_yes rfl hL] at HFS
            obtain ⟨A6, c6, w6, hr6, hrow6, hx6, hb6⟩ := run_app_rec hrow (m := n + 1) rfl (HRX.out wr hbr) (by omega) hsX hxr hgX hbr
            obtain ⟨ad', D', e9', e, had', t1, t2, t3, t4, t5, t6⟩ := (HH.out.below hb6).at_ hlt
            injection e with e
            subst e
            obtain ⟨A7, c7, w7, hr7, hrow7, hx7, hb7⟩ := run_app_rec hrow6 (m := n + 2) rfl ⟨D', e9', rfl, rfl, t3, t4, t5, t6⟩ (by omega) hx6.lt hx6 hgX hb6
            have HROW : Hid (RowP w2.heap.size w.heap.size w7 A7 (n + 2) c7 (foldI (s, b) (l.take (k + 1))).2) := by
              show RowP _ _ _ _ _ _ _
              rw [HFS.out]
              exact hrow7
            have HB : Hid ((foldI (s, b) (l.take (k + 1))).1 = true) := by
              show _ = _
              rw [HFS.out]
            have hL2 : Op.bytesLess s.toList l[k].1.toList = true := hL
            clear hrow hrow6 hrow7 hrv HFS HRX HFR HH hxr hbr hL t5 hx6 hb6
            generalize l[k] = p at *
            go_wp2_with (at_builtin; first | refine wpList_append_run rfl (.tmp 86) (.tmp 88) _ _ rfl rfl rfl hr6 ?_ | refine wpList_append_run rfl (.tmp 90) (.tmp 95) _ _ rfl rfl rfl hr7 ?_)
            all_goals first | (exfalso; omega) | skip
            go_roundw
            case rel => exact ⟨k + 1, n + 2, A7, c7, by go_num, rfl, by rw [HB.out], by omega, by omega, HT.out, HROW.out, hx7, hb7⟩
            case measure => simp [intOf]; omega
          | false =>
            rw [step_no rfl hL] at HFS
            obtain ⟨A6, c6, w6, hr6, hrow6, hx6, hb6⟩ := run_app_rec hrow (m := n + 1) rfl hrv (by omega) hsX hxr hgX hbr
            have HROW : Hid (RowP w2.heap.size w.heap.size w6 A6 (n + 1) c6 (foldI (s, b) (l.take (k + 1))).2) := by
              show RowP _ _ _ _ _ _ _
              rw [HFS.out]
              exact hrow6
            have HB : Hid ((foldI (s, b) (l.take (k + 1))).1 = false) := by
              show _ = _
              rw [HFS.out]
            have hL2 : Op.bytesLess s.toList l[k].1.toList = false := hL
            clear hrow hrow6 hrv HFS HRX HFR HH hxr hbr hL
            generalize l[k] = p at *
            go_wp2_with (at_builtin; refine wpList_append_run rfl (.tmp 90) (.tmp 95) _ _ rfl rfl rfl hr6 ?_)
            all_goals first | (exfalso; omega) | skip
            go_roundw
            case rel => exact ⟨k + 1, n + 1, A6, c6, by go_num, rfl, by rw [HB.out], by omega, by omega, HT.out, HROW.out, hx6, hb6⟩
            case measure => simp [intOf]; omega
    · obtain rfl : k = l.length := by omega
      rw [List.take_length] at hne hrow ⊢
      have HM := Lib.hid (fill_ok HOK.out HX.out (fun p hp => hne p hp))
      have HSMM : Hid (smP (insR (s, b) l)) := ⟨by rw [ins_len]; omega, fun p hp => by
        rcases ins_mem hp with rfl | hp
        · exact HXS.out
        · exact HSP.out.2 p hp⟩
      have HEI := Lib.hid (end_fold (s, b) l)
      have hsX := hxr.lt
      clear hne HH
      generalize foldI (s, b) l = st at *
      obtain ⟨bo, L⟩ := st
      simp only at hrow ⊢
      cases bo with
      | true =>
        have hrow2 : RowP w2.heap.size w.heap.size wr A5 n c5 (insR (s, b) l) := by
          rw [← HEI.out]
          exact hrow
        clear hrow HEI HRX
        have hrcM := hrow2.recs
        have hML : (insR (s, b) l).length = n := hrow2.1
        have HRM := Lib.hid hrcM
        rw [← hML]
        by_cases hfull : 7 < slotsP (s, b) + sumP l
        · have hnok : ¬ okP (insR (s, b) l) := fun o => by have := o.2.2; rw [HM.out.2.2] at this; omega
          have HE := Lib.hid (layE_full ⟨HM.out.1, HM.out.2.1⟩ (by rw [HM.out.2.2]; exact hfull))
          have HL := Lib.hid (lay_no _ A5 (insR (s, b) l) c5 wr hrcM HSMM.out hnok)
          clear hrcM hML hnok hrow2
          rw [HE.out] at HL
          go_wp2_with fail
          with_reducible refine HL.out.mono ?_
          rintro e w7 ⟨rfl, hb7⟩
          have hB7 := hbr.trans (hb7.mono hbr.size)
          clear HL
          go_wp2_with fail
          with_reducible refine (HFR.out w7 hB7).mono ?_
          rintro e w8 ⟨rfl, hb8⟩
          have hB8 := hB7.trans (hb8.mono hB7.size)
          have hfp := HFP.out
          have hgt : ((freeP l : Nat) : Int) < ((slotsP (s, b) : Nat) : Int) := by omega
          clear HFR
          go_wp2
          all_goals first | (exfalso; omega) | skip
          go_ret
          exact ⟨rfl, hB8⟩
        · have hokM : okP (insR (s, b) l) := ⟨HM.out.1, HM.out.2.1, by rw [HM.out.2.2]; omega⟩
          have HL := Lib.hid (lay_ok _ A5 (insR (s, b) l) c5 wr hrcM HSMM.out hokM)
          have HOKM := Lib.hid hokM
          clear hrcM hML hokM hrow2
          go_wp2_with fail
          with_reducible refine HL.out.mono ?_
          rintro e w7 ⟨g7, rfl, hg7, hx7, hb7⟩
          have hB7 := hbr.trans (hb7.mono hbr.size)
          clear HL
          go_wp2_with fail
          with_reducible refine (HFR.out w7 hB7).mono ?_
          rintro e w8 ⟨rfl, hb8⟩
          have hB8 := hB7.trans (hb8.mono hB7.size)
          have hfp := HFP.out
          have hgt : ¬ ((freeP l : Nat) : Int) < ((slotsP (s, b) : Nat) : Int) := by omega
          have HRD := Lib.hid (read_all (layB (insR (s, b) l)) (some ⟨g7, 0, none⟩) 256 w8 (full_lie (hx7.below hb8 hx7.lt)) (by rw [lay_len HOKM.out]; omega))
          rw [lay_len HOKM.out] at HRD
          go_wp2_with fail
          all_goals first | (exfalso; omega) | skip
          with_reducible refine HRD.out.mono ?_
          rintro e w9 (⟨l9, A9, c9, gC, base, hrd, rfl, _, _, _, hor, hb9⟩ | ⟨hrd, _⟩)
          · rw [read_lay HOKM.out] at hrd
            injection hrd with hrd
            subst hrd
            have hB9 := hB8.trans (hb9.mono hB8.size)
            have hMb : Below wr.heap.size wr w9 := hb7.trans ((hb8.trans (hb9.mono hb8.size)).mono hb7.size)
            have HSA := Lib.hid (same_all _ _ A9 A5 (insR (s, b) l) (insR (s, b) l) c9 c5 w9 hor.recs (HRM.out.below hMb) HSMM.out.1 HSMM.out.1)
            have HFM := Lib.hid (fun wx (hbx : Below w9.heap.size w9 wx) => free_all _ A5 (insR (s, b) l) c5 wx ((HRM.out.below hMb).below hbx) HSMM.out)
            have HFF : Hid (freeP (insR (s, b) l) = 7 - sumP (insR (s, b) l)) := if_pos HM.out.1
            clear HRD hor hx7 hgt
            go_wp2_with fail
            with_reducible refine HSA.out.mono ?_
            rintro e wa ⟨rfl, hba⟩
            have hBa := hB9.trans (hba.mono hB9.size)
            clear HSA
            go_wp2_with fail
            with_reducible refine (HFM.out wa hba).mono ?_
            rintro e wb ⟨rfl, hbb⟩
            have hBb := hBa.trans (hbb.mono hBa.size)
            clear HFM
            go_wp2_with fail
            with_reducible refine (HFR.out wb hBb).mono ?_
            rintro e wc ⟨rfl, hbc⟩
            have hBc := hBb.trans (hbc.mono hBb.size)
            have hff : ((freeP (insR (s, b) l) : Nat) : Int) = ((freeP l : Nat) : Int) - ((slotsP (s, b) : Nat) : Int) := by
              rw [HFF.out, HM.out.2.2]
              omega
            rw [hff]
            clear HFR hff
            generalize freeP l = F at *
            generalize slotsP (s, b) = S at *
            go_wp2
            all_goals first | (exfalso; omega) | skip
            go_ret
            exact ⟨rfl, hBc⟩
          · rw [read_lay HOKM.out] at hrd
            cases hrd
      | false =>
        obtain ⟨A6, c6, w6, hr6, hrow6, hx6, hb6⟩ := run_app_rec hrow (m := n + 1) rfl (HRX.out wr hbr) (by omega) hsX hxr hgX hbr
        have hrow2 : RowP w2.heap.size w.heap.size w6 A6 (n + 1) c6 (insR (s, b) l) := by
          rw [← HEI.out]
          exact hrow6
        clear hrow hrow6 HEI HRX hxr
        have hML0 : (insR (s, b) l).length = n + 1 := hrow2.1
        rw [← hML0] at hr6 hrow2
        have hML := hML0
        have hrcM := hrow2.recs
        have HRM := Lib.hid hrcM
        clear hML0
        by_cases hfull : 7 < slotsP (s, b) + sumP l
        · have hnok : ¬ okP (insR (s, b) l) := fun o => by have := o.2.2; rw [HM.out.2.2] at this; omega
          have HE := Lib.hid (layE_full ⟨HM.out.1, HM.out.2.1⟩ (by rw [HM.out.2.2]; exact hfull))
          have HL := Lib.hid (lay_no _ A6 (insR (s, b) l) c6 w6 hrcM HSMM.out hnok)
          clear hrcM hML hnok hrow2
          rw [HE.out] at HL
          go_wp2_with (at_builtin; refine wpList_append_run rfl (.tmp 99) (.tmp 101) _ _ rfl rfl rfl hr6 ?_)
          with_reducible refine HL.out.mono ?_
          rintro e w7 ⟨rfl, hb7⟩
          have hB7 := hb6.trans (hb7.mono hb6.size)
          clear HL
          go_wp2_with fail
          with_reducible refine (HFR.out w7 hB7).mono ?_
          rintro e w8 ⟨rfl, hb8⟩
          have hB8 := hB7.trans (hb8.mono hB7.size)
          have hfp := HFP.out
          have hgt : ((freeP l : Nat) : Int) < ((slotsP (s, b) : Nat) : Int) := by omega
          clear HFR
          go_wp2
          all_goals first | (exfalso; omega) | skip
          go_ret
          exact ⟨rfl, hB8⟩
        · have hokM : okP (insR (s, b) l) := ⟨HM.out.1, HM.out.2.1, by rw [HM.out.2.2]; omega⟩
          have HL := Lib.hid (lay_ok _ A6 (insR (s, b) l) c6 w6 hrcM HSMM.out hokM)
          have HOKM := Lib.hid hokM
          clear hrcM hML hokM hrow2
          go_wp2_with (at_builtin; refine wpList_append_run rfl (.tmp 99) (.tmp 101) _ _ rfl rfl rfl hr6 ?_)
          with_reducible refine HL.out.mono ?_
          rintro e w7 ⟨g7, rfl, hg7, hx7, hb7⟩
          have hB7 := hb6.trans (hb7.mono hb6.size)
          clear HL
          go_wp2_with fail
          with_reducible refine (HFR.out w7 hB7).mono ?_
          rintro e w8 ⟨rfl, hb8⟩
          have hB8 := hB7.trans (hb8.mono hB7.size)
          have hfp := HFP.out
          have hgt : ¬ ((freeP l : Nat) : Int) < ((slotsP (s, b) : Nat) : Int) := by omega
          have HRD := Lib.hid (read_all (layB (insR (s, b) l)) (some ⟨g7, 0, none⟩) 256 w8 (full_lie (hx7.below hb8 hx7.lt)) (by rw [lay_len HOKM.out]; omega))
          rw [lay_len HOKM.out] at HRD
          go_wp2_with fail
          all_goals first | (exfalso; omega) | skip
          with_reducible refine HRD.out.mono ?_
          rintro e w9 (⟨l9, A9, c9, gC, base, hrd, rfl, _, _, _, hor, hb9⟩ | ⟨hrd, _⟩)
          · rw [read_lay HOKM.out] at hrd
            injection hrd with hrd
            subst hrd
            have hB9 := hB8.trans (hb9.mono hB8.size)
            have hMb : Below w6.heap.size w6 w9 := hb7.trans ((hb8.trans (hb9.mono hb8.size)).mono hb7.size)
            have HSA := Lib.hid (same_all _ _ A9 A6 (insR (s, b) l) (insR (s, b) l) c9 c6 w9 hor.recs (HRM.out.below hMb) HSMM.out.1 HSMM.out.1)
            have HFM := Lib.hid (fun wx (hbx : Below w9.heap.size w9 wx) => free_all _ A6 (insR (s, b) l) c6 wx ((HRM.out.below hMb).below hbx) HSMM.out)
            have HFF : Hid (freeP (insR (s, b) l) = 7 - sumP (insR (s, b) l)) := if_pos HM.out.1
            clear HRD hor hx7 hgt
            go_wp2_with fail
            with_reducible refine HSA.out.mono ?_
            rintro e wa ⟨rfl, hba⟩
            have hBa := hB9.trans (hba.mono hB9.size)
            clear HSA
            go_wp2_with fail
            with_reducible refine (HFM.out wa hba).mono ?_
            rintro e wb ⟨rfl, hbb⟩
            have hBb := hBa.trans (hbb.mono hBa.size)
            clear HFM
            go_wp2_with fail
            with_reducible refine (HFR.out wb hBb).mono ?_
            rintro e wc ⟨rfl, hbc⟩
            have hBc := hBb.trans (hbc.mono hBb.size)
            have hff : ((freeP (insR (s, b) l) : Nat) : Int) = ((freeP l : Nat) : Int) - ((slotsP (s, b) : Nat) : Int) := by
              rw [HFF.out, HM.out.2.2]
              omega
            rw [hff]
            clear HFR hff
            generalize freeP l = F at *
            generalize slotsP (s, b) = S at *
            go_wp2
            all_goals first | (exfalso; omega) | skip
            go_ret
            exact ⟨rfl, hBc⟩
          · rw [read_lay HOKM.out] at hrd
            cases hrd
end
theorem fillsW (A : Option Addr) (l : List Rec) (c : Nat) (s : ByteArray) (B : Option Addr) (b : List UInt8) (d : Nat) (w : World) (hc : l.length ≤ c) (hm : c ≤ maxLen) (h : Recs (fun b => w.heap.size ≤ b) w A l) (_hs : s.size ≤ maxLen) (hd : b.length ≤ d) (hdm : d ≤ maxLen) (hl : Lie w B b) :
    Calls Try.prog 8 #[.slice A l.length c, .string s, .slice B b.length d] w (TruePost w) := by
  by_cases hf : smallL l ∧ l.length ≤ 20 ∧ s.size ≤ 200 ∧ b.length ≤ 200
  · obtain ⟨hsm, h2, h3, h4⟩ := hf
    by_cases hok : okP l
    · by_cases hrx : recP (s, b)
      · exact fills_near A l c s B b d w hc hm h hd hdm hl hsm h2 h3 h4 hok hrx
      · exact fills_bad A l c s B b d w hc hm h hsm h2 h3 h4 (.inr hrx)
    · exact fills_bad A l c s B b d w hc hm h hsm h2 h3 h4 (.inl hok)
  · exact fills_far A l c s B b d w hc hm h hf
end Go.Proofs.Ythgoapcafjijfaa.Pg
