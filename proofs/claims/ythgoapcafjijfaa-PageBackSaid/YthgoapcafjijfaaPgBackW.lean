/-
  PageBack, walked.
-/
import Derived.Test.YthgoapcafjijfaaPgBk
import Derived.Test.YthgoapcafjijfaaPgLaysW
namespace Go.Proofs.Ythgoapcafjijfaa.Pg
open Go.RowKit

theorem bk3_step {n j : Nat} {cu : Array Value} {x : UInt8} (hj : j < n + 1) (hall : ∀ i, i < n + 1 → ∃ x : UInt8, cu[i]? = some (.int .u8 (x.toNat : Int))) (hlast : cu[n]? = some (.int .u8 (if j ≤ n then 1 else 2))) (hx : cu[j]? = some (.int .u8 (x.toNat : Int))) :
    (∀ i, i < n + 1 → ∃ y : UInt8, (cu.setIfInBounds j (.int .u8 ((x + 1).toNat : Int)))[i]? = some (.int .u8 (y.toNat : Int))) ∧ (cu.setIfInBounds j (.int .u8 ((x + 1).toNat : Int)))[n]? = some (.int .u8 (if j + 1 ≤ n then 1 else 2)) := by
  have hlt : j < cu.size := (Array.getElem?_eq_some_iff.1 hx).1
  refine ⟨fun i hi => ?_, ?_⟩
  · by_cases hij : j = i
    · subst hij
      exact ⟨x + 1, Array.getElem?_setIfInBounds_self_of_lt hlt⟩
    · rw [Array.getElem?_setIfInBounds_ne hij]
      exact hall i hi
  · by_cases hjn : j = n
    · subst hjn
      rw [Array.getElem?_setIfInBounds_self_of_lt hlt, if_neg (by omega)]
      rw [if_pos (Nat.le_refl _), hx] at hlast
      injection hlast with hlast
      injection hlast with _ hlast
      have h1 : x.toNat = 1 := by omega
      have : x = 1 := UInt8.toNat_inj.1 h1
      subst this
      rfl
    · rw [Array.getElem?_setIfInBounds_ne hjn, hlast, if_pos (by omega), if_pos (by omega)]

section
variable (A : Option Addr) (l : List Rec) (c : Nat) (w : World)
set_option maxRecDepth 100000 in
set_option maxHeartbeats 4000000 in
theorem back_no (hc : l.length ≤ c) (hm : c ≤ maxLen) (h : Recs (fun b => w.heap.size ≤ b) w A l) (hn : ¬ (smallL l ∧ okP l)) :
    Calls Try.prog 6 #[.slice A l.length c] w (TruePost w) := by
  go_enter Try.func6, Try.ntmps6
  go_wp2_with fail
  refine (awake_all w).mono ?_
  rintro e w1 ⟨rfl, hb1⟩
  have HSM := Lib.hid (small_all _ A l c w1 (h.below hb1) hc hm)
  go_wp2_with fail
  with_reducible refine HSM.out.mono ?_
  rintro e w' ⟨rfl, rfl⟩
  by_cases hsm : smallL l
  · rw [decide_eq_true hsm]
    have hok : ¬ okP l := fun o => hn ⟨hsm, o⟩
    have HL := Lib.hid (lay_no _ A l c w1 (h.below hb1) hsm.sm hok)
    have hne : layE l ≠ 0 := fun h => hok (layE_zero.1 h)
    clear HSM hsm h hn hok
    generalize layE l = E at *
    have hE : (E == 0) = false := beq_eq_false_iff_ne.2 hne
    have hE2 : (E != 0) = true := by simp [bne, hE]
    go_wp2_with fail
    with_reducible refine HL.out.mono ?_
    rintro e w2 ⟨rfl, hb2⟩
    have hB2 := hb1.trans (hb2.mono hb1.size)
    clear HL
    go_wp2
    all_goals first | (exfalso; omega) | skip
    go_ret
    exact ⟨rfl, hB2⟩
  · rw [decide_eq_false hsm]
    clear HSM h hn
    go_wp2
    go_ret
    exact ⟨rfl, hb1⟩

set_option maxRecDepth 100000 in
set_option maxHeartbeats 8000000 in
theorem back_yes (hc : l.length ≤ c) (hm : c ≤ maxLen) (h : Recs (fun b => w.heap.size ≤ b) w A l) (hsm : smallL l) (hok : okP l) (hl0 : 0 < l.length) :
    Calls Try.prog 6 #[.slice A l.length c] w (TruePost w) := by
  have h7 : l.length ≤ 7 := by have := count_le hok.1; have := hok.2.2; omega
  have HSZ : Hid (∀ p ∈ l, p.1.size ≤ 10000 ∧ p.2.length ≤ 10000) := hsm.2
  go_enter Try.func6, Try.ntmps6
  go_wp2_with fail
  refine (awake_all w).mono ?_
  rintro e w1 ⟨rfl, hb1⟩
  have HSM := Lib.hid (small_all _ A l c w1 (h.below hb1) hc hm)
  go_wp2_with fail
  with_reducible refine HSM.out.mono ?_
  rintro e w' ⟨rfl, rfl⟩
  rw [decide_eq_true hsm]
  have HL := Lib.hid (lay_ok _ A l c w1 (h.below hb1) hsm.sm hok)
  have HOK := Lib.hid hok
  have HH := Lib.hid h
  clear HSM hsm h hok hc hm
  go_wp2_with fail
  with_reducible refine HL.out.mono ?_
  rintro e w2 ⟨g, rfl, hg, hx2, hb2⟩
  have hB2 := hb1.trans (hb2.mono hb1.size)
  have HR := Lib.hid (read_all (layB l) (some ⟨g, 0, none⟩) 256 w2 (full_lie hx2) (by rw [lay_len HOK.out]; omega))
  rw [lay_len HOK.out] at HR
  clear HL
  go_wp2_with fail
  with_reducible refine HR.out.mono ?_
  rintro e w3 (⟨l9, A9, c9, gC, base, hrd, rfl, hgC, hgb, hbs, hor, hb3⟩ | ⟨hrd, _⟩)
  · rw [read_lay HOK.out] at hrd
    injection hrd with hrd
    subst hrd
    have hB3 := hB2.trans (hb3.mono hB2.size)
    have hx3 := hx2.below hb3 hx2.lt
    have hg2 := hx2.lt
    have hwg : w.heap.size ≤ g := Nat.le_trans hb1.size hg
    have HLL := Lib.hid (lay_len HOK.out)
    have HOR := Lib.hid hor
    have HB3 := Lib.hid hB3
    clear HR hx2 hor hB3
    generalize hX : layB l = X0 at *
    clear hX
    go_wp2
    go_loopw [9] (BkRel1 g w3) (fun i _ => 256 - (intOf i).toNat)
    case atStart => exact ⟨0, X0, rfl, by omega, HLL.out, hx3, Fr.refl _ _⟩
    case round =>
      clear hx3 HLL
      obtain ⟨k, X, rfl, hk, hXl, hxr, hfr⟩ := hrel
      by_cases hlt : k < 256
      · obtain ⟨x, hx⟩ : ∃ x : UInt8, X[k]? = some x := ⟨_, List.getElem?_eq_getElem (show k < X.length by omega)⟩
        have hcell : wr.cell? ⟨g, k, none⟩ = some (.int .u8 (x.toNat : Int)) := by
          rw [hxr.cell k]
          simp [u8C, hx]
        have hfz := hxr.frozen k
        have hw1 := wrap_up x
        have hx5 := hxr.set_ k (.int .u8 ((x + 1).toNat : Int))
        rw [u8C_set] at hx5
        have hf5 := hfr.set_ (p := ⟨g, k, none⟩) rfl (.int .u8 ((x + 1).toNat : Int))
        have hX5 : (X.set k (x + 1)).length = 256 := by rw [List.length_set]; exact hXl
        have HX5 := Lib.hid hX5
        clear hX5 hxr hfr hXl HOR HH hx
        generalize X.set k (x + 1) = X' at *
        generalize (x + 1).toNat = y at *
        generalize x.toNat = z at *
        go_wp2
        go_roundw
        case rel => exact ⟨k + 1, X', by go_num, by omega, HX5.out, hx5, hf5⟩
        case measure => simp [intOf]; omega
      · have hB5 : Below w.heap.size w wr := HB3.out.trans (hfr.below HB3.out.size (fun b hb => by omega))
        have hor5 : OwnRecs base gC wr A9 c9 l := by
          obtain ⟨xs, o1, o2, o3⟩ := HOR.out
          refine ⟨xs, ⟨o1.1, ?_⟩, o2.fr ⟨hfr.os, hfr.tape, hfr.output, hfr.size, fun b hb hn => hfr.block b hb (fun e => ?_)⟩, o3⟩
          · rcases o1.2 with q | ⟨gq, cap, cur, hv, hbg, hh, r⟩
            · exact .inl q
            · exact .inr ⟨gq, cap, cur, hv, hbg, (hfr.block gq (Array.getElem?_eq_some_iff.1 hh).1 (fun e => by have : gq = g := e; omega)).trans hh, r⟩
          · have h1 : b = gC := by simpa using hn
            have h2 : b = g := e
            omega
        have hgl : gC < wr.heap.size := Nat.lt_of_lt_of_le (Nat.lt_of_lt_of_le hgb hbs) hfr.size
        have HSA := Lib.hid (same_all _ _ A A9 l l c c9 wr (HH.out.below hB5) hor5.recs (by omega) (by omega))
        obtain rfl : k = 256 := by omega
        clear HOR HB3 hxr hfr
        go_wp2_with fail
        with_reducible refine HSA.out.mono ?_
        rintro e w6 ⟨rfl, hb6⟩
        have hB6 := hB5.trans (hb6.mono hB5.size)
        obtain ⟨gm, cur0, rfl, hgm, hxm, hrow⟩ := bk_start (hor5.below hb6) hl0
        have hgl6 : gC < w6.heap.size := Nat.lt_of_lt_of_le hgl hb6.size
        clear HSA hor5 hB5
        go_wp2
        go_loopw [11] (BkRel2 l gm gC base w) (fun i _ => l.length - (intOf i).toNat)
        case atStart => exact ⟨0, cur0, rfl, by omega, hxm, hrow, hgl6, hB6⟩
        case round =>
          clear hxm hrow hgl6 hB6
          obtain ⟨k, cur, rfl, hk, hxm, hrow, hgl6, hbr⟩ := hrel
          by_cases hlt : k < l.length
          · obtain ⟨a1, v, a2, a3⟩ := hrow k hlt
            rcases a3 with ⟨a3, _⟩ | ⟨_, D, rfl, a4⟩
            · omega
            · have hsz := HSZ.out _ (List.getElem_mem hlt)
              obtain ⟨g', c', w7, cur', hr7, hg7, hcc, hcm, hx7, hsz7, hall, hlast, hb7⟩ := run_app_full a4.lie (by omega)
              have hgml := hxm.lt
              have r1 : wr.cell? ⟨gm, k * 2 + 1, none⟩ = some (.slice D l[k].2.length l[k].2.length) := (hxm.cell _).trans a2
              have hxm7 := hxm.below hb7 hgml
              have r2 : w7.cell? ⟨gm, k * 2 + 1, none⟩ = some (.slice D l[k].2.length l[k].2.length) := (hxm7.cell _).trans a2
              have f2 := hxm7.frozen (k * 2 + 1)
              have hcl : k * 2 + 1 < cur.size := (Array.getElem?_eq_some_iff.1 a2).1
              have hxm8 := hxm7.set_ (k * 2 + 1) (.slice (some ⟨g', 0, none⟩) (l[k].2.length + 1) c')
              have r3 : (w7.setCell ⟨gm, k * 2 + 1, none⟩ (.slice (some ⟨g', 0, none⟩) (l[k].2.length + 1) c')).cell? ⟨gm, k * 2 + 1, none⟩ = some (.slice (some ⟨g', 0, none⟩) (l[k].2.length + 1) c') := by
                rw [hxm8.cell, Array.getElem?_setIfInBounds_self_of_lt hcl]
              have hx8 := hx7.far (p := ⟨gm, k * 2 + 1, none⟩) (by show g' ≠ gm; omega) (.slice (some ⟨g', 0, none⟩) (l[k].2.length + 1) c')
              have hfr8 : Fr (fun b => b = gm ∨ wr.heap.size ≤ b) wr (w7.setCell ⟨gm, k * 2 + 1, none⟩ (.slice (some ⟨g', 0, none⟩) (l[k].2.length + 1) c')) := (Fr.of_below hb7).set_ (p := ⟨gm, k * 2 + 1, none⟩) (.inl rfl) _
              have HFR := Lib.hid hfr8
              have HROW := Lib.hid hrow
              have HX8 := Lib.hid hx8
              have HXM8 := Lib.hid hxm8
              have HALL := Lib.hid hall
              have HLAST := Lib.hid hlast
              have hg8 : g' < (w7.setCell ⟨gm, k * 2 + 1, none⟩ (.slice (some ⟨g', 0, none⟩) (l[k].2.length + 1) c')).heap.size := hx8.lt
              have hk0 : (0 : Int) ≤ (k : Int) := by omega
              have hkl : (k : Int) < (l.length : Int) := by omega
              have hBw := hbr.size
              have HBR := Lib.hid hbr
              have HCL := Lib.hid hcl
              clear hrow a1 a2 a4 hxm hxm7 hxm8 hx7 hx8 hall hlast hfr8 hcl hbr
              generalize hpp : l[k] = p at *
              have HPP := Lib.hid hpp
              clear hpp
              generalize hnn : p.2.length = n at *
              have HNN := Lib.hid hnn
              clear hnn
              go_wp2_with (at_builtin; refine wpList_append_run rfl (.tmp 74) (.tmp 75) _ _ rfl rfl rfl hr7 ?_)
              clear hr7 r1 r2 f2
              generalize hw8 : w7.setCell ⟨gm, k * 2 + 1, none⟩ (.slice (some ⟨g', 0, none⟩) (n + 1) c') = w8 at *
              clear hw8
              go_loopw [12] (BkRel3 n g' w8) (fun i _ => n + 1 - (intOf i).toNat)
              case atStart => exact ⟨0, cur', rfl, by omega, HX8.out, HALL.out, by rw [HLAST.out, if_pos (by omega)], Fr.refl _ _⟩
              case round =>
                clear r3
                obtain ⟨j, cu, rfl, hj, hxj, hallj, hlastj, hfj⟩ := hrel
                have hxmj := HXM8.out.fr hfj (show ¬ gm = g' by omega)
                have r4 : wr.cell? ⟨gm, k * 2 + 1, none⟩ = some (.slice (some ⟨g', 0, none⟩) (n + 1) c') := (hxmj.cell _).trans (Array.getElem?_setIfInBounds_self_of_lt HCL.out)
                by_cases hjl : j < n + 1
                · obtain ⟨x, hx⟩ := hallj j hjl
                  obtain ⟨hall2, hlast2⟩ := bk3_step hjl hallj hlastj hx
                  have q1 : wr.cell? ⟨g', j, none⟩ = some (.int .u8 (x.toNat : Int)) := (hxj.cell _).trans hx
                  have f1 := hxj.frozen j
                  have hw1 := wrap_up x
                  have hxj2 := (hxj.set_ j (.int .u8 ((x + 1).toNat : Int))).drew
                  have hfj2 := (hfj.set_ (p := ⟨g', j, none⟩) rfl (.int .u8 ((x + 1).toNat : Int))).drew
                  have HA := Lib.hid hall2
                  have HLA := Lib.hid hlast2
                  clear hall2 hlast2 hallj hlastj hx hxj hfj hxmj HROW HX8 HXM8 HALL HLAST HFR HBR
                  generalize cu.setIfInBounds j (.int .u8 ((x + 1).toNat : Int)) = cu2 at *
                  generalize (x + 1).toNat = y at *
                  generalize x.toNat = z at *
                  have hj0 : (0 : Int) ≤ (j : Int) := by omega
                  have hj1 : (j : Int) < (n : Int) + 1 := by omega
                  go_wp2_with fail
                  go_region
                  go_wp2
                  go_roundw
                  case rel => exact ⟨j + 1, cu2, by go_num, by omega, hxj2, HA.out, HLA.out, hfj2⟩
                  case measure => simp [intOf]; omega
                · obtain rfl : j = n + 1 := by omega
                  rw [if_neg (by omega)] at hlastj
                  have q2 : wr.cell? ⟨g', n, none⟩ = some (.int .u8 2) := (hxj.cell _).trans hlastj
                  have hnx := bk_next HROW.out (HFR.out.trans (hfj.mono (fun b hb => .inr (by have : b = g' := hb; omega)))) hlt (by omega) (v := .slice (some ⟨g', 0, none⟩) (n + 1) c') (by
                    rw [HPP.out]
                    refine ⟨g', c', by rw [HNN.out], by rw [HNN.out]; exact hcc, hcm, by omega, by omega, hxj.lt, ?_⟩
                    rw [HNN.out]
                    exact q2)
                  have hB9 : Below w.heap.size w wr := HBR.out.trans ((HFR.out.trans (hfj.mono (fun b hb => .inr (by have : b = g' := hb; omega)))).below hBw (fun b hb => by rcases hb with rfl | hb <;> omega))
                  have HNX := Lib.hid hnx
                  have hgl9 : gC < wr.heap.size := Nat.lt_of_lt_of_le hgl6 (Nat.le_trans HFR.out.size hfj.size)
                  clear hnx q2 hlastj hallj hxj hfj HROW HX8 HXM8 HALL HLAST HFR HBR HPP HNN
                  go_wp2
                  all_goals first | (exfalso; omega) | skip
                  go_roundw
                  case rel => exact ⟨k + 1, _, by go_num, by omega, hxmj, HNX.out, hgl9, hB9⟩
                  case measure => simp [intOf]; omega
          · obtain rfl : k = l.length := by omega
            have HROW := Lib.hid hrow
            have HXM := Lib.hid hxm
            clear hrow
            go_wp2
            go_loopw [13] (BkRel4 l wr) (fun i _ => l.length - (intOf i).toNat)
            case atStart => exact ⟨0, rfl, by omega, Below.refl _ _⟩
            case round =>
              obtain ⟨k, rfl, hk4, hw⟩ := hrel
              have hBw : Below w.heap.size w wr := hbr.trans (hw.mono hbr.size)
              by_cases hlt : k < l.length
              · obtain ⟨a1, v, a2, a3⟩ := HROW.out k hlt
                rcases a3 with ⟨_, g', c', rfl, b3, b4, b5, b6, b7, b8⟩ | ⟨a3, _⟩
                · have hxr := HXM.out.below hw HXM.out.lt
                  have r1 : wr.cell? ⟨gm, k * 2, none⟩ = some (.string l[k].1) := (hxr.cell _).trans a1
                  have r2 : wr.cell? ⟨gm, k * 2 + 1, none⟩ = some (.slice (some ⟨g', 0, none⟩) (l[k].2.length + 1) c') := (hxr.cell _).trans a2
                  have r3 : wr.cell? ⟨g', l[k].2.length, none⟩ = some (.int .u8 2) := (hw.cell (p := ⟨g', l[k].2.length, none⟩) b7).trans b8
                  obtain ⟨ad, D, d, rfl, _, q1, q2, _⟩ := (HH.out.below hBw).at_ hlt
                  have hsz := HSZ.out _ (List.getElem_mem hlt)
                  have hk0 : (0 : Int) ≤ (k : Int) := by omega
                  have hkl : (k : Int) < (l.length : Int) := by omega
                  clear HROW HXM HH hxr a1 a2 b8 hxm
                  generalize l[k] = p at *
                  obtain ⟨p1, p2⟩ := p
                  simp only at r1 r2 r3 q1 q2 hsz b3
                  generalize p2.length = n at *
                  have hn0 : (0 : Int) ≤ (n : Int) := by omega
                  have hn1 : (n : Int) < (n : Int) + 1 := by omega
                  go_wp2_with fail
                  go_quiet (fail)
                  go_wp2
                  go_roundw
                  case rel => exact ⟨k + 1, by go_num, by omega, below_drewN hw _⟩
                  case measure => simp [intOf]; omega
                · omega
              · clear HROW HXM HH hxm
                go_wp2
                all_goals first | (exfalso; omega) | skip
                go_ret
                exact ⟨rfl, hBw⟩
  · rw [read_lay HOK.out] at hrd
    cases hrd

set_option maxRecDepth 100000 in
set_option maxHeartbeats 8000000 in
theorem back_nil (hc : l.length ≤ c) (hm : c ≤ maxLen) (h : Recs (fun b => w.heap.size ≤ b) w A l) (hsm : smallL l) (hok : okP l) (hl0 : l.length = 0) :
    Calls Try.prog 6 #[.slice A l.length c] w (TruePost w) := by
  have h7 : l.length ≤ 7 := by have := count_le hok.1; have := hok.2.2; omega
  have HL0 := Lib.hid hl0
  clear hl0
  go_enter Try.func6, Try.ntmps6
  go_wp2_with fail
  refine (awake_all w).mono ?_
  rintro e w1 ⟨rfl, hb1⟩
  have HSM := Lib.hid (small_all _ A l c w1 (h.below hb1) hc hm)
  go_wp2_with fail
  with_reducible refine HSM.out.mono ?_
  rintro e w' ⟨rfl, rfl⟩
  rw [decide_eq_true hsm]
  have HL := Lib.hid (lay_ok _ A l c w1 (h.below hb1) hsm.sm hok)
  have HOK := Lib.hid hok
  have HH := Lib.hid h
  clear HSM hsm h hok hc hm
  go_wp2_with fail
  with_reducible refine HL.out.mono ?_
  rintro e w2 ⟨g, rfl, hg, hx2, hb2⟩
  have hB2 := hb1.trans (hb2.mono hb1.size)
  have HR := Lib.hid (read_all (layB l) (some ⟨g, 0, none⟩) 256 w2 (full_lie hx2) (by rw [lay_len HOK.out]; omega))
  rw [lay_len HOK.out] at HR
  clear HL
  go_wp2_with fail
  with_reducible refine HR.out.mono ?_
  rintro e w3 (⟨l9, A9, c9, gC, base, hrd, rfl, hgC, hgb, hbs, hor, hb3⟩ | ⟨hrd, _⟩)
  · rw [read_lay HOK.out] at hrd
    injection hrd with hrd
    subst hrd
    have hB3 := hB2.trans (hb3.mono hB2.size)
    have hx3 := hx2.below hb3 hx2.lt
    have hg2 := hx2.lt
    have hwg : w.heap.size ≤ g := Nat.le_trans hb1.size hg
    have HLL := Lib.hid (lay_len HOK.out)
    have HOR := Lib.hid hor
    have HB3 := Lib.hid hB3
    clear HR hx2 hor hB3
    generalize hX : layB l = X0 at *
    clear hX
    go_wp2
    go_loopw [9] (BkRel1 g w3) (fun i _ => 256 - (intOf i).toNat)
    case atStart => exact ⟨0, X0, rfl, by omega, HLL.out, hx3, Fr.refl _ _⟩
    case round =>
      clear hx3 HLL
      obtain ⟨k, X, rfl, hk, hXl, hxr, hfr⟩ := hrel
      by_cases hlt : k < 256
      · obtain ⟨x, hx⟩ : ∃ x : UInt8, X[k]? = some x := ⟨_, List.getElem?_eq_getElem (show k < X.length by omega)⟩
        have hcell : wr.cell? ⟨g, k, none⟩ = some (.int .u8 (x.toNat : Int)) := by
          rw [hxr.cell k]
          simp [u8C, hx]
        have hfz := hxr.frozen k
        have hw1 := wrap_up x
        have hx5 := hxr.set_ k (.int .u8 ((x + 1).toNat : Int))
        rw [u8C_set] at hx5
        have hf5 := hfr.set_ (p := ⟨g, k, none⟩) rfl (.int .u8 ((x + 1).toNat : Int))
        have hX5 : (X.set k (x + 1)).length = 256 := by rw [List.length_set]; exact hXl
        have HX5 := Lib.hid hX5
        clear hX5 hxr hfr hXl HOR HH hx
        generalize X.set k (x + 1) = X' at *
        generalize (x + 1).toNat = y at *
        generalize x.toNat = z at *
        go_wp2
        go_roundw
        case rel => exact ⟨k + 1, X', by go_num, by omega, HX5.out, hx5, hf5⟩
        case measure => simp [intOf]; omega
      · have hB5 : Below w.heap.size w wr := HB3.out.trans (hfr.below HB3.out.size (fun b hb => by omega))
        have hor5 : OwnRecs base gC wr A9 c9 l := by
          obtain ⟨xs, o1, o2, o3⟩ := HOR.out
          refine ⟨xs, ⟨o1.1, ?_⟩, o2.fr ⟨hfr.os, hfr.tape, hfr.output, hfr.size, fun b hb hn => hfr.block b hb (fun e => ?_)⟩, o3⟩
          · rcases o1.2 with q | ⟨gq, cap, cur, hv, hbg, hh, r⟩
            · exact .inl q
            · exact .inr ⟨gq, cap, cur, hv, hbg, (hfr.block gq (Array.getElem?_eq_some_iff.1 hh).1 (fun e => by have : gq = g := e; omega)).trans hh, r⟩
          · have h1 : b = gC := by simpa using hn
            have h2 : b = g := e
            omega
        have hgl : gC < wr.heap.size := Nat.lt_of_lt_of_le (Nat.lt_of_lt_of_le hgb hbs) hfr.size
        have HSA := Lib.hid (same_all _ _ A A9 l l c c9 wr (HH.out.below hB5) hor5.recs (by omega) (by omega))
        obtain rfl : k = 256 := by omega
        clear HOR HB3 hxr hfr
        go_wp2_with fail
        with_reducible refine HSA.out.mono ?_
        rintro e w6 ⟨rfl, hb6⟩
        have hB6 := hB5.trans (hb6.mono hB5.size)
        clear HSA hor5 hB5 HH
        rw [HL0.out]
        go_wp2
        refine wp_loop_rounds 1 ?_
        rw [rounds_succ]
        go_wp2_with fail
        refine wp_loop_rounds 1 ?_
        rw [rounds_succ]
        go_wp2_with fail
        go_ret
        exact ⟨rfl, hB6⟩
  · rw [read_lay HOK.out] at hrd
    cases hrd
end
theorem backW (A : Option Addr) (l : List Rec) (c : Nat) (w : World) (hc : l.length ≤ c) (hm : c ≤ maxLen) (h : Recs (fun b => w.heap.size ≤ b) w A l) :
    Calls Try.prog 6 #[.slice A l.length c] w (TruePost w) := by
  by_cases hn : smallL l ∧ okP l
  · by_cases hl0 : l.length = 0
    · exact back_nil A l c w hc hm h hn.1 hn.2 hl0
    · exact back_yes A l c w hc hm h hn.1 hn.2 (by omega)
  · exact back_no A l c w hc hm h hn
end Go.Proofs.Ythgoapcafjijfaa.Pg
