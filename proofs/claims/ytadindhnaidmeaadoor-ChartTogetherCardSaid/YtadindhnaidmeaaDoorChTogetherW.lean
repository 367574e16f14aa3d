/-
  The walk of ChartTogether.
-/
import Derived.Test.YtadindhnaidmeaaDoorChL
import Derived.Test.YtadindhnaidmeaaDoorChP
import Derived.Test.YtadindhnaidmeaaDoorChT
import Derived.Deep.RegionHeld
namespace Go.Proofs.YtadindhnaidmeaaDoor.Ch
open Go.RowKit

theorem below_drew {B : Nat} {a w : World} (h : Below B a w) : Below B a w.drew := ⟨h.os, h.tape, h.output, h.size, h.block⟩
theorem one_nums (w : World) (x : Int) : Nums (w.alloc (.cells #[.int .i64 x] 3)) (some ⟨w.heap.size, 0, none⟩) [x] := fun _ => by
  refine ⟨w.heap.size, 0, rfl, by simp, fun j hj => ?_⟩
  rw [Nat.zero_add, (Blk.new w 3 #[.int .i64 x]).cell j]
  have : j < 1 := hj
  match j, this with
  | 0, _ => rfl
theorem pair_nums (w : World) (g : Nat) (hg : w.heap.size = g) (x : Int) : Nums (w.alloc (.cells #[.int .i64 x, .int .i64 x] 3)) (some ⟨g, 0, none⟩) [x, x] := fun _ => by
  subst hg
  refine ⟨w.heap.size, 0, rfl, by simp, fun j hj => ?_⟩
  rw [Nat.zero_add, (Blk.new w 3 #[.int .i64 x, .int .i64 x]).cell j]
  have : j < 2 := hj
  match j, this with
  | 0, _ => rfl
  | 1, _ => rfl
theorem take_in {l : List Int} {k : Nat} (hk : k < l.length) (h : ∀ x ∈ l.take k, exB x = true) (hx : exB l[k] = true) : ∀ x ∈ l.take (k + 1), exB x = true := by
  intro x hm
  rw [List.take_succ_eq_append_getElem hk, List.mem_append, List.mem_singleton] at hm
  rcases hm with hm | rfl
  · exact h x hm
  · exact hx
theorem out_two {x : Int} (h : exB x = false) : x < 0 ∨ (¬ x < 0 ∧ 12 ≤ x) := by unfold exB at h; simp at h; omega
theorem in_two {x : Int} (h : exB x = true) : ¬ x < 0 ∧ ¬ 12 ≤ x := by unfold exB at h; simp at h; omega
set_option maxRecDepth 100000 in
set_option maxHeartbeats 4000000 in
theorem together_walk (A : Option Addr) (l : List Int) (cap : Nat) (B : Option Addr) (m : List Int) (cbp : Nat) (w : World) (hA : Nums w A l) (hB : Nums w B m) (hT : Tabs w) : Calls Tryd.prog 8 #[.slice A l.length cap, .slice B m.length cbp] w fun e w' => e = .returned (.bool true) ∧ Below w.heap.size w w' := by
  have HT := Lib.hid hT
  have HA := Lib.hid hA
  have HB := Lib.hid hB
  clear hT hA hB
  generalize hL : l.length = len at *
  have HL := Lib.hid hL
  clear hL
  generalize hM : m.length = n at *
  have HM := Lib.hid hM
  clear hM
  by_cases hl : 300 < len ∨ 300 < n ∨ len = 0
  · have hx : (300 : Int) < (len : Int) ∨ (¬ (300 : Int) < (len : Int) ∧ (300 : Int) < (n : Int)) ∨ (¬ (300 : Int) < (len : Int) ∧ ¬ (300 : Int) < (n : Int) ∧ ((len : Int) == 0) = true) := by
      simp
      omega
    clear hl
    rcases hx with h1 | ⟨h1, h2⟩ | ⟨h1, h2, h3⟩
    all_goals
      go_enter Tryd.func8, Tryd.ntmps8
      go_wp2_with fail
      refine (awake_any w HT.out).mono ?_
      rintro e w1 ⟨rfl, hb⟩
      go_wp2
      go_ret
      exact ⟨rfl, hb⟩
  · have hlen : len ≤ 300 := by omega
    have hn : n ≤ 300 := by omega
    have hl0 : 0 < len := by omega
    have d1 : decide ((300 : Int) < (len : Int)) = false := decide_eq_false (by omega)
    have d2 : decide ((300 : Int) < (n : Int)) = false := decide_eq_false (by omega)
    have d3 : ((len : Int) == 0) = false := by simp; omega
    clear hl
    go_enter Tryd.func8, Tryd.ntmps8
    go_wp2_with fail
    refine (awake_any w HT.out).mono ?_
    rintro e w1 ⟨rfl, hb⟩
    go_wp2
    clear d1 d2 d3
    have HBl := Lib.hid hb
    have HT1 := Lib.hid (HT.out.to hb)
    have HA1 := Lib.hid (HA.out.to hb)
    have HB1 := Lib.hid (HB.out.to hb)
    clear HT HA HB hb
    go_loopw [6] (fun x wr => ∃ k : Nat, k ≤ len ∧ x = .int .i64 k ∧ Hid (∀ x ∈ l.take k, exB x = true) ∧ w1 = wr) (fun x _ => len - (intOf x).toNat)
    case atStart => exact ⟨0, by omega, rfl, (by intro x hx; simp at hx), rfl⟩
    case round =>
      obtain ⟨k, hk, rfl, HK, rfl⟩ := hrel
      by_cases hlt : k < len
      · have hki : k < l.length := by rw [HL.out]; exact hlt
        obtain ⟨g, off, e0, hg, c0⟩ := HA1.out.at_ hki
        subst e0
        have HK2 := Lib.hid (fun hx => take_in hki HK.out hx)
        generalize l[k] = x at *
        have hklt : ((k : Nat) : Int) < (len : Int) := by omega
        cases he : exB x
        · have hx := out_two he
          clear he HK2
          rcases hx with h1 | ⟨h1, h2⟩
          all_goals
            go_wp2
            go_ret
            exact ⟨rfl, HBl.out⟩
        · obtain ⟨h1, h2⟩ := in_two he
          have HK3 := Lib.hid (HK2.out he)
          clear he HK2
          go_wp2
          go_roundw
          case rel => exact ⟨k + 1, by omega, by go_num, HK3, trivial⟩
          case measure => simp [intOf]; omega
      have hkl : k = len := by omega
      subst hkl
      have HIn : Hid (∀ x ∈ l, exB x = true) := by
        have := HK.out
        rwa [List.take_of_length_le (by rw [HL.out]; omega)] at this
      clear HK hk hlt
      go_wp2
      go_loopw [7] (fun x wr => ∃ j : Nat, j ≤ n ∧ x = .int .i64 j ∧ Hid (∀ x ∈ m.take j, exB x = true) ∧ w1 = wr) (fun x _ => n - (intOf x).toNat)
      case atStart => exact ⟨0, by omega, rfl, (by intro x hx; simp at hx), rfl⟩
      case round =>
        obtain ⟨j, hk, rfl, HK, rfl⟩ := hrel
        by_cases hlt : j < n
        · have hki : j < m.length := by rw [HM.out]; exact hlt
          obtain ⟨g, off, e0, hg, c0⟩ := HB1.out.at_ hki
          subst e0
          have HK2 := Lib.hid (fun hx => take_in hki HK.out hx)
          generalize m[j] = x at *
          have hklt : ((j : Nat) : Int) < (n : Int) := by omega
          cases he : exB x
          · have hx := out_two he
            clear he HK2
            rcases hx with h1 | ⟨h1, h2⟩
            all_goals
              go_wp2
              go_ret
              exact ⟨rfl, HBl.out⟩
          · obtain ⟨h1, h2⟩ := in_two he
            have HK3 := Lib.hid (HK2.out he)
            clear he HK2
            go_wp2
            go_roundw
            case rel => exact ⟨j + 1, by omega, by go_num, HK3, trivial⟩
            case measure => simp [intOf]; omega
        have hjn : j = n := by omega
        subst hjn
        have HIm : Hid (∀ x ∈ m, exB x = true) := by
          have := HK.out
          rwa [List.take_of_length_le (by rw [HM.out]; omega)] at this
        clear HK hk hlt
        go_wp2
        have hln : ∀ r', r' < k → r' < l.length := fun r' h => by rw [HL.out]; exact h
        go_loopw [8, 9] (fun v x wr => ∃ (r nT : Nat) (T : List Int) (A' : Option Addr) (c' : Nat) (z : Int), r ≤ k ∧ v = .slice A' nT c' ∧ x = .int .i64 z ∧ Hid (z + 1 = (r : Int)) ∧ Hid (nT + 2 * r = 2 * k) ∧ Hid (RowI w1.heap.size wr A' c' nT T) ∧ Hid (setF T 0 = setF (l.drop r) 0) ∧ Hid (Below w1.heap.size w1 wr)) (fun _ x _ => (intOf x + 1).toNat)
        case atStart => exact ⟨k, 0, [], none, 0, (k : Int) - 1, by omega, rfl, rfl, (by unfold Hid; omega), (by unfold Hid; omega), RowI.nil_ _ _, (by unfold Hid; rw [List.drop_eq_nil_of_le (by rw [HL.out]; omega)]), Below.refl _ _⟩
        case round =>
          rename World => wr
          obtain ⟨r, nT, T, A', c', z, hr, rfl, rfl, HZ, HN, HRw, HSt, HBw⟩ := hrel
          rcases r with _ | r
          · obtain rfl : z = -1 := by have := HZ.out; omega
            have HN0 : nT = 2 * k := by have := HN.out; omega
            have HRoll : Hid (rollP T = rollP l) := roll_same HSt.out
            subst HN0
            clear HZ HN HSt
            have hRl := Roll_any l A cap wr (by rw [HL.out]; omega) (HA1.out.to HBw.out)
            rw [HL.out] at hRl
            have HRT := Lib.hid (fun w2 (hb : Below wr.heap.size wr w2) => Roll_any T A' c' w2 (by rw [HRw.out.1]; omega) ((HRw.out.keep hb).nums))
            rw [HRoll.out, HRw.out.1] at HRT
            have h0l : 0 < l.length := hln 0 (by omega)
            obtain ⟨g, off, e0, hg, c0⟩ := HA1.out.at_ h0l
            subst e0
            have hx0 := HIn.out l[0] (List.getElem_mem h0l)
            have HRin := Lib.hid (roll_in h0l)
            have HRact := Lib.hid (fun h => roll_act h0l HIn.out h)
            have HRb := Lib.hid (fun (h : 0 < m.length) (e : rollP m = rollP l) => roll_both h0l h e)
            obtain ⟨h1x, h2x⟩ := one_roll hx0
            generalize hx : l[0] = x at *
            clear hx
            have c1 := HBw.out.cell (p := ⟨g, off, none⟩) hg
            rw [Nat.add_zero] at c0
            rw [c0] at c1
            have hgr : g < wr.heap.size := Nat.lt_of_lt_of_le hg HBw.out.size
            have hb1 := (Below.refl wr.heap.size wr).alloc (Nat.le_refl _) (.cells #[.int .i64 x] 3)
            have hb2 := hb1.alloc hb1.size (.cells #[.int .i64 x, .int .i64 x] 3)
            have hR1d := Roll_any [x] (some ⟨wr.heap.size, 0, none⟩) 1 (wr.alloc (.cells #[.int .i64 x] 3)).drew (by simp) (one_nums wr x)
            have hR2d := Roll_any [x, x] (some ⟨wr.heap.size + 1, 0, none⟩) 2 ((wr.alloc (.cells #[.int .i64 x] 3)).alloc (.cells #[.int .i64 x, .int .i64 x] 3)).drew (by simp) (pair_nums _ _ (by simp) x)
            rw [h1x, show ([x] : List Int).length = 1 from rfl] at hR1d
            rw [h2x, show ([x, x] : List Int).length = 2 from rfl] at hR2d
            have c2 := hb1.cell (p := ⟨g, off, none⟩) hgr
            rw [c1] at c2
            have c3 := hb2.cell (p := ⟨g, off, none⟩) hgr
            rw [c1] at c3
            clear h1x h2x c0
            have hRTd := HRT.out wr.drew (below_drew (Below.refl _ _))
            have c1d : wr.drew.cell? ⟨g, off, none⟩ = some (.int .i64 x) := c1
            have c2d : (wr.alloc (.cells #[.int .i64 x] 3)).drew.cell? ⟨g, off, none⟩ = some (.int .i64 x) := c2
            have c3d : ((wr.alloc (.cells #[.int .i64 x] 3)).alloc (.cells #[.int .i64 x, .int .i64 x] 3)).drew.cell? ⟨g, off, none⟩ = some (.int .i64 x) := c3
            have hb2d := below_drew hb2
            generalize rollP l = S at *
            clear c2 c3 hb1 hb2
            go_wp2_with fail
            refine hRl.mono ?_
            rintro e w2 ⟨rfl, rfl⟩
            go_wp2_with fail
            go_region_held (fun w' => w'.cell? ⟨g, off, none⟩ = some (.int .i64 x)) (first | exact c1d | exact c2d | exact c3d | assumption) ((first | (go_at_call 22; (with_reducible refine hRTd.mono ?_); rintro e w2 ⟨rfl, rfl⟩) | (go_at_call 22; (with_reducible refine hR1d.mono ?_); rintro e w2 ⟨rfl, rfl⟩) | (go_at_call 22; (with_reducible refine hR2d.mono ?_); rintro e w2 ⟨rfl, rfl⟩)))
            generalize hW : ((wr.alloc (.cells #[.int .i64 x] 3)).alloc (.cells #[.int .i64 x, .int .i64 x] 3)).drew = W at *
            have hbW := HBw.out.trans (hb2d.mono HBw.out.size)
            clear hW hRTd hR1d hR2d hRl c1 c1d c2d c3d hb2d HRT HRw hx0
            obtain ⟨A4, c4, w4, hr4, hrow4, hb4⟩ := run_apps (d := cap) (N := k) (RowI.nil_ W.heap.size W) (HA1.out.to hbW) HL.out (by omega) (by omega) (by omega) (Nat.le_refl _)
            rw [List.nil_append] at hrow4
            have hb4' := hb4 W (Below.refl _ _)
            obtain ⟨A5, c5, w5, hr5, hrow5, hb5⟩ := run_apps (d := cbp) (N := k + j) hrow4 ((HB1.out.to hbW).to hb4') HM.out rfl (by omega) (by omega) hb4'.size
            have hb5' := hb5 W hb4'
            have hbV := hbW.trans (hb5'.mono hbW.size)
            have HBV := Lib.hid (HBl.out.trans (hbV.mono HBl.out.size))
            have hRm := Roll_any m B cbp w5 (by rw [HM.out]; omega) (HB1.out.to hbV)
            rw [HM.out] at hRm
            have hRb := Roll_any (l ++ m) A5 c5 w5 (by rw [List.length_append, HL.out, HM.out]; omega) hrow5.nums
            rw [hrow5.1] at hRb
            have HA5 := Lib.hid (HA1.out.to hbV)
            have HM0 := HM.out
            clear hb4 hb5 hb4' hb5' hrow4 hrow5 hbW hbV HB1
            have main : ∀ x ∈ l, actB x = true → actB S = true := fun x hx ha => HRact.out ⟨x, hx, ha⟩
            have HMain := Lib.hid main
            clear main HRact
            have hS := in_two HRin.out
            obtain ⟨s1, s2⟩ := hS
            generalize rollP (l ++ m) = SB at *
            generalize rollP m = SM at *
            have hcase : (j = 0) ∨ (0 < j ∧ (SM == S) = false) ∨ (0 < j ∧ (SM == S) = true ∧ (SB != S) = false) := by
              rcases Nat.eq_zero_or_pos j with h | h
              · exact .inl h
              · by_cases hs : SM = S
                · right; right
                  exact ⟨h, by simpa using hs, by simpa using HRb.out (by omega) hs⟩
                · right; left
                  exact ⟨h, by simpa using hs⟩
            clear HRb HM0
            rcases hcase with h0 | ⟨h0, g1⟩ | ⟨h0, g1, g2⟩
            · subst h0
              go_wp2_with (at_builtin; first | refine wpList_append_run rfl (.const (.slice none 0 0)) (.tmp 119) _ _ rfl rfl rfl hr4 ?_ | refine wpList_append_run rfl (.tmp 120) (.tmp 121) _ _ rfl rfl rfl hr5 ?_)
              go_loopw [12, 13] (fun v y wz => ∃ (b : Bool) (q : Nat), q ≤ k ∧ v = .bool b ∧ y = .int .i64 q ∧ Hid (b = true → actB S = true) ∧ w5 = wz) (fun _ y _ => k - (intOf y).toNat)
              case atStart => exact ⟨false, 0, by omega, rfl, rfl, (fun h => by cases h), rfl⟩
              case round =>
                obtain ⟨b, q, hq, rfl, rfl, HQ, rfl⟩ := hrel
                by_cases hlq : q < k
                · have hqi : q < l.length := by rw [HL.out]; exact hlq
                  obtain ⟨g2', off2, e2, hg2', c6⟩ := HA5.out.at_ hqi
                  injection e2 with e2
                  injection e2 with e2a e2b
                  subst e2a e2b
                  have HMq := Lib.hid (HMain.out l[q] (List.getElem_mem hqi))
                  generalize l[q] = y at *
                  have hqk : ((q : Nat) : Int) < (k : Int) := by omega
                  cases b
                  · have hAc := Acting_any y w5
                    generalize actB y = ay at *
                    go_wp2_with fail
                    refine hAc.mono ?_
                    rintro e w6 ⟨rfl, rfl⟩
                    go_wp2
                    go_roundw
                    case rel => exact ⟨ay, q + 1, by omega, rfl, by go_num, HMq.out, trivial⟩
                    case measure => simp [intOf]; omega
                  · go_wp2
                    go_roundw
                    case rel => exact ⟨true, q + 1, by omega, rfl, by go_num, HQ, trivial⟩
                    case measure => simp [intOf]; omega
                · cases b
                  · go_wp2
                    go_ret
                    exact ⟨rfl, HBV.out⟩
                  · have hAc := Acting_any S w5
                    rw [HQ.out rfl] at hAc
                    go_wp2_with fail
                    refine hAc.mono ?_
                    rintro e w6 ⟨rfl, rfl⟩
                    go_wp2
                    go_ret
                    exact ⟨rfl, HBV.out⟩
            · have hj0 : (0 : Int) < (j : Int) := by omega
              go_wp2_with (at_builtin; first | refine wpList_append_run rfl (.const (.slice none 0 0)) (.tmp 119) _ _ rfl rfl rfl hr4 ?_ | refine wpList_append_run rfl (.tmp 120) (.tmp 121) _ _ rfl rfl rfl hr5 ?_)
              refine hRm.mono ?_
              rintro e w6 ⟨rfl, rfl⟩
              go_wp2
              go_loopw [12, 13] (fun v y wz => ∃ (b : Bool) (q : Nat), q ≤ k ∧ v = .bool b ∧ y = .int .i64 q ∧ Hid (b = true → actB S = true) ∧ w5 = wz) (fun _ y _ => k - (intOf y).toNat)
              case atStart => exact ⟨false, 0, by omega, rfl, rfl, (fun h => by cases h), rfl⟩
              case round =>
                obtain ⟨b, q, hq, rfl, rfl, HQ, rfl⟩ := hrel
                by_cases hlq : q < k
                · have hqi : q < l.length := by rw [HL.out]; exact hlq
                  obtain ⟨g2', off2, e2, hg2', c6⟩ := HA5.out.at_ hqi
                  injection e2 with e2
                  injection e2 with e2a e2b
                  subst e2a e2b
                  have HMq := Lib.hid (HMain.out l[q] (List.getElem_mem hqi))
                  generalize l[q] = y at *
                  have hqk : ((q : Nat) : Int) < (k : Int) := by omega
                  cases b
                  · have hAc := Acting_any y w5
                    generalize actB y = ay at *
                    go_wp2_with fail
                    refine hAc.mono ?_
                    rintro e w6 ⟨rfl, rfl⟩
                    go_wp2
                    go_roundw
                    case rel => exact ⟨ay, q + 1, by omega, rfl, by go_num, HMq.out, trivial⟩
                    case measure => simp [intOf]; omega
                  · go_wp2
                    go_roundw
                    case rel => exact ⟨true, q + 1, by omega, rfl, by go_num, HQ, trivial⟩
                    case measure => simp [intOf]; omega
                · cases b
                  · go_wp2
                    go_ret
                    exact ⟨rfl, HBV.out⟩
                  · have hAc := Acting_any S w5
                    rw [HQ.out rfl] at hAc
                    go_wp2_with fail
                    refine hAc.mono ?_
                    rintro e w6 ⟨rfl, rfl⟩
                    go_wp2
                    go_ret
                    exact ⟨rfl, HBV.out⟩
            · have hj0 : (0 : Int) < (j : Int) := by omega
              go_wp2_with (at_builtin; first | refine wpList_append_run rfl (.const (.slice none 0 0)) (.tmp 119) _ _ rfl rfl rfl hr4 ?_ | refine wpList_append_run rfl (.tmp 120) (.tmp 121) _ _ rfl rfl rfl hr5 ?_)
              refine hRm.mono ?_
              rintro e w6 ⟨rfl, rfl⟩
              go_wp2_with fail
              refine hRb.mono ?_
              rintro e w6 ⟨rfl, rfl⟩
              go_wp2
              go_loopw [12, 13] (fun v y wz => ∃ (b : Bool) (q : Nat), q ≤ k ∧ v = .bool b ∧ y = .int .i64 q ∧ Hid (b = true → actB S = true) ∧ w5 = wz) (fun _ y _ => k - (intOf y).toNat)
              case atStart => exact ⟨false, 0, by omega, rfl, rfl, (fun h => by cases h), rfl⟩
              case round =>
                obtain ⟨b, q, hq, rfl, rfl, HQ, rfl⟩ := hrel
                by_cases hlq : q < k
                · have hqi : q < l.length := by rw [HL.out]; exact hlq
                  obtain ⟨g2', off2, e2, hg2', c6⟩ := HA5.out.at_ hqi
                  injection e2 with e2
                  injection e2 with e2a e2b
                  subst e2a e2b
                  have HMq := Lib.hid (HMain.out l[q] (List.getElem_mem hqi))
                  generalize l[q] = y at *
                  have hqk : ((q : Nat) : Int) < (k : Int) := by omega
                  cases b
                  · have hAc := Acting_any y w5
                    generalize actB y = ay at *
                    go_wp2_with fail
                    refine hAc.mono ?_
                    rintro e w6 ⟨rfl, rfl⟩
                    go_wp2
                    go_roundw
                    case rel => exact ⟨ay, q + 1, by omega, rfl, by go_num, HMq.out, trivial⟩
                    case measure => simp [intOf]; omega
                  · go_wp2
                    go_roundw
                    case rel => exact ⟨true, q + 1, by omega, rfl, by go_num, HQ, trivial⟩
                    case measure => simp [intOf]; omega
                · cases b
                  · go_wp2
                    go_ret
                    exact ⟨rfl, HBV.out⟩
                  · have hAc := Acting_any S w5
                    rw [HQ.out rfl] at hAc
                    go_wp2_with fail
                    refine hAc.mono ?_
                    rintro e w6 ⟨rfl, rfl⟩
                    go_wp2
                    go_ret
                    exact ⟨rfl, HBV.out⟩
          · obtain rfl : z = (r : Int) := by have := HZ.out; omega
            have hnT : nT ≤ 600 := by have := HN.out; omega
            have hki : r < l.length := hln r (by omega)
            obtain ⟨g, off, e0, hg, c0⟩ := HA1.out.at_ hki
            subst e0
            have HSd := Lib.hid (show setF (l.drop r) 0 = setF (l[r] :: l.drop (r + 1)) 0 by rw [List.drop_eq_getElem_cons hki])
            generalize l[r] = x at *
            have c1 := HBw.out.cell (p := ⟨g, off + r, none⟩) hg
            rw [c0] at c1
            have hgr : g < wr.heap.size := Nat.lt_of_lt_of_le hg HBw.out.size
            obtain ⟨A2, c2, w2, hr2, hrow2, hb2⟩ := run_app1 x HRw.out (by omega) HBw.out.size
            have HB2 := Lib.hid (hb2 w1 HBw.out)
            have c3 := HB2.out.cell (p := ⟨g, off + r, none⟩) hg
            rw [c0] at c3
            have hg2 : g < w2.heap.size := Nat.lt_of_lt_of_le hg HB2.out.size
            obtain ⟨A3, c4, w3, hr3, hrow3, hb3⟩ := run_app1 x hrow2 (by omega) HB2.out.size
            have HB3 := Lib.hid (hb3 w1 HB2.out)
            have HRow3 := Lib.hid hrow3
            have HS3 : Hid (setF (T ++ [x] ++ [x]) 0 = setF (l.drop r) 0) := by unfold Hid; rw [HSd.out]; exact set_turn T _ x HSt.out
            have HN3 : Hid (nT + 1 + 1 + 2 * r = 2 * k) := by have := HN.out; unfold Hid; omega
            have hr1 : r ≤ k := by omega
            clear hrow2 hrow3 hb2 hb3 HRw HSt HN HZ HSd c0 hg HB2
            have hgn : g ≠ wr.heap.size := by omega
            have hgn2 : g ≠ w2.heap.size := by omega
            go_wp2_with (at_builtin; first | refine wpList_append_run rfl (.tmp 74) (.tmp 79) _ _ rfl rfl rfl hr2 ?_ | refine wpList_append_run rfl (.tmp 81) (.tmp 86) _ _ rfl rfl rfl hr3 ?_)
            go_roundw
            case rel => exact ⟨r, nT + 1 + 1, T ++ [x] ++ [x], A3, c4, (r : Int) - 1, hr1, rfl, by go_num, (by unfold Hid; omega), HN3, HRow3, HS3, HB3⟩
            case measure => simp [intOf]
end Go.Proofs.YtadindhnaidmeaaDoor.Ch
