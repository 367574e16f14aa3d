/-
  The walk of RungTurns.
-/
import Derived.Test.YtohljihndoodfaaDoorRgTv
import Derived.Test.YtohljihndoodfaaDoorRgWe
namespace Go.Proofs.YtohljihndoodfaaDoor.Rg
open Go.RowKit Lx Ep

set_option maxRecDepth 100000 in
set_option maxHeartbeats 8000000 in
theorem turns_walk (A : Option Addr) (l : List Ru) (cap : Nat) (x : Ru) (B : Option Addr) (bits : List Bool) (bc : Nat) (ve : Value) (env : List (Nm × Int)) (w : World)
    (_hc : l.length ≤ cap ∧ cap ≤ maxLen) (h48 : l.length * 48 ≤ 140737488351232) (hR : Rungs w A l) (hw : ∀ x ∈ l, x.nm.length ≤ maxLen ∧ x.code.length ≤ maxLen) (hCx : Code w x.ca x.code) (hwx : x.nm.length ≤ maxLen) (hB : Bools w B bits) (hE : EnvA w env ve) (hT : Tabs w) :
    Calls Tryd.prog 5 #[.slice A l.length cap, ruV x, .slice B bits.length bc, ve] w fun e w' => e = .returned (.bool true) ∧ Below w.heap.size w w' := by
  obtain ⟨⟨ea, ecap, rfl, -⟩, -⟩ := id hE
  have hlm : l.length + 1 ≤ maxLen := by unfold maxLen; omega
  have HT := Lib.hid hT
  have HCe := Lib.hid (fun w1 (hb : Below w.heap.size w w1) => cells_any env (.slice ea env.length ecap) w1 (envA_below hE hb))
  have HRn := Lib.hid (fun (hl : env.length ≤ 100) w1 (hb : Below w.heap.size w w1) => Run_any3 l A cap bits B bc env ea env.length ecap w1 (hT.below hb) (hR.below hb) (hB.below hb) ((hE.short (by omega)).below hb (Nat.le_refl _)) (fun r hr => (hw r hr).1))
  have HRm := Lib.hid (fun (hl : env.length ≤ 100) A' c' w1 (hb : Below w.heap.size w w1) (hr : Rungs w1 A' (l ++ [turnY x])) => Run_any3 (l ++ [turnY x]) A' c' bits B bc env ea env.length ecap w1 (hT.below hb) hr (hB.below hb) ((hE.short (by omega)).below hb (Nat.le_refl _)) (fun r hr => by
    rcases List.mem_append.1 hr with h | h
    · exact (hw r h).1
    · simp only [List.mem_singleton] at h; subst h; simp [turnY, maxLen]))
  have HRz := Lib.hid (fun (hl : env.length ≤ 100) a c A' c' w1 (hb : Below w.heap.size w w1) (hr : Rungs w1 A' (l ++ [turnZ x a c])) => Run_any3 (l ++ [turnZ x a c]) A' c' bits B bc env ea env.length ecap w1 (hT.below hb) hr (hB.below hb) ((hE.short (by omega)).below hb (Nat.le_refl _)) (fun r hr => by
    rcases List.mem_append.1 hr with h | h
    · exact (hw r h).1
    · simp only [List.mem_singleton] at h; subst h; simp [turnZ, maxLen]))
  have HLy := Lib.hid (run_len (l ++ [turnY x]) bits env)
  have HLz := Lib.hid (fun a c => run_len (l ++ [turnZ x a c]) bits env)
  have HCase := Lib.hid (fun a c => turn_case (l := l) (x := x) (bits := bits) (env := env) a c)
  have HRo := Lib.hid (fun w1 (hb : Below w.heap.size w w1) => (hR.below hb).1)
  have HCo := Lib.hid (fun w1 (hb : Below w.heap.size w w1) => (show ∀ r ∈ l ++ [turnY x], Code w1 r.ca r.code from fun r hr => by
    rcases List.mem_append.1 hr with h | h
    · exact (hR.below hb).2 r h
    · simp only [List.mem_singleton] at h; subst h; exact hCx.below hb))
  have HLn := Lib.hid (run_len l bits env)
  have hll : (l ++ [turnY x]).length = l.length + 1 := by simp
  have hlz : ∀ a c, (l ++ [turnZ x a c]).length = l.length + 1 := fun a c => by simp
  clear hR hE hB hT hw hCx hwx
  unfold ruV
  generalize hl : l.length = len at *
  have HL := Lib.hid hl
  clear hl
  have HLL := Lib.hid hll
  have HLZ := Lib.hid hlz
  clear hll hlz
  generalize hn : bits.length = n at *
  have HN := Lib.hid hn
  clear hn
  generalize env.length = en at *
  generalize hcl : x.code.length = cl at *
  have HCl := Lib.hid hcl
  clear hcl
  have hx0 := Box.new w 43 #[.int .i64 x.kd, .string ⟨x.nm.toArray⟩, .slice x.ca cl x.cc]
  have hb0 := (Below.refl w.heap.size w).alloc (Nat.le_refl _) (.cells #[.int .i64 x.kd, .string ⟨x.nm.toArray⟩, .slice x.ca cl x.cc] 43)
  go_enter Tryd.func5, Tryd.ntmps5
  go_wp2_with fail
  refine (awake_any _ (HT.out.below hb0)).mono ?_
  rintro e w1 ⟨rfl, hb1⟩
  have hx1 := hx0.below hb1 hx0.lt
  have hB1 := hb0.trans (hb1.mono hb0.size)
  have hq1 := hx1.lt
  clear hb0 hb1 hx0
  have hd := below_drew (Below.refl w1.heap.size w1)
  have hBd := hB1.trans (hd.mono hB1.size)
  -- the row first, then x's copy
  obtain ⟨A2, c2, w2, hr2, hrow2, hg2⟩ := run_app_us (base := w1.heap.size) (w := w1.drew) cap (HRo.out _ hBd) (by rw [HL.out]; omega) (by rw [HL.out]; omega) (Nat.le_refl _)
  rw [HL.out] at hr2
  have hb2 : Below w1.heap.size w1 w2 := hd.grown hg2 hd.size (fun k hk => by cases hk)
  have hx2 := hx1.below hb2 hq1
  obtain ⟨A3, c3, w3, hr3, hrow3, hb3⟩ := run_app_u1 (n := len) (turnY x) rfl hrow2 HL.out h48 hlm hb2.size
  dsimp only [turnY] at hr3
  rw [HCl.out] at hr3
  have HF3 : Hid (MoRel l (turnY x) len w1 (.slice A3 (len + 1) c3) w3) := ⟨A3, c3, rfl, hrow3, hb3 w1 hb2⟩
  -- x's copy first, then the row
  have hbo : Below w1.heap.size w1 (w1.alloc (.cells #[.int .i64 3, .string ⟨#[112]⟩, .slice x.ca cl x.cc] 43)).drew := below_drew ((Below.refl _ w1).alloc (Nat.le_refl _) _)
  have hxo : Box (w1.alloc (.cells #[.int .i64 3, .string ⟨#[112]⟩, .slice x.ca cl x.cc] 43)).drew w1.heap.size 43 _ := Box.new w1 _ _
  have hBo := hB1.trans (hbo.mono hB1.size)
  obtain ⟨A4, c4, w4, hr4, hrow4, hg4⟩ := run_app_us (base := w1.heap.size) (w := (w1.alloc (.cells #[.int .i64 3, .string ⟨#[112]⟩, .slice x.ca cl x.cc] 43)).drew) cap (HRo.out _ hBo) (by rw [HL.out]; omega) (by rw [HL.out]; omega) hbo.size
  rw [HL.out] at hr4
  have hb4 : Below w1.heap.size w1 w4 := hbo.grown hg4 hbo.size (fun k hk => by cases hk)
  have hx4 := hx1.below hb4 hq1
  have hxo4 := hxo.grown hg4 (by simp)
  obtain ⟨A5, c5, w5, hr5, hrow5, hb5⟩ := run_app_ua (n := len) (turnY x) ⟨w1.heap.size, 0, none⟩ (by have := cells_of_box hxo4; unfold ruC turnY; dsimp only; rw [HCl.out]; exact this) hrow4 HL.out h48 hlm hb4.size
  have HF5 : Hid (MoRel l (turnY x) len w1 (.slice A5 (len + 1) c5) w5) := ⟨A5, c5, rfl, hrow5, hb5 w1 hb4⟩
  have hx3 := hx1.below (hb3 w1 hb2) hq1
  have hx5 := hx1.below (hb5 w1 hb4) hq1
  have hx2o := hx2.alloc (.cells #[.int .i64 3, .string ⟨#[112]⟩, .slice x.ca cl x.cc] 43)
  have hxd := hx1.below hd hq1
  have hxoo := hx1.below hbo hq1
  have key : ∀ w', Box w' w.heap.size 43 #[.int .i64 x.kd, .string ⟨x.nm.toArray⟩, .slice x.ca cl x.cc] → w'.cell? ⟨w.heap.size, 0, none⟩ = some (.int .i64 x.kd) ∧ w'.cell? ⟨w.heap.size, 1, none⟩ = some (.string ⟨x.nm.toArray⟩) ∧ w'.cell? ⟨w.heap.size, 2, none⟩ = some (.slice x.ca cl x.cc) := fun w' h => ⟨h.cell 0, h.cell 1, h.cell 2⟩
  have cd := key _ hxd
  have k2 := key _ hx2
  have k2o := key _ hx2o
  have k3 := key _ hx3
  have ko := key _ hxoo
  have k4 := key _ hx4
  have k5 := key _ hx5
  clear hx2 hx3 hx4 hx5 hx2o hxd hxoo hxo hxo4 hrow2 hrow3 hrow4 hrow5 hb2 hb3 hb4 hb5 hg2 hg4 hbo hBo hBd hd key
  go_wp2_with fail
  go_cut [10] (fun v10 wx => MoRel l (turnY x) len w1 v10 wx)
  case first =>
    refine region_start (S := fun w' => w'.cell? ⟨w.heap.size, 0, none⟩ = some (.int .i64 x.kd) ∧ w'.cell? ⟨w.heap.size, 1, none⟩ = some (.string ⟨x.nm.toArray⟩) ∧ w'.cell? ⟨w.heap.size, 2, none⟩ = some (.slice x.ca cl x.cc)) (n := 8) (lit := #[false, false, false, false, false, false, false, false]) rfl rfl (by kernel_rfl) cd fun hS => ?_
    refine tk (i := 0) (v := ?vc0) rfl (by kernel_rfl) (by kernel_rfl) (by kernel_rfl) (fun _ _ _ h => h) (by kernel_rfl) ?hc0 hS ?_
    case hc0 => intro w hSw; (try dsimp only at hSw); (try obtain ⟨q0, q1, q2⟩ := hSw); go_simp; try with_reducible rfl
    try simp only [Act.put, List.setIfInBounds_toArray, List.set_cons_zero, List.set_cons_succ]
    refine tk (i := 2) (v := ?vc2) rfl (by kernel_rfl) (by kernel_rfl) (by kernel_rfl) (fun _ _ _ h => h) (by kernel_rfl) ?hc2 hS ?_
    case hc2 => intro w hSw; (try dsimp only at hSw); (try obtain ⟨q0, q1, q2⟩ := hSw); go_simp; try with_reducible rfl
    try simp only [Act.put, List.setIfInBounds_toArray, List.set_cons_zero, List.set_cons_succ]
    refine tk (i := 3) (v := ?vc3) rfl (by kernel_rfl) (by kernel_rfl) (by kernel_rfl) (fun _ _ _ h => h) (by kernel_rfl) ?hc3 hS ?_
    case hc3 => intro w hSw; (try dsimp only at hSw); (try obtain ⟨q0, q1, q2⟩ := hSw); go_simp; try with_reducible rfl
    try simp only [Act.put, List.setIfInBounds_toArray, List.set_cons_zero, List.set_cons_succ]
    refine tk (i := 4) (v := ?vc4) rfl (by kernel_rfl) (by kernel_rfl) (by kernel_rfl) (fun _ _ _ h => h) (by kernel_rfl) ?hc4 hS ?_
    case hc4 => intro w hSw; (try dsimp only at hSw); (try obtain ⟨q0, q1, q2⟩ := hSw); go_simp; try with_reducible rfl
    try simp only [Act.put, List.setIfInBounds_toArray, List.set_cons_zero, List.set_cons_succ]
    refine wpAnyH_ready (rs := [1, 5]) (by kernel_rfl) (by simp) ?_
    refine AllReadyH.cons rfl (fun K hK => ?_) (AllReadyH.cons rfl (fun K hK => ?_) AllReadyH.nil)
    · refine step_append_run rfl _ (.tmp 26) _ _ rfl rfl rfl hr2 ?_
      refine hK.out _ _ k2 (fun _ => ?_)
      clear hK K
      try simp only [Act.put, List.setIfInBounds_toArray, List.set_cons_zero, List.set_cons_succ]
      refine wpAnyH_ready (rs := [5]) (by kernel_rfl) (by simp) ?_
      refine AllReadyH.cons rfl (fun K hK => ?_) AllReadyH.nil
      go_simp
      refine hK.out _ _ k2o (fun _ => ?_)
      clear hK K
      try simp only [List.setIfInBounds_toArray, List.set_cons_zero, List.set_cons_succ]
      refine wpAnyH_ready (rs := [6]) (by kernel_rfl) (by simp) ?_
      refine AllReadyH.cons rfl (fun K hK => ?_) AllReadyH.nil
      refine step_append_run rfl (.tmp 27) (.tmp 31) _ _ rfl rfl rfl hr3 ?_
      simp only [Act.put, List.getElem_toArray, List.getElem_cons_succ, List.getElem_cons_zero, List.setIfInBounds_toArray, List.set_cons_zero, List.set_cons_succ]
      refine hK.out _ _ k3 (fun _ => ?_)
      clear hK K
      try simp only [List.setIfInBounds_toArray, List.set_cons_zero, List.set_cons_succ]
      refine tk (i := 7) (v := ?vc5) rfl (by kernel_rfl) (by kernel_rfl) (by kernel_rfl) (fun _ _ _ h => h) (by kernel_rfl) ?hc5 k3 ?_
      case hc5 => intro w hSw; (try dsimp only at hSw); go_simp; try with_reducible rfl
      try simp only [Act.put, List.setIfInBounds_toArray, List.set_cons_zero, List.set_cons_succ]
      refine wpAnyH_done (by kernel_rfl) ?_ _
      go_wp2_with fail
      go_meet
      exact HF3.out
    · go_simp
      refine hK.out _ _ ko (fun _ => ?_)
      clear hK K
      try simp only [List.setIfInBounds_toArray, List.set_cons_zero, List.set_cons_succ]
      refine wpAnyH_ready (rs := [1]) (by kernel_rfl) (by simp) ?_
      refine AllReadyH.cons rfl (fun K hK => ?_) AllReadyH.nil
      refine step_append_run rfl _ (.tmp 26) _ _ rfl rfl rfl hr4 ?_
      refine hK.out _ _ k4 (fun _ => ?_)
      clear hK K
      try simp only [Act.put, List.setIfInBounds_toArray, List.set_cons_zero, List.set_cons_succ]
      refine wpAnyH_ready (rs := [6]) (by kernel_rfl) (by simp) ?_
      refine AllReadyH.cons rfl (fun K hK => ?_) AllReadyH.nil
      refine step_append_run rfl (.tmp 27) (.tmp 31) _ _ rfl rfl rfl hr5 ?_
      simp only [Act.put, List.getElem_toArray, List.getElem_cons_succ, List.getElem_cons_zero, List.setIfInBounds_toArray, List.set_cons_zero, List.set_cons_succ]
      refine hK.out _ _ k5 (fun _ => ?_)
      clear hK K
      try simp only [List.setIfInBounds_toArray, List.set_cons_zero, List.set_cons_succ]
      refine tk (i := 7) (v := ?vd5) rfl (by kernel_rfl) (by kernel_rfl) (by kernel_rfl) (fun _ _ _ h => h) (by kernel_rfl) ?hd5 k5 ?_
      case hd5 => intro w hSw; (try dsimp only at hSw); go_simp; try with_reducible rfl
      try simp only [Act.put, List.setIfInBounds_toArray, List.set_cons_zero, List.set_cons_succ]
      refine wpAnyH_done (by kernel_rfl) ?_ _
      go_wp2_with fail
      go_meet
      exact HF5.out
  case rest =>
    rename World => wx
    obtain ⟨Am, cm, rfl, HRow, HBx⟩ := hcut
    clear cd k2 k2o k3 ko k4 k5 hr2 hr3 hr4 hr5 HF3 HF5
    obtain ⟨g, hAm, hgb, hgx⟩ := row_at HRow.out
    subst hAm
    have hBx := hB1.trans (HBx.out.mono hB1.size)
    have hRm : Rungs wx (some ⟨g, 0, none⟩) (l ++ [turnY x]) := ⟨HRow.out.rows, HCo.out wx hBx⟩
    have HRmx := Lib.hid hRm
    have hLi := Light_any (l ++ [turnY x]) (some ⟨g, 0, none⟩) cm wx hRm
    rw [HLL.out] at hLi
    have hxx := hx1.below HBx.out hq1
    clear hRm hx1 HRo
    go_wp2_with fail
    refine hLi.mono ?_
    rintro e w6 ⟨b1, rfl, hok, hb6⟩
    have hB6 := hBx.trans (hb6.mono hBx.size)
    have HB6x := Lib.hid hb6
    have hC6 := HCe.out w6 hB6
    have hx6 := hxx.below hb6 hxx.lt
    have HRm6 := Lib.hid (HRmx.out.below hb6)
    have HOk := Lib.hid hok
    clear hLi HCe hxx hb6 hok HRmx
    go_wp2_with fail
    refine hC6.mono ?_
    rintro e w7 ⟨b2, rfl, hen, rfl⟩
    have HEn := Lib.hid hen
    clear hC6 hen
    cases b1 with
    | false =>
      go_wp2
      go_ret
      exact ⟨rfl, hB6⟩
    | true =>
    cases b2 with
    | false =>
      go_wp2
      go_ret
      exact ⟨rfl, hB6⟩
    | true =>
    by_cases hn1 : 1000 < n ∨ 40 < len
    · have hq : (1000 : Int) < (n : Int) ∨ (¬ (1000 : Int) < (n : Int) ∧ (40 : Int) < (len : Int)) := by omega
      clear hn1
      rcases hq with q1 | ⟨q1, q2⟩
      all_goals
        go_wp2
        all_goals first | (exfalso; omega) | skip
        go_ret
        exact ⟨rfl, hB6⟩
    have d1 : decide ((1000 : Int) < (n : Int)) = false := by simp; omega
    have d2 : decide ((40 : Int) < (len : Int)) = false := by simp; omega
    have hn1000 : n ≤ 1000 := by omega
    have hl40 : len ≤ 40 := by omega
    clear hn1
    have hb6x : Below wx.heap.size wx w6 := HB6x.out
    have hg6 : g < w6.heap.size := Nat.lt_of_lt_of_le hgx hb6x.size
    have HRn6 := HRn.out (HEn.out rfl) w6 hB6
    have HRmf := Lib.hid (HRm.out (HEn.out rfl))
    have HRzf := Lib.hid (HRz.out (HEn.out rfl))
    have HLt := Lib.hid (HOk.out rfl)
    have hcl50 : x.code.length ≤ 50 := (HLt.out.2 (turnY x) (by simp)).2
    rw [HCl.out] at hcl50
    have hRmf := fun w9 (hb : Below w.heap.size w w9) (hr : Rungs w9 (some ⟨g, 0, none⟩) (l ++ [turnY x])) => HRmf.out (some ⟨g, 0, none⟩) cm w9 hb hr
    clear HRn HEn HOk HRm HRz
    obtain ⟨u1, u2, u3⟩ := HLn.out
    obtain ⟨v1, v2, v3⟩ := HLy.out
    rw [HLL.out] at v2 v3
    have hgw : w.heap.size ≤ g := Nat.le_trans hB1.size hgb
    go_wp2_with fail
    refine HRn6.mono ?_
    rintro e w8 ⟨A3, c3, A4, c4, A5, c5, rfl, hQ1, hQ2, -, hb8⟩
    have hB8 := hB6.trans (hb8.mono hB6.size)
    have hRm8 := hRmf w8 hB8 (HRm6.out.below hb8)
    rw [HLL.out] at hRm8
    generalize hs1 : runP l bits env = s1 at *
    generalize hs2 : runP (l ++ [turnY x]) bits env = s2 at *
    generalize hy1 : s1.bits.length = y1 at *
    generalize hy2 : s1.holds.length = y2 at *
    generalize s1.bars.length = y3 at *
    generalize hz1 : s2.bits.length = z1 at *
    generalize hz2 : s2.holds.length = z2 at *
    generalize s2.bars.length = z3 at *
    have Hy1 := Lib.hid hy1
    have Hy2 := Lib.hid hy2
    have Hz1 := Lib.hid hz1
    have Hz2 := Lib.hid hz2
    have HQ1 := Lib.hid hQ1
    have HQ2 := Lib.hid hQ2
    clear hs1 hs2 hy1 hy2 hz1 hz2 HRn6 hQ1 hQ2
    go_wp2_with fail
    refine hRm8.mono ?_
    rintro e w9 ⟨A6, c6, A7, c7, A8, c8, rfl, hP1, -, -, hb9⟩
    rw [Hz1.out, Hz2.out]
    have HP1 := Lib.hid hP1
    have hB9 := hB8.trans (hb9.mono hB8.size)
    have hx9 := (hx6.below hb8 hx6.lt).below hb9 (hx6.below hb8 hx6.lt).lt
    have q2 := hx9.cell 2
    simp at q2
    have hb69 := hb8.trans (hb9.mono hb8.size)
    have hg9 : g < w9.heap.size := Nat.lt_of_lt_of_le hg6 hb69.size
    have hCo9 := HCo.out w9 hB9 (turnY x) (by simp)
    obtain ⟨A10, c10, w10, hr10, hrow10, hg10⟩ := run_app_is (base := w9.heap.size) (w := w9) x.cc hCo9.1 (show x.code.length ≤ 1000 by rw [HCl.out]; omega) (Nat.le_refl _)
    have e10 : (turnY x).code.length = cl := HCl.out
    rw [e10] at hr10
    have hb10 : Below w9.heap.size w9 w10 := (Below.refl _ _).grown hg10 (Nat.le_refl _) (fun k hk => by cases hk)
    obtain ⟨A11, c11, w11, hr11, hrow11, hb11⟩ := run_app_i1 (n := cl) hrow10 e10 (by omega) hb10.size
    have hb11' := hb11 w9 hb10
    have hB11 := hB9.trans (hb11'.mono hB9.size)
    have hRow11 : RowU w1.heap.size w11 (some ⟨g, 0, none⟩) cm (l ++ [turnY x]) := own_keep (own_keep (own_keep HRow.out hb6x) hb69) hb11'
    have hset := rungs_set hRow11 hrow11 hg9 hgw (fun w' hb => HCo.out w' (hB11.trans hb)) (Below.refl _ _)
    rw [HCl.out, HL.out] at hset
    obtain ⟨hfz, ⟨u, hcu⟩, hRz⟩ := hset
    have hx11 := hx9.below hb11' hx9.lt
    have q11 := hx11.cell 2
    simp at q11
    have hB12 : Below w.heap.size w (w11.setCell ⟨g, len * 3 + 2, none⟩ (.slice A11 (cl + 1) c11)) := hB11.setCell (p := ⟨g, len * 3 + 2, none⟩) hgw _
    have hRun3 := HRzf.out A11 c11 (some ⟨g, 0, none⟩) cm _ hB12 hRz
    rw [HLZ.out] at hRun3
    have hg11 : g < w11.heap.size := Nat.lt_of_lt_of_le hg9 hb11'.size
    have hx12 : Box (w11.setCell ⟨g, len * 3 + 2, none⟩ (.slice A11 (cl + 1) c11)) w.heap.size 43 #[.int .i64 x.kd, .string ⟨x.nm.toArray⟩, .slice x.ca cl x.cc] := hx11.far (show w.heap.size ≠ g by have := hq1; omega) _
    have hR1 : RowB w6.heap.size (w11.setCell ⟨g, len * 3 + 2, none⟩ (.slice A11 (cl + 1) c11)) A3 c3 s1.bits := own_set ((HQ1.out.below hb9).below hb11') hg6
    have hR2 : RowN w6.heap.size (w11.setCell ⟨g, len * 3 + 2, none⟩ (.slice A11 (cl + 1) c11)) A4 c4 s1.holds := own_set ((HQ2.out.below hb9).below hb11') hg6
    have hR3 : RowB w8.heap.size (w11.setCell ⟨g, len * 3 + 2, none⟩ (.slice A11 (cl + 1) c11)) A6 c6 s2.bits := own_set (HP1.out.below hb11') (Nat.lt_of_lt_of_le hg6 hb8.size)
    have HR1 := Lib.hid hR1
    have HR2 := Lib.hid hR2
    have HR3 := Lib.hid hR3
    have HX12 := Lib.hid hx12
    have HB12 := Lib.hid hB12
    have HCs := Lib.hid (HCase.out A11 c11)
    have HLzz := Lib.hid (HLz.out A11 c11)
    clear hP1 HP1 HQ1 HQ2 hRow11 hrow10 hrow11 hg10 hb10 hb11 hCo9 hx9 hx6 hR1 hR2 hR3 hx12 hB12 hRz HRzf HRmf hRmf HCase HLz hRm8 e10 HRm6 HCo HRow HCl
    go_wp2_with (at_builtin; first | refine wpList_append_run rfl (.const (.slice none 0 0)) (.tmp 75) _ _ rfl rfl rfl hr10 ?_ | refine wpList_append_run rfl (.tmp 76) (.tmp 78) _ _ rfl rfl rfl hr11 ?_)
    refine hRun3.mono ?_
    rintro e w13 ⟨A12, c12, A13, c13, A14, c14, rfl, hP3, hP4, -, hb13⟩
    generalize hs3 : runP (l ++ [turnZ x A11 c11]) bits env = s3 at *
    generalize ht1 : s3.bits.length = t1 at *
    generalize ht2 : s3.holds.length = t2 at *
    have Ht1 := Lib.hid ht1
    have Ht2 := Lib.hid ht2
    have hB13 := HB12.out.trans (hb13.mono HB12.out.size)
    have HB13 := Lib.hid hB13
    have hx13 := HX12.out.below hb13 HX12.out.lt
    have q13 := hx13.cell 2
    simp at q13
    have HW1 := Lib.hid ((HR1.out.below hb13).bools)
    have HW2 := Lib.hid ((HR2.out.below hb13).strs)
    have HW3 := Lib.hid ((HR3.out.below hb13).bools)
    have HW4 := Lib.hid hP3.bools
    clear hs3 ht1 ht2 hP3 hP4 hB13 HB12 hx13 HX12 HR1 HR2 HR3 hr10 hr11 hfz hcu hRun3 hb13 q2 q11 hb11' hB11
    obtain ⟨-, tb2, -⟩ := HLzz.out
    rw [HLZ.out] at tb2
    have hcs := HCs.out
    clear HCs HLzz HLZ HLL HLn HLy HT HL HN
    rcases hcs with h1 | ⟨h1, h2⟩ | ⟨h1, h2, h3⟩ | ⟨h1, h2, h3, h4⟩
    · have e1 : (12 : Int) ≤ (cl : Int) := by omega
      go_wp2
      go_ret
      exact ⟨rfl, HB13.out⟩
    · have e1 : ¬ (12 : Int) ≤ (cl : Int) := by omega
      have e2 : ((z1 : Int) != (n : Int)) = true := by simp; omega
      go_wp2
      go_ret
      exact ⟨rfl, HB13.out⟩
    · have e1 : ¬ (12 : Int) ≤ (cl : Int) := by omega
      have e2 : ((z1 : Int) != (n : Int)) = false := by simp; omega
      have e3 : ((n : Int) == 0) = true := by simp; omega
      go_wp2
      go_ret
      exact ⟨rfl, HB13.out⟩
    · obtain ⟨k1, k2, k3⟩ := h4
      have hb1 := Bools_any s1.bits s2.bits A3 A6 c3 c6 w13 HW1.out HW3.out (by rw [Hy1.out]; omega)
      rw [Hy1.out, Hz1.out, decide_eq_true k1.symm] at hb1
      have hb2 := Lib.hid (fun w14 (hb : Below w13.heap.size w13 w14) => Bools_any s1.bits s3.bits A3 A12 c3 c12 w14 (HW1.out.below hb) (HW4.out.below hb) (by rw [Hy1.out]; omega))
      rw [Hy1.out, Ht1.out, decide_eq_true k2.symm] at hb2
      have hpl := Lib.hid (fun w14 (hb : Below w13.heap.size w13 w14) => Place_any s1.holds A4 c4 [112] w14 (RowF.below HW2.out hb) (by rw [Hy2.out]; omega))
      rw [Hy2.out] at hpl
      have hcase : (0 ≤ placeP s1.holds [112] ∧ z2 = y2 ∧ t2 = y2) ∨ (placeP s1.holds [112] < 0 ∧ z2 + t2 = 2 * y2 + 1) := by
        rw [Hy2.out, Hz2.out, Ht2.out] at k3
        by_cases hm : [112] ∈ s1.holds
        · rw [if_pos hm] at k3
          exact .inl ⟨place_nn.1 hm, k3⟩
        · rw [if_neg hm] at k3
          exact .inr ⟨place_nn.2 hm, k3⟩
      have e1 : ¬ (12 : Int) ≤ (cl : Int) := by omega
      have e2 : ((z1 : Int) != (n : Int)) = false := by simp; omega
      have e3 : ((n : Int) == 0) = false := by simp; omega
      generalize placeP s1.holds [112] = pl at *
      clear k1 k2 k3 HW1 HW2 HW3 HW4 h1 h2 h3
      go_wp2_with fail
      with_reducible refine hb1.mono ?_
      rintro e w14 ⟨rfl, hb14⟩
      have HB14 := Lib.hid (HB13.out.trans (hb14.mono HB13.out.size))
      go_wp2_with fail
      with_reducible refine (hb2.out w14 hb14).mono ?_
      rintro e w15 ⟨he, hb15⟩
      subst he
      have hb135 := hb14.trans (hb15.mono hb14.size)
      have HB15 := Lib.hid (HB14.out.trans (hb15.mono HB14.out.size))
      have hpl15 := hpl.out w15 hb135
      clear hb14 hb15 hb1 hb2 hpl hb135 e1 e2 e3
      rcases hcase with ⟨g1, g2, g3⟩ | ⟨g1, g2⟩
      · have d3 : ((z2 : Int) == (y2 : Int)) = true := by simp; omega
        have d4 : ((t2 : Int) == (y2 : Int)) = true := by simp; omega
        clear g2 g3
        go_wp2_with fail
        refine hpl15.mono ?_
        rintro e w16 ⟨rfl, rfl⟩
        go_wp2
        go_ret
        exact ⟨rfl, HB15.out⟩
      · have d3 : ((z2 : Int) + (t2 : Int) == 2 * (y2 : Int) + 1) = true := by simp; omega
        have g1' : ¬ 0 ≤ pl := by omega
        clear g1
        go_wp2_with fail
        refine hpl15.mono ?_
        rintro e w16 ⟨rfl, rfl⟩
        go_wp2
        go_ret
        exact ⟨ret_bool (by simp), HB15.out⟩
end Go.Proofs.YtohljihndoodfaaDoor.Rg
