/-
  The walk of RungBehind.
-/
import Derived.Test.YtohljihndoodfaaDoorRgBh
import Derived.Test.YtohljihndoodfaaDoorRgRisesW
import Derived.Deep.DeepCutAuto
namespace Go.Proofs.YtohljihndoodfaaDoor.Rg
open Go.RowKit Lx Ep

set_option maxRecDepth 100000 in
theorem run_app_ua {base n c : Nat} {w : World} {A : Option Addr} {l : List Ru} (x : Ru) (a : Addr) (hcs : ∀ j u, (ruC x)[j]? = some u → w.cell? (a.add j) = some u) (h : RowU base w A c l) (hn0 : l.length = n) (hn : n * 48 ≤ 140737488351232) (hm : n + 1 ≤ maxLen) (hB : base ≤ w.heap.size) :
    ∃ A' c' w', (Builtin.append_ #[22, 22] 22 #[.slice A n c, .slice (some a) 1 1]).run Tryd.prog w = .ok (.slice A' (n + 1) c') w' ∧ RowU base w' A' c' (l ++ [x]) ∧ (∀ w0, Below base w0 w → Below base w0 w') := by
  subst hn0
  obtain ⟨i0, hi0, hz0, hz1, hz2⟩ := info_parts info_rung
  obtain ⟨v', w', hr, ho, hg, _, hl⟩ := run_append_own_at (P := Tryd.prog) w base 22 22 43 i0 _ 3 48 Tryd.underlying22 hi0 hz0 hz1 hz2 rfl (by decide)
    _ l.length (l.flatMap ruC) h a 1 1 (ruC x) rfl hcs (one_ru x) (by omega) (by omega) hB
  have hlt := own_ge h
  rcases ho.2 with ⟨_, h0⟩ | ⟨g, cap, cur, rfl, _⟩
  · omega
  · refine ⟨some ⟨g, 0, none⟩, cap, w', hr, ?_, fun w0 h0 => h0.grown hg hB hlt⟩
    unfold RowU
    rw [List.length_append, List.flatMap_append]
    simpa using ho
def MoRel (l : List Ru) (x : Ru) (len : Nat) (w1 : World) (v : Value) (wx : World) : Prop := ∃ A' c', v = .slice A' (len + 1) c' ∧ Hid (RowU w1.heap.size wx A' c' (l ++ [x])) ∧ Hid (Below w1.heap.size w1 wx)
theorem cells_of_box {w : World} {g : Nat} {t : TypeId} {cs : Array Value} (h : Box w g t cs) : ∀ j u, cs.toList[j]? = some u → w.cell? ((⟨g, 0, none⟩ : Addr).add j) = some u := by
  intro j u hu
  rw [add_lit, h.cell]
  simpa using hu

set_option maxRecDepth 100000 in
set_option maxHeartbeats 8000000 in
theorem behind_walk (A : Option Addr) (l : List Ru) (cap : Nat) (x : Ru) (B : Option Addr) (bits : List Bool) (bc : Nat) (ve : Value) (env : List (Nm × Int)) (w : World)
    (_hc : l.length ≤ cap ∧ cap ≤ maxLen) (h48 : l.length * 48 ≤ 140737488351232) (hR : Rungs w A l) (hw : ∀ x ∈ l, x.nm.length ≤ maxLen ∧ x.code.length ≤ maxLen) (hCx : Code w x.ca x.code) (hwx : x.nm.length ≤ maxLen) (hB : Bools w B bits) (hE : EnvA w env ve) (hT : Tabs w) :
    Calls Tryd.prog 6 #[.slice A l.length cap, ruV x, .slice B bits.length bc, ve] w fun e w' => e = .returned (.bool true) ∧ Below w.heap.size w w' := by
  obtain ⟨⟨ea, ecap, rfl, -⟩, -⟩ := id hE
  have hlm : l.length + 1 ≤ maxLen := by unfold maxLen; omega
  have HT := Lib.hid hT
  have HCe := Lib.hid (fun w1 (hb : Below w.heap.size w w1) => cells_any env (.slice ea env.length ecap) w1 (envA_below hE hb))
  have HRn := Lib.hid (fun (hl : env.length ≤ 100) w1 (hb : Below w.heap.size w w1) => Run_any2 l A cap bits B bc env ea env.length ecap w1 (hT.below hb) (hR.below hb) (hB.below hb) ((hE.short (by omega)).below hb (Nat.le_refl _)) (fun r hr => (hw r hr).1))
  have HRm := Lib.hid (fun (hl : env.length ≤ 100) A' c' w1 (hb : Below w.heap.size w w1) (hr : Rungs w1 A' (l ++ [x])) => Run_any2 (l ++ [x]) A' c' bits B bc env ea env.length ecap w1 (hT.below hb) hr (hB.below hb) ((hE.short (by omega)).below hb (Nat.le_refl _)) (fun r hr => by
    rcases List.mem_append.1 hr with h | h
    · exact (hw r h).1
    · simp only [List.mem_singleton] at h; subst h; exact hwx))
  have HRo := Lib.hid (fun w1 (hb : Below w.heap.size w w1) => (hR.below hb).1)
  have HCo := Lib.hid (fun w1 (hb : Below w.heap.size w w1) => (show ∀ r ∈ l ++ [x], Code w1 r.ca r.code from fun r hr => by
    rcases List.mem_append.1 hr with h | h
    · exact (hR.below hb).2 r h
    · simp only [List.mem_singleton] at h; subst h; exact hCx.below hb))
  have HBe := Lib.hid (fun (hx : x.kd = 3 ∨ x.kd = 4) => behind_run (l := l) (bits := bits) (env := env) hx)
  have HLn := Lib.hid (run_len l bits env)
  have hll : (l ++ [x]).length = l.length + 1 := by simp
  clear hR hE hB hT hw hCx hwx
  unfold ruV
  generalize hl : l.length = len at *
  have HL := Lib.hid hl
  clear hl
  have HLL := Lib.hid hll
  clear hll
  generalize hn : bits.length = n at *
  have HN := Lib.hid hn
  clear hn
  generalize env.length = en at *
  generalize hcl : x.code.length = cl at *
  have HCl := Lib.hid hcl
  clear hcl
  have hx0 := Box.new w 43 #[.int .i64 x.kd, .string ⟨x.nm.toArray⟩, .slice x.ca cl x.cc]
  have hb0 := (Below.refl w.heap.size w).alloc (Nat.le_refl _) (.cells #[.int .i64 x.kd, .string ⟨x.nm.toArray⟩, .slice x.ca cl x.cc] 43)
  go_enter Tryd.func6, Tryd.ntmps6
  go_wp2_with fail
  refine (awake_any _ (HT.out.below hb0)).mono ?_
  rintro e w1 ⟨rfl, hb1⟩
  have hx1 := hx0.below hb1 hx0.lt
  have hB1 := hb0.trans (hb1.mono hb0.size)
  have hq1 := hx1.lt
  clear hb0 hb1 hx0
  have hd := below_drew (Below.refl w1.heap.size w1)
  have hBd := hB1.trans (hd.mono hB1.size)
  -- the row first, then x's copy
  obtain ⟨A2, c2, w2, hr2, hrow2, hg2⟩ := run_app_us (base := w1.heap.size) (w := w1.drew) cap (HRo.out _ hBd) (by rw [HL.out]; omega) (by rw [HL.out]; omega) (Nat.le_refl _)
  rw [HL.out] at hr2
  have hb2 : Below w1.heap.size w1 w2 := hd.grown hg2 hd.size (fun k hk => by cases hk)
  have hx2 := hx1.below hb2 hq1
  obtain ⟨A3, c3, w3, hr3, hrow3, hb3⟩ := run_app_u1 (n := len) x rfl hrow2 HL.out h48 hlm hb2.size
  rw [HCl.out] at hr3
  have HF3 : Hid (MoRel l x len w1 (.slice A3 (len + 1) c3) w3) := ⟨A3, c3, rfl, hrow3, hb3 w1 hb2⟩
  -- x's copy first, then the row
  have hbo : Below w1.heap.size w1 (w1.alloc (.cells #[.int .i64 x.kd, .string ⟨x.nm.toArray⟩, .slice x.ca cl x.cc] 43)).drew := below_drew ((Below.refl _ w1).alloc (Nat.le_refl _) _)
  have hxo : Box (w1.alloc (.cells #[.int .i64 x.kd, .string ⟨x.nm.toArray⟩, .slice x.ca cl x.cc] 43)).drew w1.heap.size 43 _ := Box.new w1 _ _
  have hBo := hB1.trans (hbo.mono hB1.size)
  obtain ⟨A4, c4, w4, hr4, hrow4, hg4⟩ := run_app_us (base := w1.heap.size) (w := (w1.alloc (.cells #[.int .i64 x.kd, .string ⟨x.nm.toArray⟩, .slice x.ca cl x.cc] 43)).drew) cap (HRo.out _ hBo) (by rw [HL.out]; omega) (by rw [HL.out]; omega) hbo.size
  rw [HL.out] at hr4
  have hb4 : Below w1.heap.size w1 w4 := hbo.grown hg4 hbo.size (fun k hk => by cases hk)
  have hx4 := hx1.below hb4 hq1
  have hxo4 := hxo.grown hg4 (by simp)
  obtain ⟨A5, c5, w5, hr5, hrow5, hb5⟩ := run_app_ua (n := len) x ⟨w1.heap.size, 0, none⟩ (by have := cells_of_box hxo4; unfold ruC; rw [HCl.out]; exact this) hrow4 HL.out h48 hlm hb4.size
  have HF5 : Hid (MoRel l x len w1 (.slice A5 (len + 1) c5) w5) := ⟨A5, c5, rfl, hrow5, hb5 w1 hb4⟩
  have hx3 := hx1.below (hb3 w1 hb2) hq1
  have hx5 := hx1.below (hb5 w1 hb4) hq1
  have hx2o := hx2.alloc (.cells #[.int .i64 x.kd, .string ⟨x.nm.toArray⟩, .slice x.ca cl x.cc] 43)
  have hxd := hx1.below hd hq1
  have hxoo := hx1.below hbo hq1
  have key : ∀ w', Box w' w.heap.size 43 #[.int .i64 x.kd, .string ⟨x.nm.toArray⟩, .slice x.ca cl x.cc] → w'.cell? ⟨w.heap.size, 0, none⟩ = some (.int .i64 x.kd) ∧ w'.cell? ⟨w.heap.size, 1, none⟩ = some (.string ⟨x.nm.toArray⟩) ∧ w'.cell? ⟨w.heap.size, 2, none⟩ = some (.slice x.ca cl x.cc) := fun w' h => ⟨h.cell 0, h.cell 1, h.cell 2⟩
  have cd := key _ hxd
  have k2 := key _ hx2
  have k2o := key _ hx2o
  have k3 := key _ hx3
  have ko := key _ hxoo
  have k4 := key _ hx4
  have k5 := key _ hx5
  clear hx2 hx3 hx4 hx5 hx2o hxd hxoo hxo hxo4 hrow2 hrow3 hrow4 hrow5 hb2 hb3 hb4 hb5 hg2 hg4 hbo hBo hBd hd key
  go_wp2_with fail
  go_cut [10] (fun v10 wx => MoRel l x len w1 v10 wx)
  case first =>
    refine region_start (S := fun w' => w'.cell? ⟨w.heap.size, 0, none⟩ = some (.int .i64 x.kd) ∧ w'.cell? ⟨w.heap.size, 1, none⟩ = some (.string ⟨x.nm.toArray⟩) ∧ w'.cell? ⟨w.heap.size, 2, none⟩ = some (.slice x.ca cl x.cc)) (n := 6) (lit := #[false, false, false, false, false, false]) rfl rfl (by kernel_rfl) cd fun hS => ?_
    refine tk (i := 0) (v := ?vc0) rfl (by kernel_rfl) (by kernel_rfl) (by kernel_rfl) (fun _ _ _ h => h) (by kernel_rfl) ?hc0 hS ?_
    case hc0 => intro w hSw; (try dsimp only at hSw); go_simp; try with_reducible rfl
    try simp only [Act.put, List.setIfInBounds_toArray, List.set_cons_zero, List.set_cons_succ]
    refine tk (i := 2) (v := ?vc2) rfl (by kernel_rfl) (by kernel_rfl) (by kernel_rfl) (fun _ _ _ h => h) (by kernel_rfl) ?hc2 hS ?_
    case hc2 => intro w hSw; (try dsimp only at hSw); go_simp; try with_reducible rfl
    try simp only [Act.put, List.setIfInBounds_toArray, List.set_cons_zero, List.set_cons_succ]
    refine wpAnyH_ready (rs := [1, 3]) (by kernel_rfl) (by simp) ?_
    refine AllReadyH.cons rfl (fun K hK => ?_) (AllReadyH.cons rfl (fun K hK => ?_) AllReadyH.nil)
    · refine step_append_run rfl _ (.tmp 23) _ _ rfl rfl rfl hr2 ?_
      refine hK.out _ _ k2 (fun _ => ?_)
      clear hK K
      try simp only [Act.put, List.setIfInBounds_toArray, List.set_cons_zero, List.set_cons_succ]
      refine wpAnyH_ready (rs := [3]) (by kernel_rfl) (by simp) ?_
      refine AllReadyH.cons rfl (fun K hK => ?_) AllReadyH.nil
      go_simp
      refine hK.out _ _ k2o (fun _ => ?_)
      clear hK K
      try simp only [List.setIfInBounds_toArray, List.set_cons_zero, List.set_cons_succ]
      refine wpAnyH_ready (rs := [4]) (by kernel_rfl) (by simp) ?_
      refine AllReadyH.cons rfl (fun K hK => ?_) AllReadyH.nil
      refine step_append_run rfl (.tmp 24) (.tmp 26) _ _ rfl rfl rfl hr3 ?_
      simp only [Act.put, List.getElem_toArray, List.getElem_cons_succ, List.getElem_cons_zero, List.setIfInBounds_toArray, List.set_cons_zero, List.set_cons_succ]
      refine hK.out _ _ k3 (fun _ => ?_)
      clear hK K
      try simp only [List.setIfInBounds_toArray, List.set_cons_zero, List.set_cons_succ]
      refine tk (i := 5) (v := ?vc5) rfl (by kernel_rfl) (by kernel_rfl) (by kernel_rfl) (fun _ _ _ h => h) (by kernel_rfl) ?hc5 k3 ?_
      case hc5 => intro w hSw; (try dsimp only at hSw); go_simp; try with_reducible rfl
      try simp only [Act.put, List.setIfInBounds_toArray, List.set_cons_zero, List.set_cons_succ]
      refine wpAnyH_done (by kernel_rfl) ?_ _
      go_wp2_with fail
      go_meet
      exact HF3.out
    · go_simp
      refine hK.out _ _ ko (fun _ => ?_)
      clear hK K
      try simp only [List.setIfInBounds_toArray, List.set_cons_zero, List.set_cons_succ]
      refine wpAnyH_ready (rs := [1]) (by kernel_rfl) (by simp) ?_
      refine AllReadyH.cons rfl (fun K hK => ?_) AllReadyH.nil
      refine step_append_run rfl _ (.tmp 23) _ _ rfl rfl rfl hr4 ?_
      refine hK.out _ _ k4 (fun _ => ?_)
      clear hK K
      try simp only [Act.put, List.setIfInBounds_toArray, List.set_cons_zero, List.set_cons_succ]
      refine wpAnyH_ready (rs := [4]) (by kernel_rfl) (by simp) ?_
      refine AllReadyH.cons rfl (fun K hK => ?_) AllReadyH.nil
      refine step_append_run rfl (.tmp 24) (.tmp 26) _ _ rfl rfl rfl hr5 ?_
      simp only [Act.put, List.getElem_toArray, List.getElem_cons_succ, List.getElem_cons_zero, List.setIfInBounds_toArray, List.set_cons_zero, List.set_cons_succ]
      refine hK.out _ _ k5 (fun _ => ?_)
      clear hK K
      try simp only [List.setIfInBounds_toArray, List.set_cons_zero, List.set_cons_succ]
      refine tk (i := 5) (v := ?vd5) rfl (by kernel_rfl) (by kernel_rfl) (by kernel_rfl) (fun _ _ _ h => h) (by kernel_rfl) ?hd5 k5 ?_
      case hd5 => intro w hSw; (try dsimp only at hSw); go_simp; try with_reducible rfl
      try simp only [Act.put, List.setIfInBounds_toArray, List.set_cons_zero, List.set_cons_succ]
      refine wpAnyH_done (by kernel_rfl) ?_ _
      go_wp2_with fail
      go_meet
      exact HF5.out
  case rest =>
    rename World => wx
    obtain ⟨Am, cm, rfl, HRow, HBx⟩ := hcut
    clear cd k2 k2o k3 ko k4 k5 hr2 hr3 hr4 hr5 HF3 HF5
    have hBx := hB1.trans (HBx.out.mono hB1.size)
    have hRm : Rungs wx Am (l ++ [x]) := ⟨HRow.out.rows, HCo.out wx hBx⟩
    have HRmx := Lib.hid hRm
    have hLi := Light_any (l ++ [x]) Am cm wx hRm
    rw [HLL.out] at hLi
    have hxx := hx1.below HBx.out hq1
    clear hRm hx1 HRow HCo HRo
    go_wp2_with fail
    refine hLi.mono ?_
    rintro e w6 ⟨b1, rfl, hok, hb6⟩
    have hB6 := hBx.trans (hb6.mono hBx.size)
    have hC6 := HCe.out w6 hB6
    have hx6 := hxx.below hb6 hxx.lt
    have HRm6 := Lib.hid (HRmx.out.below hb6)
    have HOk := Lib.hid hok
    clear hLi HCe hxx hb6 hok HRmx
    go_wp2_with fail
    refine hC6.mono ?_
    rintro e w7 ⟨b2, rfl, hen, rfl⟩
    have HEn := Lib.hid hen
    clear hC6 hen
    cases b1 with
    | false =>
      go_wp2
      go_ret
      exact ⟨rfl, hB6⟩
    | true =>
    cases b2 with
    | false =>
      go_wp2
      go_ret
      exact ⟨rfl, hB6⟩
    | true =>
    have q0 := hx6.cell 0
    simp at q0
    by_cases hn1 : 1000 < n
    · have d1 : decide ((1000 : Int) < (n : Int)) = true := by simp; omega
      go_wp2
      all_goals first | (exfalso; omega) | skip
      go_ret
      exact ⟨rfl, hB6⟩
    have d1 : decide ((1000 : Int) < (n : Int)) = false := by simp; omega
    by_cases hx34 : x.kd = 3 ∨ x.kd = 4
    · have HB34 := Lib.hid (HBe.out hx34)
      have HRn6 := HRn.out (HEn.out rfl) w6 hB6
      have HRmf := Lib.hid (HRm.out (HEn.out rfl))
      have HLt := Lib.hid (HOk.out rfl)
      have hRmf := fun w9 (hb : Below w.heap.size w w9) (hr : Rungs w9 Am (l ++ [x])) => HRmf.out Am cm w9 hb hr
      have b34 : (x.kd != 3) = false ∨ ((x.kd != 3) = true ∧ (x.kd != 4) = false) := by
        rcases hx34 with h | h
        · left; simp [h]
        · right; simp [h]
      clear HBe HRn HRm HEn HOk hx34
      have main : ∀ (b3 : (x.kd != 3) = false ∨ ((x.kd != 3) = true ∧ (x.kd != 4) = false)), True := fun _ => trivial
      clear main
      skip
      have hll2 := HLL.out
      have HLt50 := HLt.out.1
      rw [hll2] at HLt50
      clear hll2 HLt
      obtain ⟨u1, u2, u3⟩ := HLn.out
      generalize runP l bits env = s1 at *
      rcases b34 with b3 | ⟨b3, b4⟩
      · go_wp2_with fail
        refine HRn6.mono ?_
        rintro e w8 ⟨A3, c3, A4, c4, A5, c5, rfl, hQ1, hQ2, hQ3, -, -, hb8⟩
        have hB8 := hB6.trans (hb8.mono hB6.size)
        have hRm8 := hRmf w8 hB8 (HRm6.out.below hb8)
        rw [HLL.out] at hRm8
        clear hRmf HRmf HRn6 hx6 q0
        rcases HB34.out with hr | ⟨P, Q, hr, hpq⟩
        · rw [hr] at hRm8
          generalize s1.bits.length = z1 at *
          generalize s1.holds.length = z2 at *
          generalize s1.bars.length = z3 at *
          go_wp2_with fail
          refine hRm8.mono ?_
          rintro e w9 ⟨A6, c6, A7, c7, A8, c8, rfl, -, -, -, -, -, hb9⟩
          have HF := Lib.hid (hB8.trans (hb9.mono hB8.size))
          simp only [List.length_nil]
          go_wp2
          go_ret
          exact ⟨rfl, HF.out⟩
        · rw [hr] at hRm8
          go_wp2_with fail
          refine hRm8.mono ?_
          rintro e w9 ⟨A6, c6, A7, c7, A8, c8, rfl, hP1, hP2, hP3, hcp2, hcp3, hb9⟩
          have hB9 := hB8.trans (hb9.mono hB8.size)
          simp only [List.length_append] at hcp2 hcp3
          have hP2' := RowF.take hP2 s1.holds.length
          have hP3' := RowF.take hP3 s1.bars.length
          simp only [List.take_left] at hP2' hP3'
          have hBo := Bools_any s1.bits s1.bits A3 A6 c3 c6 w9 (hQ1.below hb9) hP1 (by omega)
          rw [decide_eq_true rfl] at hBo
          have HT1 := Lib.hid (fun wx (hb : Below w9.heap.size w9 wx) => Texts_any s1.holds s1.holds A7 A4 c7 c4 wx (hP2'.below hb) (RowF.below (RowF.below hQ2 hb9) hb) (by omega))
          have HT2 := Lib.hid (fun wx (hb : Below w9.heap.size w9 wx) => Texts_any s1.bars s1.bars A8 A5 c8 c5 wx (hP3'.below hb) (RowF.below (RowF.below hQ3 hb9) hb) (by omega))
          simp only [List.length_append]
          generalize hz1 : s1.bits.length = z1 at *
          generalize hz2 : s1.holds.length = z2 at *
          generalize hz3 : s1.bars.length = z3 at *
          generalize P.length = y2 at *
          generalize Q.length = y3 at *
          clear hQ1 hQ2 hQ3 hP1 hP2 hP3 hP2' hP3' hr hz1 hz2 hz3 hRm8 hb9 HB34
          by_cases hzz : z1 = 0 ∧ z2 + y2 + (z3 + y3) = 0
          · obtain ⟨e1, e2⟩ := hzz
            have f1 : z2 = 0 := by omega
            have f2 : y2 = 0 := by omega
            have f3 : z3 = 0 := by omega
            have f4 : y3 = 0 := by omega
            subst e1 f1 f2 f3 f4
            clear hBo HT1 HT2
            have HF := Lib.hid hB9
            go_wp2
            all_goals go_ret
            all_goals exact ⟨rfl, HF.out⟩
          · clear HT HL HLL HN HCl HRm6 hb8 hq1 h48 hlm
            have hZ : (fun z => ¬(z = 0 ∧ z2 + y2 + (z3 + y3) = 0)) z1 := hzz
            by_cases hz0 : z1 = 0
            all_goals
              try subst hz0
              go_wp2_with fail
              with_reducible refine hBo.mono ?_
              rintro e w10 ⟨rfl, hb10⟩
              have hB10 := hB9.trans (hb10.mono hB9.size)
              clear hBo
              go_wp2_with fail
              with_reducible refine (HT1.out w10 hb10).mono ?_
              rintro e w11 ⟨he, hb11⟩
              rw [decide_eq_true trivial] at he
              subst he
              have hb12 := hb10.trans (hb11.mono hb10.size)
              have hB11 := hB9.trans (hb12.mono hB9.size)
              go_wp2_with fail
              with_reducible refine (HT2.out w11 hb12).mono ?_
              rintro e w13 ⟨he, hb13⟩
              rw [decide_eq_true trivial] at he
              subst he
              have HF := Lib.hid (hB11.trans (hb13.mono hB11.size))
              clear HT1 HT2
              go_wp2
              go_ret
              exact ⟨rfl, HF.out⟩
      · go_wp2_with fail
        refine HRn6.mono ?_
        rintro e w8 ⟨A3, c3, A4, c4, A5, c5, rfl, hQ1, hQ2, hQ3, -, -, hb8⟩
        have hB8 := hB6.trans (hb8.mono hB6.size)
        have hRm8 := hRmf w8 hB8 (HRm6.out.below hb8)
        rw [HLL.out] at hRm8
        clear hRmf HRmf HRn6 hx6 q0
        rcases HB34.out with hr | ⟨P, Q, hr, hpq⟩
        · rw [hr] at hRm8
          generalize s1.bits.length = z1 at *
          generalize s1.holds.length = z2 at *
          generalize s1.bars.length = z3 at *
          go_wp2_with fail
          refine hRm8.mono ?_
          rintro e w9 ⟨A6, c6, A7, c7, A8, c8, rfl, -, -, -, -, -, hb9⟩
          have HF := Lib.hid (hB8.trans (hb9.mono hB8.size))
          simp only [List.length_nil]
          go_wp2
          go_ret
          exact ⟨rfl, HF.out⟩
        · rw [hr] at hRm8
          go_wp2_with fail
          refine hRm8.mono ?_
          rintro e w9 ⟨A6, c6, A7, c7, A8, c8, rfl, hP1, hP2, hP3, hcp2, hcp3, hb9⟩
          have hB9 := hB8.trans (hb9.mono hB8.size)
          simp only [List.length_append] at hcp2 hcp3
          have hP2' := RowF.take hP2 s1.holds.length
          have hP3' := RowF.take hP3 s1.bars.length
          simp only [List.take_left] at hP2' hP3'
          have hBo := Bools_any s1.bits s1.bits A3 A6 c3 c6 w9 (hQ1.below hb9) hP1 (by omega)
          rw [decide_eq_true rfl] at hBo
          have HT1 := Lib.hid (fun wx (hb : Below w9.heap.size w9 wx) => Texts_any s1.holds s1.holds A7 A4 c7 c4 wx (hP2'.below hb) (RowF.below (RowF.below hQ2 hb9) hb) (by omega))
          have HT2 := Lib.hid (fun wx (hb : Below w9.heap.size w9 wx) => Texts_any s1.bars s1.bars A8 A5 c8 c5 wx (hP3'.below hb) (RowF.below (RowF.below hQ3 hb9) hb) (by omega))
          simp only [List.length_append]
          generalize hz1 : s1.bits.length = z1 at *
          generalize hz2 : s1.holds.length = z2 at *
          generalize hz3 : s1.bars.length = z3 at *
          generalize P.length = y2 at *
          generalize Q.length = y3 at *
          clear hQ1 hQ2 hQ3 hP1 hP2 hP3 hP2' hP3' hr hz1 hz2 hz3 hRm8 hb9 HB34
          by_cases hzz : z1 = 0 ∧ z2 + y2 + (z3 + y3) = 0
          · obtain ⟨e1, e2⟩ := hzz
            have f1 : z2 = 0 := by omega
            have f2 : y2 = 0 := by omega
            have f3 : z3 = 0 := by omega
            have f4 : y3 = 0 := by omega
            subst e1 f1 f2 f3 f4
            clear hBo HT1 HT2
            have HF := Lib.hid hB9
            go_wp2
            all_goals go_ret
            all_goals exact ⟨rfl, HF.out⟩
          · clear HT HL HLL HN HCl HRm6 hb8 hq1 h48 hlm
            have hZ : (fun z => ¬(z = 0 ∧ z2 + y2 + (z3 + y3) = 0)) z1 := hzz
            by_cases hz0 : z1 = 0
            all_goals
              try subst hz0
              go_wp2_with fail
              with_reducible refine hBo.mono ?_
              rintro e w10 ⟨rfl, hb10⟩
              have hB10 := hB9.trans (hb10.mono hB9.size)
              clear hBo
              go_wp2_with fail
              with_reducible refine (HT1.out w10 hb10).mono ?_
              rintro e w11 ⟨he, hb11⟩
              rw [decide_eq_true trivial] at he
              subst he
              have hb12 := hb10.trans (hb11.mono hb10.size)
              have hB11 := hB9.trans (hb12.mono hB9.size)
              go_wp2_with fail
              with_reducible refine (HT2.out w11 hb12).mono ?_
              rintro e w13 ⟨he, hb13⟩
              rw [decide_eq_true trivial] at he
              subst he
              have HF := Lib.hid (hB11.trans (hb13.mono hB11.size))
              clear HT1 HT2
              go_wp2
              go_ret
              exact ⟨rfl, HF.out⟩
    · have d3 : (x.kd != 3) = true := by simp; omega
      have d4 : (x.kd != 4) = true := by simp; omega
      clear hx34
      go_wp2
      go_ret
      exact ⟨rfl, hB6⟩
end Go.Proofs.YtohljihndoodfaaDoor.Rg
