/-
  The document's Env of tags, and its Cells at equal cells.
-/
import Derived.Test.YtcapdekfbhbkiaaTgE1
import Derived.Test.YtcapdekfbhbkiaaTgR2
namespace Go.Proofs.Ytcapdekfbhbkiaa.Tg
open Go.RowKit Lx

theorem app_cell (base : Nat) (w : World) (A : Option Addr) (n c : Nat) (l : List Cl) (y : ByteArray) (z : Int) (hn : n ≤ 100000) (hb : base ≤ w.heap.size) (h : w.ownsRow base 49 2 (.slice A n c) n (l.flatMap cellC)) :
    ∃ A' c' w', (Builtin.append_ #[36, 36] 36 #[.slice A n c, .slice (some ⟨w.heap.size, 0, none⟩) 1 1]).run Try.prog (w.alloc (.cells #[.string y, .int .i64 z] 49)) = .ok (.slice A' (n + 1) c') w' ∧ w'.ownsRow base 49 2 (.slice A' (n + 1) c') (n + 1) ((l ++ [(y, z)]).flatMap cellC) ∧ Below base w w' := by
  obtain ⟨A', c', w', hr, ho, hg, _⟩ := run_append_1 Try.underlying36 info_cell rfl (by omega) (by omega) #[.string y, .int .i64 z] rfl (by intro u hu; simp at hu; rcases hu with rfl | rfl <;> rfl) h (by omega) hb
  refine ⟨A', c', w', hr, ?_, ((Below.refl base w).alloc hb _).grown hg (by simp; omega) (fun k hk => (h.lt k hk).1)⟩
  rw [List.flatMap_append]
  exact ho

set_option maxRecDepth 100000 in
set_option maxHeartbeats 4000000 in
theorem refEnv_any (l : List Tg) (im : Im) (a A B : Option Addr) (cap c d : Nat) (w : World) (hl : l.length ≤ 100000) (hn : im.v.length ≤ 1000000) (hm : im.bad.length ≤ 1000000) (hNm : ∀ t ∈ l, t.nm.size ≤ 20000) (hT : Tags w a l) (hV : Nums w A im.v) (hB : Flags w B im.bad) :
    Calls Try.prog 26 #[.slice a l.length cap, .agg #[.slice A im.v.length c, .slice B im.bad.length d]] w (EnvPost (envT l im).length (envT l im) w) := by
  have hR := refRight_any l a cap im A B c d (w.alloc (.cells #[.slice A im.v.length c, .slice B im.bad.length d] 28)) (by omega) hn hm hNm (hT.alloc _) (hV.alloc _) (hB.alloc _)
  have hx0 := Box.new w 28 #[.slice A im.v.length c, .slice B im.bad.length d]
  clear hNm
  cases hr : rightB l im with
  | false =>
    have hE := env_no hr
    rw [hE]
    rw [hr] at hR
    clear hT hV hB hE hr
    generalize l.length = len at *
    generalize im.v.length = n at *
    generalize im.bad.length = m at *
    go_enter Try.func26, Try.ntmps26
    go_wp2_with fail
    refine hR.mono ?_
    rintro e w1 ⟨rfl, hb1⟩
    go_wp2_with fail
    go_ret
    exact ⟨none, 0, rfl, RowF.nil_, rfl, below_new hb1⟩
  | true =>
    have HEl := Lib.hid (env_len hr)
    have HEa := Lib.hid (fun k t x ht hx => env_at (k := k) (t := t) (x := x) hr ht hx)
    rw [hr] at hR
    have hvl := (right_ok hr).2.1
    have HT := Lib.hid hT
    have HV := Lib.hid hV
    clear hT hV hB hr
    rw [HEl.out]
    generalize hEE : envT l im = E at *
    clear hEE
    generalize hL : l.length = len at *
    have HL := Lib.hid hL
    clear hL
    generalize hn1 : im.v.length = n at *
    have HN := Lib.hid hn1
    clear hn1
    generalize im.bad.length = m at *
    subst hvl
    go_enter Try.func26, Try.ntmps26
    go_wp2_with fail
    refine hR.mono ?_
    rintro e w1 ⟨rfl, hb1⟩
    have hx1 := hx0.below hb1 hx0.lt
    have hB1 := below_new hb1
    clear hx0 hb1 hR
    have hpg : w.heap.size < w1.heap.size := hx1.lt
    have hO0 : w1.ownsRow w1.heap.size 49 2 (.slice none 0 0) 0 ((E.take 0).flatMap cellC) := World.ownsRow_nil _ _ _ _
    have hbs0 : w1.heap.size ≤ w1.heap.size := Nat.le_refl _
    go_wp2_with fail
    generalize hgg : w1.heap.size = base at *
    rw [← hgg] at hbs0
    have hbs1 : base ≤ w1.heap.size := by omega
    clear hgg hbs0
    go_loopw [6, 7] (fun v6 v7 wr => ∃ (k : Nat) (A6 : Option Addr) (c6 : Nat), k ≤ n ∧ v6 = .slice A6 k c6 ∧ v7 = .int .i64 k ∧ Hid (wr.ownsRow base 49 2 (.slice A6 k c6) k ((E.take k).flatMap cellC)) ∧ Hid (Box wr w.heap.size 28 #[.slice A n c, .slice B m d]) ∧ Below w.heap.size w wr ∧ base ≤ wr.heap.size) (fun _ v7 _ => n - (intOf v7).toNat)
    case atStart => exact ⟨0, none, 0, by omega, rfl, rfl, hO0, hx1, hB1, hbs1⟩
    case round =>
      obtain ⟨k, A6, c6, hkl, rfl, rfl, HO, HX, hBr, hbs⟩ := hrel
      by_cases hlt : k < n
      · have hki : k < l.length := by rw [HL.out]; exact hlt
        have hkv : k < im.v.length := by rw [HN.out]; exact hlt
        have hEk := HEl.out
        have HEk : Hid (E.take k ++ [(l[k].nm, im.v[k])] = E.take (k + 1)) := by
          unfold Hid
          rw [List.take_add_one, HEa.out k _ _ (List.getElem?_eq_getElem hki) (List.getElem?_eq_getElem hkv)]
          rfl
        clear hEk
        obtain ⟨g, off, rfl, hg, c0, -, -, -⟩ := Tags.at4 HT.out hki
        obtain ⟨gv, ov, rfl, hgv, cv⟩ := Nums.at1 HV.out hkv
        generalize l[k] = t at *
        generalize im.v[k] = x at *
        obtain ⟨nm, out, lo, hi⟩ := t
        simp only at *
        generalize hEt : E.take k = Ek at *
        clear hEt
        have hk100 : k ≤ 100000 := by omega
        have hd := below_drew (Below.refl wr.heap.size wr)
        have key : ∀ w2, Below base wr w2 → w2.cell? ⟨w.heap.size, 0, none⟩ = some (.slice (some ⟨gv, ov, none⟩) n c) ∧ w2.cell? ⟨g, off + k * 4, none⟩ = some (.string nm) ∧ w2.cell? ⟨gv, ov + k, none⟩ = some (.int .i64 x) := fun w2 hb =>
          ⟨(HX.out.below hb hpg).cell 0, ((hBr.trans (hb.mono (by omega))).cell (p := ⟨g, _, none⟩) hg).trans c0, ((hBr.trans (hb.mono (by omega))).cell (p := ⟨gv, _, none⟩) hgv).trans cv⟩
        have cd := key _ (hd.mono hbs)
        obtain ⟨A', c', w3, hr3, ho3, hb3⟩ := app_cell base wr.drew A6 k c6 Ek nm x hk100 hbs HO.out
        have hb3' : Below base wr w3 := (hd.mono hbs).trans hb3
        have k3 := key _ hb3'
        have k2 := key _ ((hd.mono hbs).alloc hbs (.cells #[.string nm, .int .i64 x] 49))
        clear c0 cv
        go_wp2_with fail
        refine region_start (S := fun w' => w'.cell? ⟨w.heap.size, 0, none⟩ = some (.slice (some ⟨gv, ov, none⟩) n c) ∧ w'.cell? ⟨g, off + k * 4, none⟩ = some (.string nm) ∧ w'.cell? ⟨gv, ov + k, none⟩ = some (.int .i64 x)) (n := 15) (lit := #[false, false, false, false, false, false, false, false, false, false, false, false, false, false, false]) rfl rfl (by kernel_rfl) cd fun hS => ?_
        refine tk (i := 0) (v := ?vb0) rfl (by kernel_rfl) (by kernel_rfl) (by kernel_rfl) (fun _ _ _ h => h) (by kernel_rfl) ?hb0 hS ?_
        case hb0 => intro w hSw; (try dsimp only at hSw); go_simp; try with_reducible rfl
        try simp only [Act.put, List.setIfInBounds_toArray, List.set_cons_zero, List.set_cons_succ]
        refine tk (i := 1) (v := ?vb1) rfl (by kernel_rfl) (by kernel_rfl) (by kernel_rfl) (fun _ _ _ h => h) (by kernel_rfl) ?hb1 hS ?_
        case hb1 => intro w hSw; (try dsimp only at hSw); go_simp; try with_reducible rfl
        try simp only [Act.put, List.setIfInBounds_toArray, List.set_cons_zero, List.set_cons_succ]
        refine tk (i := 2) (v := ?vb2) rfl (by kernel_rfl) (by kernel_rfl) (by kernel_rfl) (fun _ _ _ h => h) (by kernel_rfl) ?hb2 hS ?_
        case hb2 => intro w hSw; (try dsimp only at hSw); go_simp; try with_reducible rfl
        try simp only [Act.put, List.setIfInBounds_toArray, List.set_cons_zero, List.set_cons_succ]
        refine tk (i := 3) (v := ?vb3) rfl (by kernel_rfl) (by kernel_rfl) (by kernel_rfl) (fun _ _ _ h => h) (by kernel_rfl) ?hb3 hS ?_
        case hb3 => intro w hSw; (try dsimp only at hSw); go_simp; try with_reducible rfl
        try simp only [Act.put, List.setIfInBounds_toArray, List.set_cons_zero, List.set_cons_succ]
        refine tk (i := 4) (v := ?vb4) rfl (by kernel_rfl) (by kernel_rfl) (by kernel_rfl) (fun _ _ _ h => h) (by kernel_rfl) ?hb4 hS ?_
        case hb4 => intro w hSw; (try dsimp only at hSw); go_simp; try with_reducible rfl
        try simp only [Act.put, List.setIfInBounds_toArray, List.set_cons_zero, List.set_cons_succ]
        refine tk (i := 5) (v := ?vb5) rfl (by kernel_rfl) (by kernel_rfl) (by kernel_rfl) (fun _ _ _ h => h) (by kernel_rfl) ?hb5 hS ?_
        case hb5 => intro w hSw; (try dsimp only at hSw); go_simp; try with_reducible rfl
        try simp only [Act.put, List.setIfInBounds_toArray, List.set_cons_zero, List.set_cons_succ]
        refine tk (i := 6) (v := ?vb6) rfl (by kernel_rfl) (by kernel_rfl) (by kernel_rfl) (fun _ _ _ h => h) (by kernel_rfl) ?hb6 hS ?_
        case hb6 => intro w hSw; (try dsimp only at hSw); go_simp; try with_reducible rfl
        try simp only [Act.put, List.setIfInBounds_toArray, List.set_cons_zero, List.set_cons_succ]
        refine tk (i := 7) (v := ?vb7) rfl (by kernel_rfl) (by kernel_rfl) (by kernel_rfl) (fun _ _ _ h => h) (by kernel_rfl) ?hb7 hS ?_
        case hb7 => intro w hSw; (try dsimp only at hSw); go_simp; try with_reducible rfl
        try simp only [Act.put, List.setIfInBounds_toArray, List.set_cons_zero, List.set_cons_succ]
        refine tk (i := 8) (v := ?vb8) rfl (by kernel_rfl) (by kernel_rfl) (by kernel_rfl) (fun _ _ _ h => h) (by kernel_rfl) ?hb8 hS ?_
        case hb8 => intro w hSw; (try dsimp only at hSw); go_simp; try with_reducible rfl
        try simp only [Act.put, List.setIfInBounds_toArray, List.set_cons_zero, List.set_cons_succ]
        refine tk (i := 9) (v := ?vb9) rfl (by kernel_rfl) (by kernel_rfl) (by kernel_rfl) (fun _ _ _ h => h) (by kernel_rfl) ?hb9 hS ?_
        case hb9 => intro w hSw; (try dsimp only at hSw); go_simp; try with_reducible rfl
        try simp only [Act.put, List.setIfInBounds_toArray, List.set_cons_zero, List.set_cons_succ]
        refine tk (i := 10) (v := ?vb10) rfl (by kernel_rfl) (by kernel_rfl) (by kernel_rfl) (fun _ _ _ h => h) (by kernel_rfl) ?hb10 hS ?_
        case hb10 => intro w hSw; (try dsimp only at hSw); go_simp; try with_reducible rfl
        try simp only [Act.put, List.setIfInBounds_toArray, List.set_cons_zero, List.set_cons_succ]
        refine tk (i := 11) (v := ?vb11) rfl (by kernel_rfl) (by kernel_rfl) (by kernel_rfl) (fun _ _ _ h => h) (by kernel_rfl) ?hb11 hS ?_
        case hb11 => intro w hSw; (try dsimp only at hSw); go_simp; try with_reducible rfl
        try simp only [Act.put, List.setIfInBounds_toArray, List.set_cons_zero, List.set_cons_succ]
        refine wpAnyH_ready (rs := [12]) (by kernel_rfl) (by simp) ?_
        refine AllReadyH.cons rfl (fun K hK => ?_) AllReadyH.nil
        go_simp
        refine hK.out _ _ k2 (fun hS2 => ?_)
        clear hK K
        refine wpAnyH_ready (rs := [13]) (by kernel_rfl) (by simp) ?_
        refine AllReadyH.cons rfl (fun K hK => ?_) AllReadyH.nil
        refine step_append_run rfl _ _ _ _ rfl rfl rfl hr3 ?_
        refine hK.out _ _ k3 (fun hS3 => ?_)
        clear hK K
        try simp only [Act.put, List.setIfInBounds_toArray, List.set_cons_zero, List.set_cons_succ]
        refine tk (i := 14) (v := ?vb14) rfl (by kernel_rfl) (by kernel_rfl) (by kernel_rfl) (fun _ _ _ h => h) (by kernel_rfl) ?hb14 hS3 ?_
        case hb14 => intro w hSw; (try dsimp only at hSw); go_simp; try with_reducible rfl
        try simp only [Act.put, List.setIfInBounds_toArray, List.set_cons_zero, List.set_cons_succ]
        refine wpAnyH_done (by kernel_rfl) ?_ _
        go_wp2_with fail
        go_roundw
        case rel =>
          refine ⟨k + 1, A', c', hlt, rfl, by go_num, ?_, HX.out.below hb3' hpg, hBr.trans (hb3'.mono (by omega)), Nat.le_trans hbs hb3'.size⟩
          rw [← HEk.out]
          exact ho3
        case measure => simp [intOf]; omega
      · have hk : k = n := by omega
        subst hk
        have hOn := HO.out
        rw [List.take_of_length_le (by have := HEl.out; omega)] at hOn
        have hCn : Cells wr A6 E := RowF.of_own (fun _ => rfl) hOn HEl.out
        clear hOn
        go_wp2_with fail
        go_ret
        exact ⟨_, _, rfl, hCn, HEl.out, hBr⟩

set_option maxRecDepth 100000 in
set_option maxHeartbeats 4000000 in
theorem cells_true (E : List Cl) (A A2 : Option Addr) (n c c2 : Nat) (w : World) (hn : E.length = n) (hn' : n ≤ 1000000) (hA : Cells w A E) (hA2 : Cells w A2 E) :
    Calls Try.prog 24 #[.slice A n c, .slice A2 n c2] w fun e w' => e = .returned (.bool true) ∧ Below w.heap.size w w' := by
  have HA := Lib.hid hA
  have HA2 := Lib.hid hA2
  have HN := Lib.hid hn
  clear hA hA2 hn
  go_enter Try.func24, Try.ntmps24
  go_wp2
  go_loopw [5] (fun i wr => ∃ k : Nat, k ≤ n ∧ i = .int .i64 k ∧ Below w.heap.size w wr) (fun i _ => n - (intOf i).toNat)
  case atStart => exact ⟨0, by omega, rfl, Below.refl _ _⟩
  case round =>
    obtain ⟨k, hkl, rfl, hbr⟩ := hrel
    by_cases hlt : k < n
    · have hki : k < E.length := by rw [HN.out]; exact hlt
      obtain ⟨g, off, rfl, hg, c0, c1⟩ := Cells.at2 (RowF.below HA.out hbr) hki
      obtain ⟨g2, off2, rfl, hg2, d0, d1⟩ := Cells.at2 (RowF.below HA2.out hbr) hki
      generalize E[k] = x at *
      obtain ⟨y, z⟩ := x
      simp only at *
      go_wp2_with fail
      go_quiet (fail)
      go_wp2_with fail
      go_roundw
      case rel => exact ⟨k + 1, hlt, by go_num, below_drewN hbr _⟩
      case measure => simp [intOf]; omega
    · go_wp2
      go_ret
      exact ⟨rfl, hbr⟩
end Go.Proofs.Ytcapdekfbhbkiaa.Tg
