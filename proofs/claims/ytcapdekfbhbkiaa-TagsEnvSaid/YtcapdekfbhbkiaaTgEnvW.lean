/-
  The walk of TagsEnv: whatever is handed in, the law answers true.
-/
import Derived.Test.YtcapdekfbhbkiaaTgE2
import Derived.Test.YtcapdekfbhbkiaaTgL2
namespace Go.Proofs.Ytcapdekfbhbkiaa.Tg
open Go.RowKit Lx

set_option maxRecDepth 100000 in
set_option maxHeartbeats 8000000 in
theorem envW (a : Option Addr) (l : List Tg) (cap : Nat) (im : Im) (A B : Option Addr) (c d : Nat) (w : World) (hcap : l.length ≤ cap) (hT : Tags w a l) (_ : ∀ x ∈ l, x.fits) (hV : Nums w A im.v) (hB : Flags w B im.bad) :
    Calls Try.prog 6 #[.slice a l.length cap, .agg #[.slice A im.v.length c, .slice B im.bad.length d]] w fun e w' => e = .returned (.bool true) ∧ Below w.heap.size w w' := by
  have hx0 := Box.new w 28 #[.slice A im.v.length c, .slice B im.bad.length d]
  have HT := Lib.hid hT
  have HV := Lib.hid hV
  have HB := Lib.hid hB
  clear hT hV hB
  have HSm : ∀ w1, Below w.heap.size w w1 → Calls Try.prog 10 #[.slice a l.length cap] w1 (Tells (SmallP l) w1) := fun w1 hb => small_any l a cap w1 (RowF.below HT.out hb)
  have HFa : ∀ w1, Below w.heap.size w w1 → Calls Try.prog 18 #[.agg #[.slice A im.v.length c, .slice B im.bad.length d], .slice none 0 0] w1 (Tells (FairP im []) w1) := fun w1 hb => fair_any im [] A B none c d 0 w1 RowF.nil_
  have HEn : SmallP l → FairP im [] → ∀ w1, Below w.heap.size w w1 → Calls Try.prog 25 #[.slice a l.length cap, .agg #[.slice A im.v.length c, .slice B im.bad.length d]] w1 (EnvPost (envT l im).length (envT l im) w1) := fun h1 h2 w1 hb => Env_any l im a A B cap c d w1 (Nat.le_trans h1.1 (by omega)) (Nat.le_trans h2.1 (by omega)) (Nat.le_trans h2.2.1 (by omega)) hcap (RowF.below HT.out hb) (RowF.below HV.out hb) (RowF.below HB.out hb)
  have HRe : SmallP l → FairP im [] → ∀ w1, Below w.heap.size w w1 → Calls Try.prog 26 #[.slice a l.length cap, .agg #[.slice A im.v.length c, .slice B im.bad.length d]] w1 (EnvPost (envT l im).length (envT l im) w1) := fun h1 h2 w1 hb => refEnv_any l im a A B cap c d w1 (Nat.le_trans h1.1 (by omega)) (Nat.le_trans h2.1 (by omega)) (Nat.le_trans h2.2.1 (by omega)) (fun t ht => Nat.le_trans (h1.2 t ht) (by omega)) (RowF.below HT.out hb) (RowF.below HV.out hb) (RowF.below HB.out hb)
  have HRi : SmallP l → FairP im [] → ∀ w1, Below w.heap.size w w1 → Calls Try.prog 27 #[.slice a l.length cap, .agg #[.slice A im.v.length c, .slice B im.bad.length d]] w1 fun e w' => e = .returned (.bool (rightB l im)) ∧ Below w1.heap.size w1 w' := fun h1 h2 w1 hb => Right_any l a cap im A B c d w1 (Nat.le_trans h1.1 (by omega)) (Nat.le_trans h2.1 (by omega)) (Nat.le_trans h2.2.1 (by omega)) hcap (RowF.below HT.out hb) (RowF.below HV.out hb) (RowF.below HB.out hb)
  have HRr : SmallP l → FairP im [] → ∀ w1, Below w.heap.size w w1 → Calls Try.prog 28 #[.slice a l.length cap, .agg #[.slice A im.v.length c, .slice B im.bad.length d]] w1 fun e w' => e = .returned (.bool (rightB l im)) ∧ Below w1.heap.size w1 w' := fun h1 h2 w1 hb => refRight_any l a cap im A B c d w1 (Nat.le_trans h1.1 (by omega)) (Nat.le_trans h2.1 (by omega)) (Nat.le_trans h2.2.1 (by omega)) (fun t ht => Nat.le_trans (h1.2 t ht) (by omega)) (RowF.below HT.out hb) (RowF.below HV.out hb) (RowF.below HB.out hb)
  have HEl : SmallP l → (envT l im).length ≤ 1000000 := fun h1 => by
    cases hr : rightB l im with
    | false => rw [env_no hr]; exact Nat.zero_le _
    | true => rw [env_len hr]; exact Nat.le_trans h1.1 (by omega)
  generalize rightB l im = rb at *
  generalize hEE : envT l im = E at *
  clear hEE
  generalize SmallP l = Ps at *
  generalize FairP im [] = Pf at *
  generalize l.length = len at *
  generalize hn : im.v.length = n at *
  clear hn
  generalize hm : im.bad.length = m at *
  clear hm
  generalize hen : E.length = en at *
  have HEN := Lib.hid hen
  clear hen
  go_enter Try.func6, Try.ntmps6
  go_wp2_with fail
  refine (awake_any _).mono ?_
  rintro e w1 ⟨rfl, hb1⟩
  have hB1 := below_new hb1
  have hx1 := hx0.below hb1 hx0.lt
  clear hx0 hb1
  go_wp2_with fail
  refine (HSm w1 hB1).mono ?_
  rintro e w2 ⟨b, rfl, hSm, hb2⟩
  have hB2 := hB1.trans (hb2.mono hB1.size)
  have hx2 := hx1.below hb2 hx1.lt
  clear hx1 hb2
  have x0 := hx2.cell 0
  have x1 := hx2.cell 1
  simp at x0 x1
  go_wp2_with fail
  refine (HFa w2 hB2).mono ?_
  rintro e w3 ⟨b', rfl, hFr, hb3⟩
  have hB3 := hB2.trans (hb3.mono hB2.size)
  have hx3 := hx2.below hb3 hx2.lt
  clear hx2 hb3 x0 x1
  cases b with
  | false =>
    go_wp2_with fail
    go_ret
    exact ⟨rfl, hB3⟩
  | true =>
  cases b' with
  | false =>
    go_wp2_with fail
    go_ret
    exact ⟨rfl, hB3⟩
  | true =>
  have hP1 := hSm rfl
  have hP2 := hFr rfl
  clear hSm hFr
  have hel := HEl hP1
  have key : ∀ w4, Below w3.heap.size w3 w4 → w4.cell? ⟨w.heap.size, 0, none⟩ = some (.slice A n c) ∧ w4.cell? ⟨w.heap.size, 1, none⟩ = some (.slice B m d) := fun w4 hb => ⟨(hx3.below hb hx3.lt).cell 0, (hx3.below hb hx3.lt).cell 1⟩
  have hd := below_drew (Below.refl w3.heap.size w3)
  have cd := key _ hd
  clear hx3
  go_wp2_with fail
  refine region_start (S := fun w' => w'.cell? ⟨w.heap.size, 0, none⟩ = some (.slice A n c) ∧ w'.cell? ⟨w.heap.size, 1, none⟩ = some (.slice B m d)) (n := 8) (lit := #[false, false, false, false, false, false, false, false]) rfl rfl (by kernel_rfl) cd fun hS => ?_
  refine tk (i := 0) (v := ?vb0) rfl (by kernel_rfl) (by kernel_rfl) (by kernel_rfl) (fun _ _ _ h => h) (by kernel_rfl) ?hb0 hS ?_
  case hb0 => intro w hSw; (try dsimp only at hSw); go_simp; try with_reducible rfl
  try simp only [Act.put, List.setIfInBounds_toArray, List.set_cons_zero, List.set_cons_succ]
  refine tk (i := 1) (v := ?vb1) rfl (by kernel_rfl) (by kernel_rfl) (by kernel_rfl) (fun _ _ _ h => h) (by kernel_rfl) ?hb1 hS ?_
  case hb1 => intro w hSw; (try dsimp only at hSw); go_simp; try with_reducible rfl
  try simp only [Act.put, List.setIfInBounds_toArray, List.set_cons_zero, List.set_cons_succ]
  refine tk (i := 3) (v := ?vb3) rfl (by kernel_rfl) (by kernel_rfl) (by kernel_rfl) (fun _ _ _ h => h) (by kernel_rfl) ?hb3 hS ?_
  case hb3 => intro w hSw; (try dsimp only at hSw); go_simp; try with_reducible rfl
  try simp only [Act.put, List.setIfInBounds_toArray, List.set_cons_zero, List.set_cons_succ]
  refine tk (i := 4) (v := ?vb4) rfl (by kernel_rfl) (by kernel_rfl) (by kernel_rfl) (fun _ _ _ h => h) (by kernel_rfl) ?hb4 hS ?_
  case hb4 => intro w hSw; (try dsimp only at hSw); go_simp; try with_reducible rfl
  try simp only [Act.put, List.setIfInBounds_toArray, List.set_cons_zero, List.set_cons_succ]
  refine wpAnyH_ready (rs := [2]) (by kernel_rfl) (by simp) ?_
  refine AllReadyH.cons rfl (fun K hK => ?_) AllReadyH.nil
  go_simp
  go_at_call 25; refine (HEn hP1 hP2 _ (hB3.trans (hd.mono hB3.size))).mono ?_; rintro e w4 ⟨A4, c4, rfl, hC4, -, hb4⟩
  have h4 := hd.trans (hb4.mono hd.size)
  refine hK.out _ _ (key _ h4) (fun hSh4 => ?_)
  clear hK K
  refine wpAnyH_ready (rs := [5]) (by kernel_rfl) (by simp) ?_
  refine AllReadyH.cons rfl (fun K hK => ?_) AllReadyH.nil
  go_simp
  go_at_call 26; refine (HRe hP1 hP2 _ (hB3.trans (h4.mono hB3.size))).mono ?_; rintro e w5 ⟨A5, c5, rfl, hC5, -, hb5⟩
  have h5 := h4.trans (hb5.mono h4.size)
  refine hK.out _ _ (key _ h5) (fun hSh5 => ?_)
  clear hK K
  refine wpAnyH_ready (rs := [6]) (by kernel_rfl) (by simp) ?_
  refine AllReadyH.cons rfl (fun K hK => ?_) AllReadyH.nil
  go_simp
  go_at_call 24; refine (cells_true E A4 A5 en c4 c5 _ HEN.out hel (RowF.below hC4 hb5) hC5).mono ?_; rintro e w6 ⟨rfl, hb6⟩
  have h6 := h5.trans (hb6.mono h5.size)
  refine hK.out _ _ (key _ h6) (fun hSh6 => ?_)
  clear hK K
  refine tk (i := 7) (v := ?vb7) rfl (by kernel_rfl) (by kernel_rfl) (by kernel_rfl) (fun _ _ _ h => h) (by kernel_rfl) ?hb7 hSh6 ?_
  case hb7 => intro w hSw; (try dsimp only at hSw); go_simp; try with_reducible rfl
  try simp only [Act.put, List.setIfInBounds_toArray, List.set_cons_zero, List.set_cons_succ]
  refine wpAnyH_done (by kernel_rfl) ?_ _
  go_wp2_with fail
  have hd6 := below_drew h6
  have cd6 := key _ hd6
  refine region_start (S := fun w' => w'.cell? ⟨w.heap.size, 0, none⟩ = some (.slice A n c) ∧ w'.cell? ⟨w.heap.size, 1, none⟩ = some (.slice B m d)) (n := 11) (lit := #[false, false, false, false, false, false, false, false, false, false, false]) rfl rfl (by kernel_rfl) cd6 fun hS' => ?_
  refine tk (i := 0) (v := ?vc0) rfl (by kernel_rfl) (by kernel_rfl) (by kernel_rfl) (fun _ _ _ h => h) (by kernel_rfl) ?hc0 hS' ?_
  case hc0 => intro w hSw; (try dsimp only at hSw); go_simp; try with_reducible rfl
  try simp only [Act.put, List.setIfInBounds_toArray, List.set_cons_zero, List.set_cons_succ]
  refine tk (i := 1) (v := ?vc1) rfl (by kernel_rfl) (by kernel_rfl) (by kernel_rfl) (fun _ _ _ h => h) (by kernel_rfl) ?hc1 hS' ?_
  case hc1 => intro w hSw; (try dsimp only at hSw); go_simp; try with_reducible rfl
  try simp only [Act.put, List.setIfInBounds_toArray, List.set_cons_zero, List.set_cons_succ]
  refine tk (i := 2) (v := ?vc2) rfl (by kernel_rfl) (by kernel_rfl) (by kernel_rfl) (fun _ _ _ h => h) (by kernel_rfl) ?hc2 hS' ?_
  case hc2 => intro w hSw; (try dsimp only at hSw); go_simp; try with_reducible rfl
  try simp only [Act.put, List.setIfInBounds_toArray, List.set_cons_zero, List.set_cons_succ]
  refine tk (i := 3) (v := ?vc3) rfl (by kernel_rfl) (by kernel_rfl) (by kernel_rfl) (fun _ _ _ h => h) (by kernel_rfl) ?hc3 hS' ?_
  case hc3 => intro w hSw; (try dsimp only at hSw); go_simp; try with_reducible rfl
  try simp only [Act.put, List.setIfInBounds_toArray, List.set_cons_zero, List.set_cons_succ]
  refine tk (i := 5) (v := ?vc5) rfl (by kernel_rfl) (by kernel_rfl) (by kernel_rfl) (fun _ _ _ h => h) (by kernel_rfl) ?hc5 hS' ?_
  case hc5 => intro w hSw; (try dsimp only at hSw); go_simp; try with_reducible rfl
  try simp only [Act.put, List.setIfInBounds_toArray, List.set_cons_zero, List.set_cons_succ]
  refine tk (i := 6) (v := ?vc6) rfl (by kernel_rfl) (by kernel_rfl) (by kernel_rfl) (fun _ _ _ h => h) (by kernel_rfl) ?hc6 hS' ?_
  case hc6 => intro w hSw; (try dsimp only at hSw); go_simp; try with_reducible rfl
  try simp only [Act.put, List.setIfInBounds_toArray, List.set_cons_zero, List.set_cons_succ]
  refine wpAnyH_ready (rs := [4]) (by kernel_rfl) (by simp) ?_
  refine AllReadyH.cons rfl (fun K hK => ?_) AllReadyH.nil
  go_simp
  go_at_call 27; refine (HRi hP1 hP2 _ (hB3.trans (hd6.mono hB3.size))).mono ?_; rintro e w7 ⟨rfl, hb7⟩
  have h7 := hd6.trans (hb7.mono hd6.size)
  refine hK.out _ _ (key _ h7) (fun hSh7 => ?_)
  clear hK K
  refine wpAnyH_ready (rs := [7]) (by kernel_rfl) (by simp) ?_
  refine AllReadyH.cons rfl (fun K hK => ?_) AllReadyH.nil
  go_simp
  go_at_call 28; refine (HRr hP1 hP2 _ (hB3.trans (h7.mono hB3.size))).mono ?_; rintro e w8 ⟨rfl, hb8⟩
  have h9 := h7.trans (hb8.mono h7.size)
  refine hK.out _ _ (key _ h9) (fun hSh9 => ?_)
  clear hK K
  refine tk (i := 8) (v := ?vc8) rfl (by kernel_rfl) (by kernel_rfl) (by kernel_rfl) (fun _ _ _ h => h) (by kernel_rfl) ?hc8 hSh9 ?_
  case hc8 => intro w hSw; (try dsimp only at hSw); go_simp; try with_reducible rfl
  try simp only [Act.put, List.setIfInBounds_toArray, List.set_cons_zero, List.set_cons_succ]
  refine tk (i := 9) (v := ?vc9) rfl (by kernel_rfl) (by kernel_rfl) (by kernel_rfl) (fun _ _ _ h => h) (by kernel_rfl) ?hc9 hSh9 ?_
  case hc9 => intro w hSw; (try dsimp only at hSw); go_simp; try with_reducible rfl
  try simp only [Act.put, List.setIfInBounds_toArray, List.set_cons_zero, List.set_cons_succ]
  refine tk (i := 10) (v := ?vc10) rfl (by kernel_rfl) (by kernel_rfl) (by kernel_rfl) (fun _ _ _ h => h) (by kernel_rfl) ?hc10 hSh9 ?_
  case hc10 => intro w hSw; (try dsimp only at hSw); go_simp; try with_reducible rfl
  try simp only [Act.put, List.setIfInBounds_toArray, List.set_cons_zero, List.set_cons_succ]
  refine wpAnyH_done (by kernel_rfl) ?_ _
  go_wp2_with fail
  go_ret
  exact ⟨ret_bool (by simp), hB3.trans (h9.mono hB3.size)⟩
end Go.Proofs.Ytcapdekfbhbkiaa.Tg
