/-
  The document's Copy of images.
-/
import Derived.Test.YtppffmmngomijaaTgL2
namespace Go.Proofs.Ytppffmmngomijaa.Tg
open Go.RowKit Lx

theorem app_nums (w : World) (A : Option Addr) (l : List Int) (c : Nat) (hn : l.length ≤ 1000000) (hV : Nums w A l) : ∀ w1, Below w.heap.size w w1 → ∃ A' c' w', (Builtin.append_ #[25, 25] 25 #[.slice none 0 0, .slice A l.length c]).run Try.prog w1 = .ok (.slice A' l.length c') w' ∧ w'.ownsRow w.heap.size 3 1 (.slice A' l.length c') l.length (l.flatMap numC) ∧ Below w1.heap.size w1 w' := fun w1 hb => by
  obtain ⟨A', c', w', hr, ho, hg⟩ := run_append_all (f := numC) Try.underlying25 info_int rfl (by omega) (fun _ => rfl) (by intro a u hu; simp [numC] at hu; subst hu; rfl) (World.ownsRow_nil w1 w.heap.size 3 1) (hV.below hb) c hn hb.size
  exact ⟨A', c', w', hr, ho, (Below.refl _ w1).grown hg (Nat.le_refl _) (fun k hk => by cases hk)⟩
theorem app_flags (w : World) (A : Option Addr) (l : List Bool) (c : Nat) (hn : l.length ≤ 1000000) (hV : Flags w A l) : ∀ w1, Below w.heap.size w w1 → ∃ A' c' w', (Builtin.append_ #[26, 26] 26 #[.slice none 0 0, .slice A l.length c]).run Try.prog w1 = .ok (.slice A' l.length c') w' ∧ w'.ownsRow w.heap.size 4 1 (.slice A' l.length c') l.length (l.flatMap flagC) ∧ Below w1.heap.size w1 w' := fun w1 hb => by
  obtain ⟨A', c', w', hr, ho, hg⟩ := run_append_all (f := flagC) Try.underlying26 info_bool rfl (by omega) (fun _ => rfl) (by intro a u hu; simp [flagC] at hu; subst hu; rfl) (World.ownsRow_nil w1 w.heap.size 4 1) (hV.below hb) c hn hb.size
  exact ⟨A', c', w', hr, ho, (Below.refl _ w1).grown hg (Nat.le_refl _) (fun k hk => by cases hk)⟩
def CopyPost (im : Im) (n m : Nat) (w : World) (e : Ending) (w' : World) : Prop := ∃ A c B d, e = .returned (.agg #[.slice A n c, .slice B m d]) ∧ OwnIm w.heap.size w' im A c B d ∧ Below w.heap.size w w'

set_option maxRecDepth 100000 in
set_option maxHeartbeats 4000000 in
theorem copy_any (im : Im) (A B : Option Addr) (c d n m : Nat) (w : World) (hn : im.v.length = n) (hm : im.bad.length = m) (hn' : n ≤ 1000000) (hm' : m ≤ 1000000) (hV : Nums w A im.v) (hB : Flags w B im.bad) :
    Calls Try.prog 19 #[.agg #[.slice A n c, .slice B m d]] w (CopyPost im n m w) := by
  have HVa := app_nums w A im.v c (by omega) hV
  have HBa := app_flags w B im.bad d (by omega) hB
  rw [hn] at HVa
  rw [hm] at HBa
  have HN := Lib.hid hn
  have HM := Lib.hid hm
  clear hn hm hV hB
  have hx := (Box.new w 28 #[.slice A n c, .slice B m d]).alloc (.cells #[.slice none 0 0, .slice none 0 0] 28)
  have hy := box_at (w := w.alloc (.cells #[.slice A n c, .slice B m d] 28)) (N := w.heap.size + 1) (t := 28) (cs := #[.slice none 0 0, .slice none 0 0]) (by simp)
  have hw := ((Below.refl _ w).alloc (Nat.le_refl _) (.cells #[.slice A n c, .slice B m d] 28)).alloc (by simp) (.cells #[.slice none 0 0, .slice none 0 0] 28)
  go_enter Try.func19, Try.ntmps19
  go_wp2_with fail
  generalize hW : ((w.alloc (.cells #[.slice A n c, .slice B m d] 28)).alloc (.cells #[.slice none 0 0, .slice none 0 0] 28)) = W at *
  have key : ∀ w2, Below W.heap.size W w2 → Two_ w2 w.heap.size A B n c m d := fun w2 hb2 => ⟨(hb2.cell (p := ⟨w.heap.size, 0, none⟩) hx.lt).trans (hx.cell 0), (hb2.cell (p := ⟨w.heap.size, 1, none⟩) hx.lt).trans (hx.cell 1)⟩
  have hd := below_drew (Below.refl W.heap.size W)
  have cd := key _ hd
  unfold Two_ at cd
  refine region_start (S := fun w' => w'.cell? ⟨w.heap.size, 0, none⟩ = some (.slice A n c) ∧ w'.cell? ⟨w.heap.size, 1, none⟩ = some (.slice B m d)) (n := 8) (lit := #[false, false, false, false, false, false, false, false]) rfl rfl (by kernel_rfl) cd fun hS => ?_
  refine tk (i := 0) (v := ?vb0) rfl (by kernel_rfl) (by kernel_rfl) (by kernel_rfl) (fun _ _ _ h => h) (by kernel_rfl) ?hb0 hS ?_
  case hb0 => intro w hSw; (try dsimp only at hSw); go_simp; try with_reducible rfl
  try simp only [Act.put, List.setIfInBounds_toArray, List.set_cons_zero, List.set_cons_succ]
  refine tk (i := 1) (v := ?vb1) rfl (by kernel_rfl) (by kernel_rfl) (by kernel_rfl) (fun _ _ _ h => h) (by kernel_rfl) ?hb1 hS ?_
  case hb1 => intro w hSw; (try dsimp only at hSw); go_simp; try with_reducible rfl
  try simp only [Act.put, List.setIfInBounds_toArray, List.set_cons_zero, List.set_cons_succ]
  refine tk (i := 3) (v := ?vb3) rfl (by kernel_rfl) (by kernel_rfl) (by kernel_rfl) (fun _ _ _ h => h) (by kernel_rfl) ?hb3 hS ?_
  case hb3 => intro w hSw; (try dsimp only at hSw); go_simp; try with_reducible rfl
  try simp only [Act.put, List.setIfInBounds_toArray, List.set_cons_zero, List.set_cons_succ]
  refine tk (i := 4) (v := ?vb4) rfl (by kernel_rfl) (by kernel_rfl) (by kernel_rfl) (fun _ _ _ h => h) (by kernel_rfl) ?hb4 hS ?_
  case hb4 => intro w hSw; (try dsimp only at hSw); go_simp; try with_reducible rfl
  try simp only [Act.put, List.setIfInBounds_toArray, List.set_cons_zero, List.set_cons_succ]
  refine wpAnyH_ready (rs := [2]) (by kernel_rfl) (by simp) ?_
  refine AllReadyH.cons rfl (fun K hK => ?_) AllReadyH.nil
  obtain ⟨A', c', w2, hrV, hoV, hbV⟩ := HVa _ (hw.trans (hd.mono hw.size))
  refine step_append_run rfl _ _ _ _ rfl rfl rfl hrV ?_
  have h2 := hd.trans (hbV.mono hd.size)
  have kh2 := key _ h2
  unfold Two_ at kh2
  refine hK.out _ _ kh2 (fun hSh2 => ?_)
  clear hK K
  try simp only [Act.put, List.setIfInBounds_toArray, List.set_cons_zero, List.set_cons_succ]
  refine wpAnyH_ready (rs := [5]) (by kernel_rfl) (by simp) ?_
  refine AllReadyH.cons rfl (fun K hK => ?_) AllReadyH.nil
  obtain ⟨B', d', w3, hrB, hoB, hbB⟩ := HBa _ (hw.trans (h2.mono hw.size))
  refine step_append_run rfl _ _ _ _ rfl rfl rfl hrB ?_
  have h3 := h2.trans (hbB.mono h2.size)
  have kh3 := key _ h3
  unfold Two_ at kh3
  refine hK.out _ _ kh3 (fun hSh3 => ?_)
  clear hK K
  try simp only [Act.put, List.setIfInBounds_toArray, List.set_cons_zero, List.set_cons_succ]
  refine tk (i := 6) (v := ?vc6) rfl (by kernel_rfl) (by kernel_rfl) (by kernel_rfl) (fun _ _ _ h => h) (by kernel_rfl) ?hc6 hSh3 ?_
  case hc6 => intro w hSw; (try dsimp only at hSw); go_simp; try with_reducible rfl
  try simp only [Act.put, List.setIfInBounds_toArray, List.set_cons_zero, List.set_cons_succ]
  have hy3 := hy.below h3 hy.lt
  have y0 := hy3.cell 0
  have y1 := hy3.cell 1
  have z0 := hy3.frozen 0
  have z1 := hy3.frozen 1
  simp at y0 y1
  have hx3 := hx.below h3 hx.lt
  have hx4 := (hx3.far (p := ⟨w.heap.size + 1, 0, none⟩) (by simp) (.slice A' n c')).far (p := ⟨w.heap.size + 1, 1, none⟩) (by simp) (.slice B' m d')
  have hO4 := own_im2 hy3 (by decide) (by decide) (own_im HN.out HM.out (own_keep hoV hbB) hoB) (.slice A' n c') (.slice B' m d')
  have hy4 := two_set hy3 (.slice A' n c') (.slice B' m d')
  have r0 := hy4.cell 0
  have r1 := hy4.cell 1
  simp at r0 r1
  have hF := ((hw.trans (h3.mono hw.size)).setCell (p := ⟨w.heap.size + 1, 0, none⟩) (Nat.le_succ _) (.slice A' n c')).setCell (p := ⟨w.heap.size + 1, 1, none⟩) (Nat.le_succ _) (.slice B' m d')
  refine wpAnyH_ready (rs := [7]) (by kernel_rfl) (by simp) ?_
  refine AllReadyH.cons rfl (fun K hK => ?_) AllReadyH.nil
  go_simp
  refine hK.out _ _ ⟨hx4.cell 0, hx4.cell 1⟩ (fun _ => ?_)
  clear hK K
  refine wpAnyH_done (by kernel_rfl) ?_ _
  go_wp2_with fail
  exact bodyPost_ret (v := .agg #[.slice A' n c', .slice B' m d']) (by simp [results, Try.results19, go_sem, r0, r1]) rfl ⟨A', c', B', d', rfl, hO4, hF⟩
end Go.Proofs.Ytppffmmngomijaa.Tg
