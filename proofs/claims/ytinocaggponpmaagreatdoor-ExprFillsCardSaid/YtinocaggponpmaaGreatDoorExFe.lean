/-
  The document's fill at an operator of two parts.
-/
import Derived.Test.YtinocaggponpmaaGreatDoorExFh
namespace Go.Proofs.YtinocaggponpmaaGreatDoor.Ep
open Go.RowKit Lx

theorem own_set {w : World} {base : Nat} {e : TypeId} {size : Nat} {v : Value} {n : Nat} {xs : List Value} (h : w.ownsRow base e size v n xs) {a : Addr} (ha : a.block < base) (u : Value) : (w.setCell a u).ownsRow base e size v n xs := by
  refine ⟨h.1, ?_⟩
  rcases h.2 with h | ⟨g, cap, cur, hv, hbg, hh, r⟩
  · exact .inl h
  · exact .inr ⟨g, cap, cur, hv, hbg, (Below.heap_setCell _ _ _ _ (by omega)).trans hh, r⟩
set_option maxRecDepth 100000 in
set_option maxHeartbeats 16000000 in
theorem rfill_bi (env : List (List UInt8 × Int)) (o : Int) (h1 : o ≠ 1) (n : Int) (nm : List UInt8) (k l t1 t2 : Ex) (IH : Hid (Fills 37 env k t1)) (IH2 : Hid (Fills 37 env l t2))
    (lo : Nat → Prop) (g off cap : Nat) (ve : Value) (w : World) (_hcap : 2 ≤ cap) (_hg1 : lo g) (hg2 : g < w.heap.size) (hTL : TreeL lo w g off [k, l]) (hE : EnvV w env ve) (hO : Ops w) :
    Calls Tryz.prog 37 #[.agg #[.int .i64 o, .int .i64 n, .string ⟨nm.toArray⟩, .slice (some ⟨g, off, none⟩) 2 cap], ve] w (FlP (.mk o n nm [t1, t2]) w) := by
  have hb0 := (((Below.refl w.heap.size w).alloc (Nat.le_refl _) (.cells #[.int .i64 o, .int .i64 n, .string ⟨nm.toArray⟩, .slice (some ⟨g, off, none⟩) 2 cap] 25)).alloc (by simp) (.cells #[.int .i64 0, .int .i64 0, .string ⟨#[]⟩, .slice none 0 0] 25)).alloc (by simp; omega) (.cells #[.int .i64 o, .int .i64 n, .string ⟨nm.toArray⟩, .slice none 0 0] 25)
  have hx := (box_b w (.cells #[.int .i64 o, .int .i64 n, .string ⟨nm.toArray⟩, .slice (some ⟨g, off, none⟩) 2 cap] 25) 25 #[.int .i64 0, .int .i64 0, .string ⟨#[]⟩, .slice none 0 0]).alloc (.cells #[.int .i64 o, .int .i64 n, .string ⟨nm.toArray⟩, .slice none 0 0] 25)
  have hy := (box_a w (.cells #[.int .i64 0, .int .i64 0, .string ⟨#[]⟩, .slice none 0 0] 25) 25 #[.int .i64 o, .int .i64 n, .string ⟨nm.toArray⟩, .slice (some ⟨g, off, none⟩) 2 cap]).alloc (.cells #[.int .i64 o, .int .i64 n, .string ⟨nm.toArray⟩, .slice none 0 0] 25)
  have hz := Box.new ((w.alloc (.cells #[.int .i64 o, .int .i64 n, .string ⟨nm.toArray⟩, .slice (some ⟨g, off, none⟩) 2 cap] 25)).alloc (.cells #[.int .i64 0, .int .i64 0, .string ⟨#[]⟩, .slice none 0 0] 25)) 25 #[.int .i64 o, .int .i64 n, .string ⟨nm.toArray⟩, .slice none 0 0]
  have ez : ((w.alloc (.cells #[.int .i64 o, .int .i64 n, .string ⟨nm.toArray⟩, .slice (some ⟨g, off, none⟩) 2 cap] 25)).alloc (.cells #[.int .i64 0, .int .i64 0, .string ⟨#[]⟩, .slice none 0 0] 25)).heap.size = w.heap.size + 1 + 1 := by simp
  rw [ez] at hz
  have hTr := hTL
  rw [TreeL, TreeL] at hTr
  obtain ⟨⟨ka, kcap, c0, c1, c2, c3, hkt⟩, ⟨la, lcap, d0, d1', d2, d3, hlt⟩, -⟩ := hTr
  have hHE := hE
  obtain ⟨ea, ecap, rfl, hecap, hek⟩ := hE.form
  have d1 : (o == 1) = false := beq_eq_false_iff_ne.2 h1
  have HI1 : Hid (∀ wx, Below w.heap.size w wx → Calls Tryz.prog 37 #[exV k.op k.n k.name ka k.kids.length kcap, .slice ea env.length ecap] wx (FlP t1 wx)) := fun wx h => IH.out lo _ _ wx (hkt.below h (Nat.le_refl _)) (hHE.below h (Nat.le_refl _)) (hO.below h hO.lt)
  have HI2 : Hid (∀ wx, Below w.heap.size w wx → Calls Tryz.prog 37 #[exV l.op l.n l.name la l.kids.length lcap, .slice ea env.length ecap] wx (FlP t2 wx)) := fun wx h => IH2.out lo _ _ wx (hlt.below h (Nat.le_refl _)) (hHE.below h (Nat.le_refl _)) (hO.below h hO.lt)
  have HCS : Hid (∀ wx, Below w.heap.size w wx → (wx.cell? ⟨g, off, none⟩ = some (.int .i64 k.op) ∧ wx.cell? ⟨g, off + 1, none⟩ = some (.int .i64 k.n) ∧ wx.cell? ⟨g, off + 2, none⟩ = some (.string ⟨k.name.toArray⟩) ∧ wx.cell? ⟨g, off + 3, none⟩ = some (.slice ka k.kids.length kcap)) ∧ (wx.cell? ⟨g, off + 4, none⟩ = some (.int .i64 l.op) ∧ wx.cell? ⟨g, off + 5, none⟩ = some (.int .i64 l.n) ∧ wx.cell? ⟨g, off + 6, none⟩ = some (.string ⟨l.name.toArray⟩) ∧ wx.cell? ⟨g, off + 7, none⟩ = some (.slice la l.kids.length lcap))) := fun wx h =>
    ⟨⟨(h.cell (p := ⟨g, off, none⟩) hg2).trans c0, (h.cell (p := ⟨g, off + 1, none⟩) hg2).trans c1, (h.cell (p := ⟨g, off + 2, none⟩) hg2).trans c2, (h.cell (p := ⟨g, off + 3, none⟩) hg2).trans c3⟩, ⟨(h.cell (p := ⟨g, off + 4, none⟩) hg2).trans d0, (h.cell (p := ⟨g, off + 5, none⟩) hg2).trans d1', (h.cell (p := ⟨g, off + 6, none⟩) hg2).trans d2, (h.cell (p := ⟨g, off + 7, none⟩) hg2).trans d3⟩⟩
  unfold exV at HI1 HI2
  clear hecap hek hE hTL ez hO h1 IH IH2 c0 c1 c2 c3 d0 d1' d2 d3 hkt hlt hHE
  generalize env.length = el at *
  go_enter Tryz.func37, Tryz.ntmps37
  go_wp2_with fail
  generalize (((w.alloc (.cells #[.int .i64 o, .int .i64 n, .string ⟨nm.toArray⟩, .slice (some ⟨g, off, none⟩) 2 cap] 25)).alloc (.cells #[.int .i64 0, .int .i64 0, .string ⟨#[]⟩, .slice none 0 0] 25)).alloc (.cells #[.int .i64 o, .int .i64 n, .string ⟨nm.toArray⟩, .slice none 0 0] 25)) = w0 at *
  have hgl : g < w0.heap.size := Nat.lt_of_lt_of_le hg2 hb0.size
  have hyl := hy.lt
  have hxl := hx.lt
  have hzl := hz.lt
  have hd : Below w.heap.size w w0.drew := hb0.drew
  obtain ⟨⟨c0, c1, c2, c3⟩, -⟩ := HCS.out w0 hb0
  have HI := Lib.hid (HI1.out w0.drew hd)
  obtain ⟨y0, y1, y2, y3, -, -, -, -⟩ := hy.four
  obtain ⟨z0, z1, z2, z3, fz0, fz1, fz2, fz3⟩ := hz.four
  generalize k.op = k0 at *
  generalize k.n = k1 at *
  generalize (⟨k.name.toArray⟩ : ByteArray) = k2 at *
  generalize k.kids.length = k3 at *
  generalize l.op = l0 at *
  generalize l.n = l1 at *
  generalize (⟨l.name.toArray⟩ : ByteArray) = l2 at *
  generalize l.kids.length = l3 at *
  refine wp_loop_rounds 3 ?_
  rw [rounds_succ]
  go_wp2_with fail
  go_region_law
    (first | (rw [if_pos (by simp [Region.wanted])]; go_simp; go_at_call 37; (with_reducible refine HI.out.mono ?_); rintro e w1 ⟨v1, rfl, hT1, hb1⟩; obtain ⟨a1, cp1, rfl, -, -⟩ := hT1.open; unfold exV at hT1 ⊢; have hz1 := hz.drew.below hb1 hzl; have zc1 : w1.cell? ⟨w.heap.size + 1 + 1, 3, none⟩ = some (.slice none 0 0) := hz1.cell 3; have hs1 : w.heap.size + 1 + 1 + 1 ≤ w1.heap.size := hz1.lt; obtain ⟨g', c', w2, hr, ho2, hgr2, hnew⟩ := run_append_ex t1.op t1.n ⟨t1.name.toArray⟩ a1 t1.kids.length cp1 (World.ownsRow_nil w1 (w.heap.size + 1 + 1 + 1) 25 4) (by omega) hs1; have hz2 := box_grown (hz1.alloc (.cells #[.int .i64 t1.op, .int .i64 t1.n, .string ⟨t1.name.toArray⟩, .slice a1 t1.kids.length cp1] 25)) hgr2 (by intro h; cases h); have zc2 : (w1.alloc (.cells #[.int .i64 t1.op, .int .i64 t1.n, .string ⟨t1.name.toArray⟩, .slice a1 t1.kids.length cp1] 25)).cell? ⟨w.heap.size + 1 + 1, 3, none⟩ = some (.slice none 0 0) := (hz1.alloc _).cell 3; have zc3 : w2.cell? ⟨w.heap.size + 1 + 1, 3, none⟩ = some (.slice none 0 0) := hz2.cell 3; have qz2 := box_frozen hz2 3) | (refine step_append_run (by rfl) _ _ _ _ (by rfl) (by rfl) (by rfl) hr ?_))
  all_goals
    have hw2 : Below w1.heap.size w1 w2 := ((Below.refl w1.heap.size w1).alloc (Nat.le_refl _) (.cells #[.int .i64 t1.op, .int .i64 t1.n, .string ⟨t1.name.toArray⟩, .slice a1 t1.kids.length cp1] 25)).grown hgr2 (by simp) (by intro q hq; cases hq)
    have hB01 : Below w0.heap.size w0 w1 := (Below.refl w0.heap.size w0).drew.trans hb1
    have hB02 : Below w0.heap.size w0 w2 := hB01.trans (hw2.mono hB01.size)
    have hBW0 : Below w.heap.size w w2 := hb0.trans (hB02.mono (by omega))
    have hBW : Below w.heap.size w (w2.setCell ⟨w.heap.size + 1 + 1, 3, none⟩ (.slice (some ⟨g', 0, none⟩) 1 c')) := hBW0.setCell (p := ⟨w.heap.size + 1 + 1, 3, none⟩) (by show w.heap.size ≤ w.heap.size + 1 + 1; omega) _
    have hzW : Box (w2.setCell ⟨w.heap.size + 1 + 1, 3, none⟩ (.slice (some ⟨g', 0, none⟩) 1 c')) (w.heap.size + 1 + 1) 25 #[.int .i64 o, .int .i64 n, .string ⟨nm.toArray⟩, .slice (some ⟨g', 0, none⟩) 1 c'] := by
      unfold Box at hz2 ⊢; simp [World.setCell, Array.getElem?_modify, hz2]
    have hoff : ∀ q, q ≠ w.heap.size + 1 + 1 → (w2.setCell ⟨w.heap.size + 1 + 1, 3, none⟩ (.slice (some ⟨g', 0, none⟩) 1 c')).heap[q]? = w2.heap[q]? := fun q hq => Below.heap_setCell _ _ _ _ hq
    have hxW : Box (w2.setCell ⟨w.heap.size + 1 + 1, 3, none⟩ (.slice (some ⟨g', 0, none⟩) 1 c')) (w.heap.size + 1) 25 #[.int .i64 0, .int .i64 0, .string ⟨#[]⟩, .slice none 0 0] := (hoff _ (by omega)).trans (hx.below hB02 hxl)
    have hyW : Box (w2.setCell ⟨w.heap.size + 1 + 1, 3, none⟩ (.slice (some ⟨g', 0, none⟩) 1 c')) w.heap.size 25 #[.int .i64 o, .int .i64 n, .string ⟨nm.toArray⟩, .slice (some ⟨g, off, none⟩) 2 cap] := (hoff _ (by omega)).trans (hy.below hB02 hyl)
    have hoW := own_set ho2 (a := ⟨w.heap.size + 1 + 1, 3, none⟩) (by show w.heap.size + 1 + 1 < _; omega) (.slice (some ⟨g', 0, none⟩) 1 c')
    have hsd : w0.drew.heap.size = w0.heap.size := rfl
    have hg1n : g' = w1.heap.size + 1 := hnew.resolve_left (by intro h; cases h)
    have HG1 : Hid (∀ q, (w0.heap.size ≤ q ∧ q < w1.heap.size) → q ≠ g' ∧ w0.heap.size ≤ q) := fun q h => ⟨by omega, h.1⟩
    have hT1 : TreeV (fun q => w0.heap.size ≤ q ∧ q < w1.heap.size) w1 t1 _ := TreeV.within hT1
    have HT1 := Lib.hid (TreeV.keep (w' := w2.setCell ⟨w.heap.size + 1 + 1, 3, none⟩ (.slice (some ⟨g', 0, none⟩) 1 c')) (by simp [World.setCell]) (fun q hq _ => hoff q (by have : w0.heap.size ≤ q := hq.1; have : w.heap.size + 1 + 1 < w0.heap.size := hzl; omega)) _ _ (hT1.below hw2 (Nat.le_refl _)))
    clear hg1n hnew
    have hgW := hoW.1
    have HW0 : w.heap.size + 1 + 1 < w0.heap.size := hzl
    clear hx hy hz hz1 hz2 hw2 hB01 hB02 hBW0 hoff ho2 hr hgr2 zc1 zc2 zc3 qz2 hT1 hb1 HI c0 c1 c2 c3 y0 y1 y2 y3 z0 z1 z2 z3 fz0 fz1 fz2 fz3 hgW
    generalize hWW : w2.setCell ⟨w.heap.size + 1 + 1, 3, none⟩ (.slice (some ⟨g', 0, none⟩) 1 c') = W at *
    clear hWW
    obtain ⟨-, ⟨c0, c1, c2, c3⟩⟩ := HCS.out W hBW
    obtain ⟨y0, y1, y2, y3, -, -, -, -⟩ := hyW.four
    obtain ⟨z0, z1, z2, z3, fz0, fz1, fz2, fz3⟩ := hzW.four
    have hyl := hyW.lt
    have hxl := hxW.lt
    have hzl := hzW.lt
    have hglW : g < W.heap.size := Nat.lt_of_lt_of_le hg2 hBW.size
    have HI := Lib.hid (HI2.out W.drew hBW.drew)
    go_wp2_with fail
    rw [rounds_succ]
    go_wp2_with fail
    go_region_law
      (first | (rw [if_pos (by simp [Region.wanted])]; go_simp; go_at_call 37; (with_reducible refine HI.out.mono ?_); rintro e w3 ⟨v2, rfl, hT2, hb3⟩; obtain ⟨a2, cp2, rfl, -, -⟩ := hT2.open; unfold exV at hT2 ⊢; have hz3 := hzW.drew.below hb3 hzl; have zc1 : w3.cell? ⟨w.heap.size + 1 + 1, 3, none⟩ = some (.slice (some ⟨g', 0, none⟩) 1 c') := hz3.cell 3; have hs3 : w.heap.size + 1 + 1 + 1 ≤ w3.heap.size := hz3.lt; have ho3 := own_keepN (show W.drew.ownsRow _ _ _ _ _ _ from hoW) hb3; obtain ⟨g2', c2', w4, hr, ho4, hgr4, -⟩ := run_append_ex t2.op t2.n ⟨t2.name.toArray⟩ a2 t2.kids.length cp2 ho3 (by omega) hs3; have hz4 := box_grown (hz3.alloc (.cells #[.int .i64 t2.op, .int .i64 t2.n, .string ⟨t2.name.toArray⟩, .slice a2 t2.kids.length cp2] 25)) hgr4 (fun e => by have := own_geN ho3 _ e.symm; omega); have zc2 : (w3.alloc (.cells #[.int .i64 t2.op, .int .i64 t2.n, .string ⟨t2.name.toArray⟩, .slice a2 t2.kids.length cp2] 25)).cell? ⟨w.heap.size + 1 + 1, 3, none⟩ = some (.slice (some ⟨g', 0, none⟩) 1 c') := (hz3.alloc _).cell 3; have zc3 : w4.cell? ⟨w.heap.size + 1 + 1, 3, none⟩ = some (.slice (some ⟨g', 0, none⟩) 1 c') := hz4.cell 3; have qz4 := box_frozen hz4 3) | (refine step_append_run (by rfl) _ _ _ _ (by rfl) (by rfl) (by rfl) hr ?_))
    all_goals
      have hbd : W.drew.heap.size = W.heap.size := rfl
      have hBW3 : Below w.heap.size w w3 := hBW.drew.trans (hb3.mono (by exact hBW.size))
      have hw4 : Below (w.heap.size + 1 + 1 + 1) w3 w4 := ((Below.refl (w.heap.size + 1 + 1 + 1) w3).alloc hs3 (.cells #[.int .i64 t2.op, .int .i64 t2.n, .string ⟨t2.name.toArray⟩, .slice a2 t2.kids.length cp2] 25)).grown hgr4 (by simp; omega) (own_geN ho3)
      have hBW4 := hBW3.trans (hw4.mono (by omega))
      have hge := own_geN ho4 g2' rfl
      obtain ⟨cc, czz, hcell⟩ := Lib.ownsRow_kind ho4 g2' rfl
      have hgl4 : g2' < w4.heap.size := (Array.getElem?_eq_some_iff.1 hcell).1
      have hcc : 2 ≤ c2' := own_cap ho4
      have r0 := ho4.cells (g := g2') rfl 0 _ rfl
      have r1 := ho4.cells (g := g2') rfl 1 _ rfl
      have r2 := ho4.cells (g := g2') rfl 2 _ rfl
      have r3 := ho4.cells (g := g2') rfl 3 _ rfl
      have r4 := ho4.cells (g := g2') rfl 4 _ rfl
      have r5 := ho4.cells (g := g2') rfl 5 _ rfl
      have r6 := ho4.cells (g := g2') rfl 6 _ rfl
      have r7 := ho4.cells (g := g2') rfl 7 _ rfl
      simp [Addr.add] at r0 r1 r2 r3 r4 r5 r6 r7
      have HR := Lib.hid (show _ ∧ _ ∧ _ ∧ _ from ⟨r0, r1, r2, r3⟩)
      have HRb := Lib.hid (show _ ∧ _ ∧ _ ∧ _ from ⟨r4, r5, r6, r7⟩)
      have h34 : ∀ q, q < w3.heap.size → q ≠ g' → w4.heap[q]? = w3.heap[q]? := fun q hq hn => (hgr4.block q (by simp; omega) (fun e => hn (Option.some.inj e))).trans (Below.heap_alloc _ _ _ hq)
      have HS1 := HG1.out
      have HT1b := Lib.hid (TreeV.keep (w' := w4) (Nat.le_trans (by simp) hgr4.size) (fun q hq hlt => h34 q hlt (HS1 q hq).1) _ _ (TreeV.below HT1.out (show Below W.heap.size W w3 from (Below.refl W.heap.size W).drew.trans hb3) (Nat.le_refl _)))
      have hgW : g' < W.heap.size := (by
        obtain ⟨cc2, czz2, hcell2⟩ := Lib.ownsRow_kind hoW g' rfl
        exact (Array.getElem?_eq_some_iff.1 hcell2).1)
      have HT2b := Lib.hid (TreeV.keep (w' := w4) (Nat.le_trans (by simp) hgr4.size) (fun q hq hlt => h34 q hlt (by have : W.heap.size ≤ q := hq; omega)) _ _ hT2)
      have hbw : Below W.heap.size W w3 := (Below.refl W.heap.size W).drew.trans hb3
      have hx4 : Box w4 (w.heap.size + 1) 25 #[.int .i64 0, .int .i64 0, .string ⟨#[]⟩, .slice none 0 0] := (hxW.below hbw hxl).below hw4 (by omega)
      have hy4 : Box w4 w.heap.size 25 #[.int .i64 o, .int .i64 n, .string ⟨nm.toArray⟩, .slice (some ⟨g, off, none⟩) 2 cap] := (hyW.below hbw hyl).below hw4 (by omega)
      obtain ⟨x0, x1, x2, x3, fx0, fx1, fx2, fx3⟩ := hx4.four
      obtain ⟨u0, u1, u2, u3, fu0, fu1, fu2, fu3⟩ := hz4.four
      obtain ⟨p0, p1, p2, p3, -, -, -, -⟩ := hy4.four
      have hxl2 := hx4.lt
      have hzl2 := hz4.lt
      have hyl2 := hy4.lt
      have hsW := hBW.size
      have HW1 : w0.heap.size ≤ W.heap.size ∨ True := Or.inr trivial
      clear r0 r1 r2 r3 r4 r5 r6 r7 hcell ho4 hgr4 hr hT2 hb3 hz3 hz4 zc1 zc2 zc3 qz4 hx4 hy4 hxW hyW hzW HI y0 y1 y2 y3 z0 z1 z2 z3 fz0 fz1 fz2 fz3 c0 c1 c2 c3 h34 hw4 hoW ho3 hbw HCS HI1 HI2 HW1 HT1
      go_wp2_with fail
      rw [rounds_succ]
      go_wp2
      refine bodyPost_ret (v := exV o n nm (some ⟨g2', 0, none⟩) 2 c2') (by simp [results, Tryz.results37, go_sem, exV, x0, x1, x2, x3]) rfl ⟨_, rfl, ?_, below_set4 (hBW4.setCell (p := ⟨w.heap.size + 1 + 1, 3, none⟩) (by show w.heap.size ≤ w.heap.size + 1 + 1; omega) _) (by omega) _ _ _ _⟩
      have hkeep : ∀ q, q ≠ w.heap.size + 1 → q ≠ w.heap.size + 1 + 1 → (((((w4.setCell ⟨w.heap.size + 1 + 1, 3, none⟩ (.slice (some ⟨g2', 0, none⟩) 2 c2')).setCell ⟨w.heap.size + 1, 0, none⟩ (.int .i64 o)).setCell ⟨w.heap.size + 1, 1, none⟩ (.int .i64 n)).setCell ⟨w.heap.size + 1, 2, none⟩ (.string ⟨nm.toArray⟩)).setCell ⟨w.heap.size + 1, 3, none⟩ (.slice (some ⟨g2', 0, none⟩) 2 c2')).heap[q]? = w4.heap[q]? := fun q h1 h2 => (block4 _ _ _ _ _ _ _ h1).trans (Below.heap_setCell _ _ _ _ h2)
      have hcl : ∀ q, (((((w4.setCell ⟨w.heap.size + 1 + 1, 3, none⟩ (.slice (some ⟨g2', 0, none⟩) 2 c2')).setCell ⟨w.heap.size + 1, 0, none⟩ (.int .i64 o)).setCell ⟨w.heap.size + 1, 1, none⟩ (.int .i64 n)).setCell ⟨w.heap.size + 1, 2, none⟩ (.string ⟨nm.toArray⟩)).setCell ⟨w.heap.size + 1, 3, none⟩ (.slice (some ⟨g2', 0, none⟩) 2 c2')).cell? ⟨g2', q, none⟩ = w4.cell? ⟨g2', q, none⟩ := fun q => World.cell?_of_block (w := w4) (hkeep g2' (by omega) (by omega))
      have hfin := fun (S : Nat → Prop) (x : Ex) (v : Value) (hS : ∀ q, S q → w.heap.size + 1 + 1 < q) (h : TreeV S w4 x v) => TreeV.low (lo' := fun q => w.heap.size ≤ q) (fun q hq => by have := hS q hq; omega) _ _ (TreeV.keep (w' := ((((w4.setCell ⟨w.heap.size + 1 + 1, 3, none⟩ (.slice (some ⟨g2', 0, none⟩) 2 c2')).setCell ⟨w.heap.size + 1, 0, none⟩ (.int .i64 o)).setCell ⟨w.heap.size + 1, 1, none⟩ (.int .i64 n)).setCell ⟨w.heap.size + 1, 2, none⟩ (.string ⟨nm.toArray⟩)).setCell ⟨w.heap.size + 1, 3, none⟩ (.slice (some ⟨g2', 0, none⟩) 2 c2')) (by rw [size4]; simp [World.setCell]) (fun q hq _ => hkeep q (by have := hS q hq; omega) (by have := hS q hq; omega)) _ _ h)
      exact tree_row2 hcc (by show w.heap.size ≤ g2'; omega) (by rw [size4]; simp [World.setCell]; exact hgl4) ((hcl 0).trans HR.out.1) ((hcl 1).trans HR.out.2.1) ((hcl 2).trans HR.out.2.2.1) ((hcl 3).trans HR.out.2.2.2) ((hcl 4).trans HRb.out.1) ((hcl 5).trans HRb.out.2.1) ((hcl 6).trans HRb.out.2.2.1) ((hcl 7).trans HRb.out.2.2.2)
        (hfin _ _ _ (fun q hq => by have := (HS1 q hq).2; omega) HT1b.out) (hfin _ _ _ (fun q hq => by have : W.heap.size ≤ q := hq; omega) HT2b.out)
end Go.Proofs.YtinocaggponpmaaGreatDoor.Ep
