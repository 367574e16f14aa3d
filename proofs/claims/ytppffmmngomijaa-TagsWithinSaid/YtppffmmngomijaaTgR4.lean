/-
  The document's tell, Latch and Drive answer as the plain words say.
-/
import Derived.Test.YtppffmmngomijaaTgR3
namespace Go.Proofs.Ytppffmmngomijaa.Tg
open Go.RowKit Lx

theorem fr_cell {S : Nat → Prop} {w w' : World} (h : Fr S w w') {p : Addr} (hg : p.block < w.heap.size) (hS : ¬ S p.block) {v : Value} (hv : w.cell? p = some v) : w'.cell? p = some v := (World.cell?_of_block (h.block _ hg hS)).trans hv
theorem own_putB {base : Nat} {w : World} {im : Im} {c d g k : Nat} {A : Option Addr} (h : OwnIm base w im A c (some ⟨g, 0, none⟩) d) (b : Bool) :
    OwnIm base (w.setCell ⟨g, k, none⟩ (.bool b)) ⟨im.v, im.bad.set k b⟩ A c (some ⟨g, 0, none⟩) d ∧ Fr (Bk A (some ⟨g, 0, none⟩)) w (w.setCell ⟨g, k, none⟩ (.bool b)) := by
  have hne := own_types h.1 h.2 (by decide)
  obtain ⟨h1, k1⟩ := h.2.stored k (.bool b)
  have h2 := h.1.kept k1 (by simpa [Value.ownBlock] using hne)
  refine ⟨⟨h2, ?_⟩, (Fr.refl _ w).set_ (p := ⟨g, k, none⟩) (Or.inr rfl) _⟩
  show World.ownsRow _ base 4 1 (.slice _ (im.bad.set k b).length d) (im.bad.set k b).length ((im.bad.set k b).flatMap flagC)
  rw [List.length_set, flat_flag, List.map_set, ← flat_flag]
  exact h1
def Seven (w' : World) (p : Nat) (A B : Option Addr) (n c m d : Nat) (gt ot i : Nat) (nm : ByteArray) (out : Bool) (lo hi : Int) (gc oc k : Nat) (z : Int) : Prop :=
  w'.cell? ⟨p, 0, none⟩ = some (.slice A n c) ∧ w'.cell? ⟨p, 1, none⟩ = some (.slice B m d) ∧ w'.cell? ⟨gt, ot + i * 4, none⟩ = some (.string nm) ∧ w'.cell? ⟨gt, ot + i * 4 + 1, none⟩ = some (.bool out) ∧ w'.cell? ⟨gt, ot + i * 4 + 2, none⟩ = some (.int .i64 lo) ∧ w'.cell? ⟨gt, ot + i * 4 + 3, none⟩ = some (.int .i64 hi) ∧ w'.cell? ⟨gc, oc + k * 2 + 1, none⟩ = some (.int .i64 z)

set_option maxRecDepth 100000 in
set_option maxHeartbeats 8000000 in
theorem tell_any (l : List Tg) (im : Im) (cs : List Cl) (out : Bool) (a A B ca : Option Addr) (cap c d ccap : Nat) (w : World) (hl : l.length ≤ 1000000) (hn : im.v.length ≤ 1000000) (hm : im.bad.length ≤ 1000000) (hc : cs.length ≤ 1000000) (hNm : ∀ t ∈ l, t.nm.size ≤ 20000) (hT : Tags w a l) (hV : Nums w A im.v) (hB : Flags w B im.bad) (hC : Cells w ca cs) :
    Calls Try.prog 37 #[.slice a l.length cap, .agg #[.slice A im.v.length c, .slice B im.bad.length d], .slice ca cs.length ccap, .bool out] w (ImPost (tellT l im cs out) w) := by
  have HR : ∀ w1, Below w.heap.size w w1 → Calls Try.prog 28 #[.slice a l.length cap, .agg #[.slice A im.v.length c, .slice B im.bad.length d]] w1 fun e w' => e = .returned (.bool (rightB l im)) ∧ Below w1.heap.size w1 w' := fun w1 hb => refRight_any l a cap im A B c d w1 hl hn hm hNm (hT.below hb) (hV.below hb) (hB.below hb)
  have HX0 := Lib.hid (fun h => tell_no (l := l) (im := im) (cs := cs) (out := out) h)
  have HX1 := Lib.hid (fun h h2 => tell_none (l := l) (im := im) (cs := cs) (out := out) h h2)
  have HX2 := Lib.hid (fun x h h2 => tell_some (x := x) (l := l) (im := im) (cs := cs) (out := out) h h2)
  have HRK := Lib.hid (fun (h : rightB l im = true) => right_ok h)
  clear hNm
  generalize tellT l im cs out = X at *
  generalize hr : rightB l im = r at *
  cases r with
  | false =>
    have HX3 : Hid (X = (none, 1)) := HX0.out rfl
    clear HX0 HX1 HX2
    clear hT hV hB hC
    generalize l.length = len at *
    generalize im.v.length = n at *
    generalize im.bad.length = m at *
    generalize cs.length = len2 at *
    go_enter Try.func37, Try.ntmps37
    go_wp2_with fail
    refine (HR _ (((Below.refl _ w).alloc (Nat.le_refl _) _).alloc (by simp) _)).mono ?_
    rintro e w1 ⟨rfl, hb1⟩
    have hx := (box_at (w := w.alloc (.cells #[.slice A n c, .slice B m d] 28)) (N := w.heap.size + 1) (t := 28) (cs := #[.slice none 0 0, .slice none 0 0]) (by simp)).below hb1 (by simp only [World.alloc, Array.size_push]; omega)
    have hb0 := below_new (below_new hb1)
    have e0 := hx.cell 0
    have e1 := hx.cell 1
    have f0 := hx.frozen 0
    have f1 := hx.frozen 1
    simp at e0 e1
    go_wp2_with fail
    have hy := two_set hx (.slice none 0 0) (.slice none 0 0)
    have r0 := hy.cell 0
    have r1 := hy.cell 1
    simp at r0 r1
    rw [HX3.out]
    exact bodyPost_ret (v := .tuple #[.agg #[.slice none 0 0, .slice none 0 0], .int .i64 1]) (by simp [results, Try.results37, go_sem, r0, r1]) rfl (impost_none ((hb0.setCell (p := ⟨w.heap.size + 1, 0, none⟩) (by simp) _).setCell (p := ⟨w.heap.size + 1, 1, none⟩) (by simp) _))
  | true =>
    obtain ⟨hck, hvl, hbl, -⟩ := HRK.out rfl
    generalize hRR : tellF l out cs im = R at *
    have HX1' : Hid (R = none → X = (none, 21)) := fun h => HX1.out rfl h
    have HX2' : Hid (∀ x, R = some x → X = (some x, 0)) := fun x h => HX2.out x rfl h
    clear HX0 HX1 HX2 HRK
    have HRR : Hid (tellF l out (cs.drop 0) im = R) := by unfold Hid; exact hRR
    have HCp : ∀ w1, Below w.heap.size w w1 → Calls Try.prog 19 #[.agg #[.slice A im.v.length c, .slice B im.bad.length d]] w1 (CopyPost im im.v.length im.bad.length w1) := fun w1 hb => copy_any im A B c d _ _ w1 rfl rfl hn hm (hV.below hb) (hB.below hb)
    have HT := Lib.hid hT
    have HCl := Lib.hid hC
    clear hT hV hB hC
    generalize hlen : l.length = len at *
    have HL := Lib.hid hlen
    clear hlen
    generalize hn1 : im.v.length = n at *
    have HN := Lib.hid hn1
    clear hn1
    generalize hm1 : im.bad.length = m at *
    have HM := Lib.hid hm1
    clear hm1
    generalize hc1 : cs.length = len2 at *
    have HLc := Lib.hid hc1
    clear hc1
    have HVL := Lib.hid hvl
    have HBL := Lib.hid hbl
    clear hvl hbl hck
    go_enter Try.func37, Try.ntmps37
    go_wp2_with fail
    refine (HR _ (((Below.refl _ w).alloc (Nat.le_refl _) _).alloc (by simp) _)).mono ?_
    rintro e w1 ⟨rfl, hb1⟩
    have hx := ((Box.new w 28 #[.slice A n c, .slice B m d]).alloc (.cells #[.slice none 0 0, .slice none 0 0] 28)).below hb1 (by simp only [World.alloc, Array.size_push]; omega)
    have hy := (box_at (w := w.alloc (.cells #[.slice A n c, .slice B m d] 28)) (N := w.heap.size + 1) (t := 28) (cs := #[.slice none 0 0, .slice none 0 0]) (by simp)).below hb1 (by simp only [World.alloc, Array.size_push]; omega)
    have hb0 := below_new (below_new hb1)
    clear hb1
    have a0 := hx.cell 0
    have a1 := hx.cell 1
    simp at a0 a1
    go_wp2_with fail
    refine (HCp _ hb0).mono ?_
    rintro e w2 ⟨A', c', B', d', rfl, hO2, hb2⟩
    have hy2 := hy.below hb2 hy.lt
    have hw2 := hb2.size
    have hBw : Below w.heap.size w (w2.alloc (.cells #[.slice A' n c', .slice B' m d'] 28)) := (hb0.trans (hb2.mono hb0.size)).alloc (Nat.le_trans hb0.size hb2.size) _
    have hbx := Box.new w2 28 #[.slice A' n c', .slice B' m d']
    have hyx := hy2.alloc (.cells #[.slice A' n c', .slice B' m d'] 28)
    have hox : OwnIm w1.heap.size (w2.alloc (.cells #[.slice A' n c', .slice B' m d'] 28)) im A' c' B' d' := hO2.below ((Below.refl _ _).alloc (Nat.le_refl _) _)
    have hpw : w.heap.size ≤ w.heap.size + 1 := Nat.le_succ _
    have hww := hb0.size
    have hyl := hy.lt
    clear hx hy hy2 hb2 hO2 HR HCp a0 a1
    go_wp2_with fail
    generalize hp2 : w2.heap.size = p2b at *
    generalize hWx : (w2.alloc (.cells #[.slice A' n c', .slice B' m d'] 28)) = wx at *
    have hnp : ¬ Bk A' B' p2b := box_not_bk hbx hox (by decide) (by decide)
    have hn1 : ¬ Bk A' B' (w.heap.size + 1) := not_bk hox (.inl hyl)
    have hbk : ∀ b, Bk A' B' b → w.heap.size ≤ b := fun b hb => Nat.le_trans hww (bk_base hox b hb)
    have HOX := Lib.hid hox
    clear hox hWx hp2
    go_loopw [12] (fun i wr => ∃ (k : Nat) (x : Im), k ≤ len2 ∧ i = .int .i64 k ∧ Hid (tellF l out (cs.drop k) x = R) ∧ Hid (x.v.length = n ∧ x.bad.length = m) ∧ Hid (OwnIm w1.heap.size wr x A' c' B' d') ∧ Hid (Fr (Bk A' B') wx wr)) (fun i _ => len2 - (intOf i).toNat)
    case atStart => exact ⟨0, im, by omega, rfl, HRR, ⟨HN.out, HM.out⟩, HOX, Fr.refl _ _⟩
    case round =>
      obtain ⟨k, x, hkl, rfl, HS, HLx, HO, HFr⟩ := hrel
      have hyr := hyx.fr HFr.out hn1
      have hbr := hbx.fr HFr.out hnp
      have hBr : Below w.heap.size w wr := hBw.trans (HFr.out.below hBw.size hbk)
      have e0 := hyr.cell 0
      have e1 := hyr.cell 1
      have f0 := hyr.frozen 0
      have f1 := hyr.frozen 1
      simp at e0 e1
      have g0 := hbr.cell 0
      have g1 := hbr.cell 1
      simp at g0 g1
      by_cases hlt : k < len2
      · have hki : k < cs.length := by rw [HLc.out]; exact hlt
        obtain ⟨g, off, rfl, hg, c0, c1⟩ := Cells.at2 HCl.out hki
        have HF := Lib.hid (tellF_drop l out cs x k hki)
        have HTr : Tags wr a l := RowF.below HT.out hBr
        generalize cs[k] = cl at *
        obtain ⟨s, z⟩ := cl
        simp only at *
        rw [← hBr.cell (p := ⟨g, _, none⟩) hg] at c0 c1
        have hgr : g < wr.heap.size := Nat.lt_of_lt_of_le hg hBr.size
        have hFi := refFind_any l s a cap wr (by rw [HL.out]; exact hl) HTr
        rw [HL.out] at hFi
        have HTr' := Lib.hid HTr
        clear HTr
        have hy3 := two_set hyr (.slice none 0 0) (.slice none 0 0)
        have r0 := hy3.cell 0
        have r1 := hy3.cell 1
        simp at r0 r1
        cases hz : findZ l s with
        | none =>
          have hI : findI l s = -1 := by unfold findI; rw [hz]
          rw [hI] at hFi
          have HXn : Hid (X = (none, 21)) := by
            refine HX1'.out ?_
            rw [← HS.out, HF.out, hz]
          clear hI hz hy3 hyr hyx
          go_wp2_with fail
          refine hFi.mono ?_
          rintro e w2 ⟨rfl, rfl⟩
          go_wp2_with fail
          rw [HXn.out]
          exact bodyPost_ret (v := .tuple #[.agg #[.slice none 0 0, .slice none 0 0], .int .i64 21]) (by simp [results, Try.results37, go_sem, r0, r1]) rfl (impost_none ((hBr.setCell (p := ⟨w.heap.size + 1, 0, none⟩) hpw _).setCell (p := ⟨w.heap.size + 1, 1, none⟩) hpw _))
        | some i =>
          have hI : findI l s = (i : Int) := by unfold findI; rw [hz]
          rw [hI] at hFi
          obtain ⟨hil, -⟩ := findZ_at hz
          have hgd : l.getD i default = l[i] := by rw [List.getD_eq_getElem?_getD, List.getElem?_eq_getElem hil]; rfl
          have HF2 : Hid (tellF l out (cs.drop k) x = if l[i].out = out then tellF l out (cs.drop (k + 1)) (x.put i (nearZ l[i] z) (!out && decide (nearZ l[i] z ≠ z))) else none) := by
            unfold Hid; rw [HF.out, hz]; simp only [hgd]
          clear HF hI hz hgd
          have hil2 : i < len := by rw [← HL.out]; exact hil
          have hil3 : ((i : Nat) : Int) < (len : Int) := by omega
          obtain ⟨gt, ot, rfl, hgt0, t0, t1, t2, t3⟩ := Tags.at4 HT.out hil
          rw [← hBr.cell (p := ⟨gt, _, none⟩) hgt0] at t0 t1 t2 t3
          have hgt : gt < wr.heap.size := Nat.lt_of_lt_of_le hgt0 hBr.size
          go_wp2_with fail
          refine hFi.mono ?_
          rintro e w3 ⟨rfl, rfl⟩
          by_cases ho : l[i].out = out
          · have HF3 : Hid (tellF l out (cs.drop (k + 1)) (x.put i (nearZ l[i] z) (!out && decide (nearZ l[i] z ≠ z))) = R) := by
              unfold Hid; rw [← HS.out, HF2.out, if_pos ho]
            have hNr := refNear_any l[i] z
            rw [ho] at t1
            have hxv := HLx.out.1
            have hxb := HLx.out.2
            have hiv : i < x.v.length := by rw [hxv, HVL.out]; exact hil2
            have hib : i < x.bad.length := by rw [hxb, HBL.out]; exact hil2
            have hin : ((i : Nat) : Int) < (n : Int) := by have := HVL.out; omega
            have him : ((i : Nat) : Int) < (m : Int) := by have := HBL.out; omega
            obtain ⟨gA, cA, hvA, hbA, hlA⟩ := HO.out.1.form (by omega)
            injection hvA with hvA _ hvc
            subst hvA
            obtain ⟨gB, cB, hvB, hbB, hlB⟩ := HO.out.2.form (by omega)
            injection hvB with hvB _ hvd
            subst hvB
            subst hvc
            subst hvd
            have hgAB : gA ≠ gB := by
              have := own_types HO.out.1 HO.out.2 (by decide)
              simpa [Value.ownBlock] using this
            have dq : (out == out) = true := by simp
            have HXX := Lib.hid (put_len x i (nearZ l[i] z) (!out && decide (nearZ l[i] z ≠ z)))
            generalize hNZ : nearZ l[i] z = nz at *
            clear hNZ
            have hnr : ∀ w2, Calls Try.prog 31 #[.agg #[.string l[i].nm, .bool out, .int .i64 l[i].lo, .int .i64 l[i].hi], .int .i64 z] w2 fun e w' => e = .returned (.int .i64 nz) ∧ Below w2.heap.size w2 w' := fun w2 => by
              have := hNr w2
              rw [ho] at this
              exact this
            clear hNr ho
            generalize l[i] = t at *
            obtain ⟨nm, tout, lo, hi⟩ := t
            simp only at *
            have nbt : ¬ Bk (some ⟨gA, 0, none⟩) (some ⟨gB, 0, none⟩) gt := fun hb => Nat.not_le.2 hgt0 (hbk gt hb)
            have nbg : ¬ Bk (some ⟨gA, 0, none⟩) (some ⟨gB, 0, none⟩) g := fun hb => Nat.not_le.2 hg (hbk g hb)
            have key : ∀ w2, Fr (Bk (some ⟨gA, 0, none⟩) (some ⟨gB, 0, none⟩)) wr w2 → Seven w2 p2b (some ⟨gA, 0, none⟩) (some ⟨gB, 0, none⟩) n c' m d' gt ot i nm out lo hi g off k z := fun w2 hf =>
              ⟨(hbr.fr hf hnp).cell 0, (hbr.fr hf hnp).cell 1, fr_cell hf (p := ⟨gt, _, none⟩) hgt nbt t0, fr_cell hf (p := ⟨gt, _, none⟩) hgt nbt t1, fr_cell hf (p := ⟨gt, _, none⟩) hgt nbt t2, fr_cell hf (p := ⟨gt, _, none⟩) hgt nbt t3, fr_cell hf (p := ⟨g, _, none⟩) hgr nbg c1⟩
            have hd : Fr (Bk (some ⟨gA, 0, none⟩) (some ⟨gB, 0, none⟩)) wr wr.drew := (Fr.refl _ _).drew
            have cd := key _ hd
            unfold Seven at cd
            go_wp2_with fail
            refine region_start (S := fun w' => w'.cell? ⟨p2b, 0, none⟩ = some (.slice (some ⟨gA, 0, none⟩) n c') ∧ w'.cell? ⟨p2b, 1, none⟩ = some (.slice (some ⟨gB, 0, none⟩) m d') ∧ w'.cell? ⟨gt, ot + i * 4, none⟩ = some (.string nm) ∧ w'.cell? ⟨gt, ot + i * 4 + 1, none⟩ = some (.bool out) ∧ w'.cell? ⟨gt, ot + i * 4 + 2, none⟩ = some (.int .i64 lo) ∧ w'.cell? ⟨gt, ot + i * 4 + 3, none⟩ = some (.int .i64 hi) ∧ w'.cell? ⟨g, off + k * 2 + 1, none⟩ = some (.int .i64 z)) (n := 15) (lit := #[false, false, false, false, false, false, false, false, false, false, false, false, false, false, false]) rfl rfl (by kernel_rfl) cd fun hS => ?_
            refine tk (i := 0) (v := ?vb0) rfl (by kernel_rfl) (by kernel_rfl) (by kernel_rfl) (fun _ _ _ h => h) (by kernel_rfl) ?hb0 hS ?_
            case hb0 => intro w hSw; (try dsimp only at hSw); go_simp; try with_reducible rfl
            try simp only [Act.put, List.setIfInBounds_toArray, List.set_cons_zero, List.set_cons_succ]
            refine tk (i := 1) (v := ?vb1) rfl (by kernel_rfl) (by kernel_rfl) (by kernel_rfl) (fun _ _ _ h => h) (by kernel_rfl) ?hb1 hS ?_
            case hb1 => intro w hSw; (try dsimp only at hSw); go_simp; try with_reducible rfl
            try simp only [Act.put, List.setIfInBounds_toArray, List.set_cons_zero, List.set_cons_succ]
            refine tk (i := 2) (v := ?vb2) rfl (by kernel_rfl) (by kernel_rfl) (by kernel_rfl) (fun _ _ _ h => h) (by kernel_rfl) ?hb2 hS ?_
            case hb2 => intro w hSw; (try dsimp only at hSw); go_simp; try with_reducible rfl
            try simp only [Act.put, List.setIfInBounds_toArray, List.set_cons_zero, List.set_cons_succ]
            refine tk (i := 3) (v := ?vb3) rfl (by kernel_rfl) (by kernel_rfl) (by kernel_rfl) (fun _ _ _ h => h) (by kernel_rfl) ?hb3 hS ?_
            case hb3 => intro w hSw; (try dsimp only at hSw); go_simp; try with_reducible rfl
            try simp only [Act.put, List.setIfInBounds_toArray, List.set_cons_zero, List.set_cons_succ]
            refine tk (i := 4) (v := ?vb4) rfl (by kernel_rfl) (by kernel_rfl) (by kernel_rfl) (fun _ _ _ h => h) (by kernel_rfl) ?hb4 hS ?_
            case hb4 => intro w hSw; (try dsimp only at hSw); go_simp; try with_reducible rfl
            try simp only [Act.put, List.setIfInBounds_toArray, List.set_cons_zero, List.set_cons_succ]
            refine tk (i := 5) (v := ?vb5) rfl (by kernel_rfl) (by kernel_rfl) (by kernel_rfl) (fun _ _ _ h => h) (by kernel_rfl) ?hb5 hS ?_
            case hb5 => intro w hSw; (try dsimp only at hSw); go_simp; try with_reducible rfl
            try simp only [Act.put, List.setIfInBounds_toArray, List.set_cons_zero, List.set_cons_succ]
            refine tk (i := 6) (v := ?vb6) rfl (by kernel_rfl) (by kernel_rfl) (by kernel_rfl) (fun _ _ _ h => h) (by kernel_rfl) ?hb6 hS ?_
            case hb6 => intro w hSw; (try dsimp only at hSw); go_simp; try with_reducible rfl
            try simp only [Act.put, List.setIfInBounds_toArray, List.set_cons_zero, List.set_cons_succ]
            refine tk (i := 7) (v := ?vb7) rfl (by kernel_rfl) (by kernel_rfl) (by kernel_rfl) (fun _ _ _ h => h) (by kernel_rfl) ?hb7 hS ?_
            case hb7 => intro w hSw; (try dsimp only at hSw); go_simp; try with_reducible rfl
            try simp only [Act.put, List.setIfInBounds_toArray, List.set_cons_zero, List.set_cons_succ]
            refine tk (i := 8) (v := ?vb8) rfl (by kernel_rfl) (by kernel_rfl) (by kernel_rfl) (fun _ _ _ h => h) (by kernel_rfl) ?hb8 hS ?_
            case hb8 => intro w hSw; (try dsimp only at hSw); go_simp; try with_reducible rfl
            try simp only [Act.put, List.setIfInBounds_toArray, List.set_cons_zero, List.set_cons_succ]
            refine tk (i := 9) (v := ?vb9) rfl (by kernel_rfl) (by kernel_rfl) (by kernel_rfl) (fun _ _ _ h => h) (by kernel_rfl) ?hb9 hS ?_
            case hb9 => intro w hSw; (try dsimp only at hSw); go_simp; try with_reducible rfl
            try simp only [Act.put, List.setIfInBounds_toArray, List.set_cons_zero, List.set_cons_succ]
            refine tk (i := 10) (v := ?vb10) rfl (by kernel_rfl) (by kernel_rfl) (by kernel_rfl) (fun _ _ _ h => h) (by kernel_rfl) ?hb10 hS ?_
            case hb10 => intro w hSw; (try dsimp only at hSw); go_simp; try with_reducible rfl
            try simp only [Act.put, List.setIfInBounds_toArray, List.set_cons_zero, List.set_cons_succ]
            refine tk (i := 11) (v := ?vb11) rfl (by kernel_rfl) (by kernel_rfl) (by kernel_rfl) (fun _ _ _ h => h) (by kernel_rfl) ?hb11 hS ?_
            case hb11 => intro w hSw; (try dsimp only at hSw); go_simp; try with_reducible rfl
            try simp only [Act.put, List.setIfInBounds_toArray, List.set_cons_zero, List.set_cons_succ]
            refine wpAnyH_ready (rs := [12]) (by kernel_rfl) (by simp) ?_
            refine AllReadyH.cons rfl (fun K hK => ?_) AllReadyH.nil
            go_simp
            go_at_call 31
            refine (hnr _).mono ?_
            rintro e w4 ⟨rfl, hb4⟩
            have hf4 : Fr (Bk (some ⟨gA, 0, none⟩) (some ⟨gB, 0, none⟩)) wr w4 := hd.trans (Fr.of_below hb4)
            have k4 := key _ hf4
            unfold Seven at k4
            have o4 := HO.out.below ((below_drew (Below.refl _ _)).trans hb4)
            refine hK.out _ _ k4 (fun hS4 => ?_)
            clear hK K
            refine tk (i := 13) (v := ?vb13) rfl (by kernel_rfl) (by kernel_rfl) (by kernel_rfl) (fun _ _ _ h => h) (by kernel_rfl) ?hb13 hS4 ?_
            case hb13 => intro w hSw; (try dsimp only at hSw); go_simp; try with_reducible rfl
            try simp only [Act.put, List.setIfInBounds_toArray, List.set_cons_zero, List.set_cons_succ]
            have z1 : w4.cell? ⟨gA, i, none⟩ = some (.int .i64 x.v[i]) := by
              rw [o4.1.cellAt i (by omega), flat_num]
              simp [hiv]
            have zf1 := o4.1.frozenAt i
            obtain ⟨o5, f5⟩ := own_putV o4 (k := i) hiv nz
            have hf5 := hf4.trans f5
            have k5 := key _ hf5
            unfold Seven at k5
            have v5 : (w4.setCell ⟨gA, i, none⟩ (.int .i64 nz)).cell? ⟨gA, i, none⟩ = some (.int .i64 nz) := by
              rw [o5.1.cellAt i (by show i < (x.v.set i nz).length * 1; rw [List.length_set]; omega), flat_num]
              simp [hiv]
            have z2 : (w4.setCell ⟨gA, i, none⟩ (.int .i64 nz)).cell? ⟨gB, i, none⟩ = some (.bool x.bad[i]) := by
              rw [o5.2.cellAt i (by show i < x.bad.length * 1; omega), flat_flag]
              simp [hib]
            have zf2 := o5.2.frozenAt i
            generalize x.v[i] = xv at *
            generalize x.bad[i] = xb at *
            refine wpAnyH_ready (rs := [14]) (by kernel_rfl) (by simp) ?_
            refine AllReadyH.cons rfl (fun K hK => ?_) AllReadyH.nil
            go_simp
            refine hK.out _ _ k5 (fun hS5 => ?_)
            clear hK K
            refine wpAnyH_done (by kernel_rfl) ?_ _
            generalize hW5 : w4.setCell ⟨gA, i, none⟩ (.int .i64 nz) = w5 at *
            clear hW5
            have k5d := key _ hf5.drew
            unfold Seven at k5d
            obtain ⟨q0, q1, -, -, -, -, q6⟩ := k5d
            have v5d : w5.drew.cell? ⟨gA, i, none⟩ = some (.int .i64 nz) := v5
            have cd5 := And.intro q0 (And.intro q1 (And.intro v5d q6))
            go_wp2_with fail
            cases out with
            | true =>
              refine region_start (S := fun w' => w'.cell? ⟨p2b, 0, none⟩ = some (.slice (some ⟨gA, 0, none⟩) n c') ∧ w'.cell? ⟨p2b, 1, none⟩ = some (.slice (some ⟨gB, 0, none⟩) m d') ∧ w'.cell? ⟨gA, i, none⟩ = some (.int .i64 nz) ∧ w'.cell? ⟨g, off + k * 2 + 1, none⟩ = some (.int .i64 z)) (n := 20) (lit := #[false, false, false, false, false, false, false, false, false, false, false, false, false, false, false, false, false, false, false, false]) rfl rfl (by kernel_rfl) cd5 fun hS => ?_
              refine tk (i := 0) (v := ?vc0) rfl (by kernel_rfl) (by kernel_rfl) (by kernel_rfl) (fun _ _ _ h => h) (by kernel_rfl) ?hc0 hS ?_
              case hc0 => intro w hSw; (try dsimp only at hSw); go_simp; try with_reducible rfl
              try simp only [Act.put, List.setIfInBounds_toArray, List.set_cons_zero, List.set_cons_succ]
              refine tk (i := 1) (v := ?vc1) rfl (by kernel_rfl) (by kernel_rfl) (by kernel_rfl) (fun _ _ _ h => h) (by kernel_rfl) ?hc1 hS ?_
              case hc1 => intro w hSw; (try dsimp only at hSw); go_simp; try with_reducible rfl
              try simp only [Act.put, List.setIfInBounds_toArray, List.set_cons_zero, List.set_cons_succ]
              refine tk (i := 2) (v := ?vc2) rfl (by kernel_rfl) (by kernel_rfl) (by kernel_rfl) (fun _ _ _ h => h) (by kernel_rfl) ?hc2 hS ?_
              case hc2 => intro w hSw; (try dsimp only at hSw); go_simp; try with_reducible rfl
              try simp only [Act.put, List.setIfInBounds_toArray, List.set_cons_zero, List.set_cons_succ]
              refine tk (i := 3) (v := ?vc3) rfl (by kernel_rfl) (by kernel_rfl) (by kernel_rfl) (fun _ _ _ h => h) (by kernel_rfl) ?hc3 hS ?_
              case hc3 => intro w hSw; (try dsimp only at hSw); go_simp; try with_reducible rfl
              try simp only [Act.put, List.setIfInBounds_toArray, List.set_cons_zero, List.set_cons_succ]
              refine tk (i := 4) (v := ?vc4) rfl (by kernel_rfl) (by kernel_rfl) (by kernel_rfl) (fun _ _ _ h => h) (by kernel_rfl) ?hc4 hS ?_
              case hc4 => intro w hSw; (try dsimp only at hSw); go_simp; try with_reducible rfl
              try simp only [Act.put, List.setIfInBounds_toArray, List.set_cons_zero, List.set_cons_succ]
              refine tk (i := 5) (v := ?vc5) rfl (by kernel_rfl) (by kernel_rfl) (by kernel_rfl) (fun _ _ _ h => h) (by kernel_rfl) ?hc5 hS ?_
              case hc5 => intro w hSw; (try dsimp only at hSw); go_simp; try with_reducible rfl
              try simp only [Act.put, List.setIfInBounds_toArray, List.set_cons_zero, List.set_cons_succ]
              refine sk (i := 6) rfl (by kernel_rfl) (by kernel_rfl) (by kernel_rfl) (fun _ _ _ h => h) (by kernel_rfl) hS ?_
              try simp only [Act.put, List.setIfInBounds_toArray, List.set_cons_zero, List.set_cons_succ]
              refine sk (i := 7) rfl (by kernel_rfl) (by kernel_rfl) (by kernel_rfl) (fun _ _ _ h => h) (by kernel_rfl) hS ?_
              try simp only [Act.put, List.setIfInBounds_toArray, List.set_cons_zero, List.set_cons_succ]
              refine sk (i := 8) rfl (by kernel_rfl) (by kernel_rfl) (by kernel_rfl) (fun _ _ _ h => h) (by kernel_rfl) hS ?_
              try simp only [Act.put, List.setIfInBounds_toArray, List.set_cons_zero, List.set_cons_succ]
              refine sk (i := 9) rfl (by kernel_rfl) (by kernel_rfl) (by kernel_rfl) (fun _ _ _ h => h) (by kernel_rfl) hS ?_
              try simp only [Act.put, List.setIfInBounds_toArray, List.set_cons_zero, List.set_cons_succ]
              refine sk (i := 10) rfl (by kernel_rfl) (by kernel_rfl) (by kernel_rfl) (fun _ _ _ h => h) (by kernel_rfl) hS ?_
              try simp only [Act.put, List.setIfInBounds_toArray, List.set_cons_zero, List.set_cons_succ]
              refine sk (i := 11) rfl (by kernel_rfl) (by kernel_rfl) (by kernel_rfl) (fun _ _ _ h => h) (by kernel_rfl) hS ?_
              try simp only [Act.put, List.setIfInBounds_toArray, List.set_cons_zero, List.set_cons_succ]
              refine sk (i := 12) rfl (by kernel_rfl) (by kernel_rfl) (by kernel_rfl) (fun _ _ _ h => h) (by kernel_rfl) hS ?_
              try simp only [Act.put, List.setIfInBounds_toArray, List.set_cons_zero, List.set_cons_succ]
              refine sk (i := 13) rfl (by kernel_rfl) (by kernel_rfl) (by kernel_rfl) (fun _ _ _ h => h) (by kernel_rfl) hS ?_
              try simp only [Act.put, List.setIfInBounds_toArray, List.set_cons_zero, List.set_cons_succ]
              refine sk (i := 14) rfl (by kernel_rfl) (by kernel_rfl) (by kernel_rfl) (fun _ _ _ h => h) (by kernel_rfl) hS ?_
              try simp only [Act.put, List.setIfInBounds_toArray, List.set_cons_zero, List.set_cons_succ]
              refine sk (i := 15) rfl (by kernel_rfl) (by kernel_rfl) (by kernel_rfl) (fun _ _ _ h => h) (by kernel_rfl) hS ?_
              try simp only [Act.put, List.setIfInBounds_toArray, List.set_cons_zero, List.set_cons_succ]
              refine sk (i := 16) rfl (by kernel_rfl) (by kernel_rfl) (by kernel_rfl) (fun _ _ _ h => h) (by kernel_rfl) hS ?_
              try simp only [Act.put, List.setIfInBounds_toArray, List.set_cons_zero, List.set_cons_succ]
              refine tk (i := 17) (v := ?vc17) rfl (by kernel_rfl) (by kernel_rfl) (by kernel_rfl) (fun _ _ _ h => h) (by kernel_rfl) ?hc17 hS ?_
              case hc17 => intro w hSw; (try dsimp only at hSw); go_simp; try with_reducible rfl
              try simp only [Act.put, List.setIfInBounds_toArray, List.set_cons_zero, List.set_cons_succ]
              refine tk (i := 18) (v := ?vc18) rfl (by kernel_rfl) (by kernel_rfl) (by kernel_rfl) (fun _ _ _ h => h) (by kernel_rfl) ?hc18 hS ?_
              case hc18 => intro w hSw; (try dsimp only at hSw); go_simp; try with_reducible rfl
              try simp only [Act.put, List.setIfInBounds_toArray, List.set_cons_zero, List.set_cons_succ]
              obtain ⟨o6, f6⟩ := own_putB (w := w5.drew) (k := i) o5 false
              have hf6 := hf5.drew.trans f6
              have k6 := key _ hf6
              unfold Seven at k6
              obtain ⟨j0, j1, -, -, -, -, j6⟩ := k6
              have v6 : (w5.drew.setCell ⟨gB, i, none⟩ (.bool false)).cell? ⟨gA, i, none⟩ = some (.int .i64 nz) := by
                rw [o6.1.cellAt i (by show i < (x.v.set i nz).length * 1; rw [List.length_set]; omega), flat_num]
                simp [hiv]
              refine wpAnyH_ready (rs := [19]) (by kernel_rfl) (by simp) ?_
              refine AllReadyH.cons rfl (fun K hK => ?_) AllReadyH.nil
              go_simp
              refine hK.out _ _ ⟨j0, j1, v6, j6⟩ (fun hS6 => ?_)
              clear hK K
              refine wpAnyH_done (by kernel_rfl) ?_ _
              go_wp2_with fail
              go_roundw
              case rel =>
                have hbb : Hid ((!true && decide (nz ≠ z)) = false) := by unfold Hid; simp
                have hO6 : Hid (OwnIm w1.heap.size (w5.setCell ⟨gB, i, none⟩ (.bool false)).drew (x.put i nz (!true && decide (nz ≠ z))) (some ⟨gA, 0, none⟩) c' (some ⟨gB, 0, none⟩) d') := by
                  unfold Hid
                  rw [hbb.out]
                  exact o6
                have hL6 : Hid ((x.put i nz (!true && decide (nz ≠ z))).v.length = n ∧ (x.put i nz (!true && decide (nz ≠ z))).bad.length = m) := ⟨by rw [HXX.out.1]; exact HLx.out.1, by rw [HXX.out.2]; exact HLx.out.2⟩
                have hF6 : Hid (Fr (Bk (some ⟨gA, 0, none⟩) (some ⟨gB, 0, none⟩)) wx (w5.setCell ⟨gB, i, none⟩ (.bool false)).drew) := HFr.out.trans hf6
                have hk1 : k + 1 ≤ len2 := hlt
                clear hbb
                first
                  | exact ⟨k + 1, x.put i nz (!true && decide (nz ≠ z)), hk1, by go_num, HF3, hL6, hO6, hF6⟩
                  | exact ⟨k + 1, hk1, by go_num, x.put i nz (!true && decide (nz ≠ z)), HF3, hL6, hO6, hF6⟩
                  | (trace_state; fail)
              case measure => simp [intOf]; omega
            | false =>
              by_cases hnz : nz = z
              · have dn : (nz != z) = false := by simpa using hnz
                have HNZ := Lib.hid hnz
                clear hnz
                refine region_start (S := fun w' => w'.cell? ⟨p2b, 0, none⟩ = some (.slice (some ⟨gA, 0, none⟩) n c') ∧ w'.cell? ⟨p2b, 1, none⟩ = some (.slice (some ⟨gB, 0, none⟩) m d') ∧ w'.cell? ⟨gA, i, none⟩ = some (.int .i64 nz) ∧ w'.cell? ⟨g, off + k * 2 + 1, none⟩ = some (.int .i64 z)) (n := 20) (lit := #[false, false, false, false, false, false, false, false, false, false, false, false, false, false, false, false, false, false, false, false]) rfl rfl (by kernel_rfl) cd5 fun hS => ?_
                refine tk (i := 0) (v := ?vd0) rfl (by kernel_rfl) (by kernel_rfl) (by kernel_rfl) (fun _ _ _ h => h) (by kernel_rfl) ?hd0 hS ?_
                case hd0 => intro w hSw; (try dsimp only at hSw); go_simp; try with_reducible rfl
                try simp only [Act.put, List.setIfInBounds_toArray, List.set_cons_zero, List.set_cons_succ]
                refine tk (i := 1) (v := ?vd1) rfl (by kernel_rfl) (by kernel_rfl) (by kernel_rfl) (fun _ _ _ h => h) (by kernel_rfl) ?hd1 hS ?_
                case hd1 => intro w hSw; (try dsimp only at hSw); go_simp; try with_reducible rfl
                try simp only [Act.put, List.setIfInBounds_toArray, List.set_cons_zero, List.set_cons_succ]
                refine tk (i := 2) (v := ?vd2) rfl (by kernel_rfl) (by kernel_rfl) (by kernel_rfl) (fun _ _ _ h => h) (by kernel_rfl) ?hd2 hS ?_
                case hd2 => intro w hSw; (try dsimp only at hSw); go_simp; try with_reducible rfl
                try simp only [Act.put, List.setIfInBounds_toArray, List.set_cons_zero, List.set_cons_succ]
                refine tk (i := 3) (v := ?vd3) rfl (by kernel_rfl) (by kernel_rfl) (by kernel_rfl) (fun _ _ _ h => h) (by kernel_rfl) ?hd3 hS ?_
                case hd3 => intro w hSw; (try dsimp only at hSw); go_simp; try with_reducible rfl
                try simp only [Act.put, List.setIfInBounds_toArray, List.set_cons_zero, List.set_cons_succ]
                refine tk (i := 4) (v := ?vd4) rfl (by kernel_rfl) (by kernel_rfl) (by kernel_rfl) (fun _ _ _ h => h) (by kernel_rfl) ?hd4 hS ?_
                case hd4 => intro w hSw; (try dsimp only at hSw); go_simp; try with_reducible rfl
                try simp only [Act.put, List.setIfInBounds_toArray, List.set_cons_zero, List.set_cons_succ]
                refine tk (i := 5) (v := ?vd5) rfl (by kernel_rfl) (by kernel_rfl) (by kernel_rfl) (fun _ _ _ h => h) (by kernel_rfl) ?hd5 hS ?_
                case hd5 => intro w hSw; (try dsimp only at hSw); go_simp; try with_reducible rfl
                try simp only [Act.put, List.setIfInBounds_toArray, List.set_cons_zero, List.set_cons_succ]
                refine tk (i := 6) (v := ?vd6) rfl (by kernel_rfl) (by kernel_rfl) (by kernel_rfl) (fun _ _ _ h => h) (by kernel_rfl) ?hd6 hS ?_
                case hd6 => intro w hSw; (try dsimp only at hSw); go_simp; try with_reducible rfl
                try simp only [Act.put, List.setIfInBounds_toArray, List.set_cons_zero, List.set_cons_succ]
                refine tk (i := 7) (v := ?vd7) rfl (by kernel_rfl) (by kernel_rfl) (by kernel_rfl) (fun _ _ _ h => h) (by kernel_rfl) ?hd7 hS ?_
                case hd7 => intro w hSw; (try dsimp only at hSw); go_simp; try with_reducible rfl
                try simp only [Act.put, List.setIfInBounds_toArray, List.set_cons_zero, List.set_cons_succ]
                refine tk (i := 8) (v := ?vd8) rfl (by kernel_rfl) (by kernel_rfl) (by kernel_rfl) (fun _ _ _ h => h) (by kernel_rfl) ?hd8 hS ?_
                case hd8 => intro w hSw; (try dsimp only at hSw); go_simp; try with_reducible rfl
                try simp only [Act.put, List.setIfInBounds_toArray, List.set_cons_zero, List.set_cons_succ]
                refine tk (i := 9) (v := ?vd9) rfl (by kernel_rfl) (by kernel_rfl) (by kernel_rfl) (fun _ _ _ h => h) (by kernel_rfl) ?hd9 hS ?_
                case hd9 => intro w hSw; (try dsimp only at hSw); go_simp; try with_reducible rfl
                try simp only [Act.put, List.setIfInBounds_toArray, List.set_cons_zero, List.set_cons_succ]
                refine tk (i := 10) (v := ?vd10) rfl (by kernel_rfl) (by kernel_rfl) (by kernel_rfl) (fun _ _ _ h => h) (by kernel_rfl) ?hd10 hS ?_
                case hd10 => intro w hSw; (try dsimp only at hSw); go_simp; try with_reducible rfl
                try simp only [Act.put, List.setIfInBounds_toArray, List.set_cons_zero, List.set_cons_succ]
                refine tk (i := 11) (v := ?vd11) rfl (by kernel_rfl) (by kernel_rfl) (by kernel_rfl) (fun _ _ _ h => h) (by kernel_rfl) ?hd11 hS ?_
                case hd11 => intro w hSw; (try dsimp only at hSw); go_simp; try with_reducible rfl
                try simp only [Act.put, List.setIfInBounds_toArray, List.set_cons_zero, List.set_cons_succ]
                refine tk (i := 12) (v := ?vd12) rfl (by kernel_rfl) (by kernel_rfl) (by kernel_rfl) (fun _ _ _ h => h) (by kernel_rfl) ?hd12 hS ?_
                case hd12 => intro w hSw; (try dsimp only at hSw); go_simp; try with_reducible rfl
                try simp only [Act.put, List.setIfInBounds_toArray, List.set_cons_zero, List.set_cons_succ]
                refine tk (i := 13) (v := ?vd13) rfl (by kernel_rfl) (by kernel_rfl) (by kernel_rfl) (fun _ _ _ h => h) (by kernel_rfl) ?hd13 hS ?_
                case hd13 => intro w hSw; (try dsimp only at hSw); go_simp; try with_reducible rfl
                try simp only [Act.put, List.setIfInBounds_toArray, List.set_cons_zero, List.set_cons_succ]
                refine tk (i := 14) (v := ?vd14) rfl (by kernel_rfl) (by kernel_rfl) (by kernel_rfl) (fun _ _ _ h => h) (by kernel_rfl) ?hd14 hS ?_
                case hd14 => intro w hSw; (try dsimp only at hSw); go_simp; try with_reducible rfl
                try simp only [Act.put, List.setIfInBounds_toArray, List.set_cons_zero, List.set_cons_succ]
                refine tk (i := 15) (v := ?vd15) rfl (by kernel_rfl) (by kernel_rfl) (by kernel_rfl) (fun _ _ _ h => h) (by kernel_rfl) ?hd15 hS ?_
                case hd15 => intro w hSw; (try dsimp only at hSw); go_simp; try with_reducible rfl
                try simp only [Act.put, List.setIfInBounds_toArray, List.set_cons_zero, List.set_cons_succ]
                refine tk (i := 16) (v := ?vd16) rfl (by kernel_rfl) (by kernel_rfl) (by kernel_rfl) (fun _ _ _ h => h) (by kernel_rfl) ?hd16 hS ?_
                case hd16 => intro w hSw; (try dsimp only at hSw); go_simp; try with_reducible rfl
                try simp only [Act.put, List.setIfInBounds_toArray, List.set_cons_zero, List.set_cons_succ]
                refine tk (i := 17) (v := ?vd17) rfl (by kernel_rfl) (by kernel_rfl) (by kernel_rfl) (fun _ _ _ h => h) (by kernel_rfl) ?hd17 hS ?_
                case hd17 => intro w hSw; (try dsimp only at hSw); go_simp; try with_reducible rfl
                try simp only [Act.put, List.setIfInBounds_toArray, List.set_cons_zero, List.set_cons_succ]
                refine tk (i := 18) (v := ?vd18) rfl (by kernel_rfl) (by kernel_rfl) (by kernel_rfl) (fun _ _ _ h => h) (by kernel_rfl) ?hd18 hS ?_
                case hd18 => intro w hSw; (try dsimp only at hSw); go_simp; try with_reducible rfl
                try simp only [Act.put, List.setIfInBounds_toArray, List.set_cons_zero, List.set_cons_succ]
                obtain ⟨o6, f6⟩ := own_putB (w := w5.drew) (k := i) o5 false
                have hf6 := hf5.drew.trans f6
                have k6 := key _ hf6
                unfold Seven at k6
                obtain ⟨j0, j1, -, -, -, -, j6⟩ := k6
                have v6 : (w5.drew.setCell ⟨gB, i, none⟩ (.bool false)).cell? ⟨gA, i, none⟩ = some (.int .i64 nz) := by
                  rw [o6.1.cellAt i (by show i < (x.v.set i nz).length * 1; rw [List.length_set]; omega), flat_num]
                  simp [hiv]
                refine wpAnyH_ready (rs := [19]) (by kernel_rfl) (by simp) ?_
                refine AllReadyH.cons rfl (fun K hK => ?_) AllReadyH.nil
                go_simp
                refine hK.out _ _ ⟨j0, j1, v6, j6⟩ (fun hS6 => ?_)
                clear hK K
                refine wpAnyH_done (by kernel_rfl) ?_ _
                go_wp2_with fail
                go_roundw
                case rel =>
                  have hbb : Hid ((!false && decide (nz ≠ z)) = false) := by unfold Hid; simp [HNZ.out]
                  have hO6 : Hid (OwnIm w1.heap.size (w5.setCell ⟨gB, i, none⟩ (.bool false)).drew (x.put i nz (!false && decide (nz ≠ z))) (some ⟨gA, 0, none⟩) c' (some ⟨gB, 0, none⟩) d') := by
                    unfold Hid
                    rw [hbb.out]
                    exact o6
                  have hL6 : Hid ((x.put i nz (!false && decide (nz ≠ z))).v.length = n ∧ (x.put i nz (!false && decide (nz ≠ z))).bad.length = m) := ⟨by rw [HXX.out.1]; exact HLx.out.1, by rw [HXX.out.2]; exact HLx.out.2⟩
                  have hF6 : Hid (Fr (Bk (some ⟨gA, 0, none⟩) (some ⟨gB, 0, none⟩)) wx (w5.setCell ⟨gB, i, none⟩ (.bool false)).drew) := HFr.out.trans hf6
                  have hk1 : k + 1 ≤ len2 := hlt
                  clear hbb
                  first
                    | exact ⟨k + 1, x.put i nz (!false && decide (nz ≠ z)), hk1, by go_num, HF3, hL6, hO6, hF6⟩
                    | exact ⟨k + 1, hk1, by go_num, x.put i nz (!false && decide (nz ≠ z)), HF3, hL6, hO6, hF6⟩
                    | (trace_state; fail)
                case measure => simp [intOf]; omega
              · have dn : (nz != z) = true := by simpa using hnz
                have HNZ := Lib.hid hnz
                clear hnz
                refine region_start (S := fun w' => w'.cell? ⟨p2b, 0, none⟩ = some (.slice (some ⟨gA, 0, none⟩) n c') ∧ w'.cell? ⟨p2b, 1, none⟩ = some (.slice (some ⟨gB, 0, none⟩) m d') ∧ w'.cell? ⟨gA, i, none⟩ = some (.int .i64 nz) ∧ w'.cell? ⟨g, off + k * 2 + 1, none⟩ = some (.int .i64 z)) (n := 20) (lit := #[false, false, false, false, false, false, false, false, false, false, false, false, false, false, false, false, false, false, false, false]) rfl rfl (by kernel_rfl) cd5 fun hS => ?_
                refine tk (i := 0) (v := ?ve0) rfl (by kernel_rfl) (by kernel_rfl) (by kernel_rfl) (fun _ _ _ h => h) (by kernel_rfl) ?he0 hS ?_
                case he0 => intro w hSw; (try dsimp only at hSw); go_simp; try with_reducible rfl
                try simp only [Act.put, List.setIfInBounds_toArray, List.set_cons_zero, List.set_cons_succ]
                refine tk (i := 1) (v := ?ve1) rfl (by kernel_rfl) (by kernel_rfl) (by kernel_rfl) (fun _ _ _ h => h) (by kernel_rfl) ?he1 hS ?_
                case he1 => intro w hSw; (try dsimp only at hSw); go_simp; try with_reducible rfl
                try simp only [Act.put, List.setIfInBounds_toArray, List.set_cons_zero, List.set_cons_succ]
                refine tk (i := 2) (v := ?ve2) rfl (by kernel_rfl) (by kernel_rfl) (by kernel_rfl) (fun _ _ _ h => h) (by kernel_rfl) ?he2 hS ?_
                case he2 => intro w hSw; (try dsimp only at hSw); go_simp; try with_reducible rfl
                try simp only [Act.put, List.setIfInBounds_toArray, List.set_cons_zero, List.set_cons_succ]
                refine tk (i := 3) (v := ?ve3) rfl (by kernel_rfl) (by kernel_rfl) (by kernel_rfl) (fun _ _ _ h => h) (by kernel_rfl) ?he3 hS ?_
                case he3 => intro w hSw; (try dsimp only at hSw); go_simp; try with_reducible rfl
                try simp only [Act.put, List.setIfInBounds_toArray, List.set_cons_zero, List.set_cons_succ]
                refine tk (i := 4) (v := ?ve4) rfl (by kernel_rfl) (by kernel_rfl) (by kernel_rfl) (fun _ _ _ h => h) (by kernel_rfl) ?he4 hS ?_
                case he4 => intro w hSw; (try dsimp only at hSw); go_simp; try with_reducible rfl
                try simp only [Act.put, List.setIfInBounds_toArray, List.set_cons_zero, List.set_cons_succ]
                refine tk (i := 5) (v := ?ve5) rfl (by kernel_rfl) (by kernel_rfl) (by kernel_rfl) (fun _ _ _ h => h) (by kernel_rfl) ?he5 hS ?_
                case he5 => intro w hSw; (try dsimp only at hSw); go_simp; try with_reducible rfl
                try simp only [Act.put, List.setIfInBounds_toArray, List.set_cons_zero, List.set_cons_succ]
                refine tk (i := 6) (v := ?ve6) rfl (by kernel_rfl) (by kernel_rfl) (by kernel_rfl) (fun _ _ _ h => h) (by kernel_rfl) ?he6 hS ?_
                case he6 => intro w hSw; (try dsimp only at hSw); go_simp; try with_reducible rfl
                try simp only [Act.put, List.setIfInBounds_toArray, List.set_cons_zero, List.set_cons_succ]
                refine tk (i := 7) (v := ?ve7) rfl (by kernel_rfl) (by kernel_rfl) (by kernel_rfl) (fun _ _ _ h => h) (by kernel_rfl) ?he7 hS ?_
                case he7 => intro w hSw; (try dsimp only at hSw); go_simp; try with_reducible rfl
                try simp only [Act.put, List.setIfInBounds_toArray, List.set_cons_zero, List.set_cons_succ]
                refine tk (i := 8) (v := ?ve8) rfl (by kernel_rfl) (by kernel_rfl) (by kernel_rfl) (fun _ _ _ h => h) (by kernel_rfl) ?he8 hS ?_
                case he8 => intro w hSw; (try dsimp only at hSw); go_simp; try with_reducible rfl
                try simp only [Act.put, List.setIfInBounds_toArray, List.set_cons_zero, List.set_cons_succ]
                refine tk (i := 9) (v := ?ve9) rfl (by kernel_rfl) (by kernel_rfl) (by kernel_rfl) (fun _ _ _ h => h) (by kernel_rfl) ?he9 hS ?_
                case he9 => intro w hSw; (try dsimp only at hSw); go_simp; try with_reducible rfl
                try simp only [Act.put, List.setIfInBounds_toArray, List.set_cons_zero, List.set_cons_succ]
                refine tk (i := 10) (v := ?ve10) rfl (by kernel_rfl) (by kernel_rfl) (by kernel_rfl) (fun _ _ _ h => h) (by kernel_rfl) ?he10 hS ?_
                case he10 => intro w hSw; (try dsimp only at hSw); go_simp; try with_reducible rfl
                try simp only [Act.put, List.setIfInBounds_toArray, List.set_cons_zero, List.set_cons_succ]
                refine tk (i := 11) (v := ?ve11) rfl (by kernel_rfl) (by kernel_rfl) (by kernel_rfl) (fun _ _ _ h => h) (by kernel_rfl) ?he11 hS ?_
                case he11 => intro w hSw; (try dsimp only at hSw); go_simp; try with_reducible rfl
                try simp only [Act.put, List.setIfInBounds_toArray, List.set_cons_zero, List.set_cons_succ]
                refine tk (i := 12) (v := ?ve12) rfl (by kernel_rfl) (by kernel_rfl) (by kernel_rfl) (fun _ _ _ h => h) (by kernel_rfl) ?he12 hS ?_
                case he12 => intro w hSw; (try dsimp only at hSw); go_simp; try with_reducible rfl
                try simp only [Act.put, List.setIfInBounds_toArray, List.set_cons_zero, List.set_cons_succ]
                refine tk (i := 13) (v := ?ve13) rfl (by kernel_rfl) (by kernel_rfl) (by kernel_rfl) (fun _ _ _ h => h) (by kernel_rfl) ?he13 hS ?_
                case he13 => intro w hSw; (try dsimp only at hSw); go_simp; try with_reducible rfl
                try simp only [Act.put, List.setIfInBounds_toArray, List.set_cons_zero, List.set_cons_succ]
                refine tk (i := 14) (v := ?ve14) rfl (by kernel_rfl) (by kernel_rfl) (by kernel_rfl) (fun _ _ _ h => h) (by kernel_rfl) ?he14 hS ?_
                case he14 => intro w hSw; (try dsimp only at hSw); go_simp; try with_reducible rfl
                try simp only [Act.put, List.setIfInBounds_toArray, List.set_cons_zero, List.set_cons_succ]
                refine tk (i := 15) (v := ?ve15) rfl (by kernel_rfl) (by kernel_rfl) (by kernel_rfl) (fun _ _ _ h => h) (by kernel_rfl) ?he15 hS ?_
                case he15 => intro w hSw; (try dsimp only at hSw); go_simp; try with_reducible rfl
                try simp only [Act.put, List.setIfInBounds_toArray, List.set_cons_zero, List.set_cons_succ]
                refine tk (i := 16) (v := ?ve16) rfl (by kernel_rfl) (by kernel_rfl) (by kernel_rfl) (fun _ _ _ h => h) (by kernel_rfl) ?he16 hS ?_
                case he16 => intro w hSw; (try dsimp only at hSw); go_simp; try with_reducible rfl
                try simp only [Act.put, List.setIfInBounds_toArray, List.set_cons_zero, List.set_cons_succ]
                refine tk (i := 17) (v := ?ve17) rfl (by kernel_rfl) (by kernel_rfl) (by kernel_rfl) (fun _ _ _ h => h) (by kernel_rfl) ?he17 hS ?_
                case he17 => intro w hSw; (try dsimp only at hSw); go_simp; try with_reducible rfl
                try simp only [Act.put, List.setIfInBounds_toArray, List.set_cons_zero, List.set_cons_succ]
                refine tk (i := 18) (v := ?ve18) rfl (by kernel_rfl) (by kernel_rfl) (by kernel_rfl) (fun _ _ _ h => h) (by kernel_rfl) ?he18 hS ?_
                case he18 => intro w hSw; (try dsimp only at hSw); go_simp; try with_reducible rfl
                try simp only [Act.put, List.setIfInBounds_toArray, List.set_cons_zero, List.set_cons_succ]
                obtain ⟨o6, f6⟩ := own_putB (w := w5.drew) (k := i) o5 true
                have hf6 := hf5.drew.trans f6
                have k6 := key _ hf6
                unfold Seven at k6
                obtain ⟨j0, j1, -, -, -, -, j6⟩ := k6
                have v6 : (w5.drew.setCell ⟨gB, i, none⟩ (.bool true)).cell? ⟨gA, i, none⟩ = some (.int .i64 nz) := by
                  rw [o6.1.cellAt i (by show i < (x.v.set i nz).length * 1; rw [List.length_set]; omega), flat_num]
                  simp [hiv]
                refine wpAnyH_ready (rs := [19]) (by kernel_rfl) (by simp) ?_
                refine AllReadyH.cons rfl (fun K hK => ?_) AllReadyH.nil
                go_simp
                refine hK.out _ _ ⟨j0, j1, v6, j6⟩ (fun hS6 => ?_)
                clear hK K
                refine wpAnyH_done (by kernel_rfl) ?_ _
                go_wp2_with fail
                go_roundw
                case rel =>
                  have hbb : Hid ((!false && decide (nz ≠ z)) = true) := by unfold Hid; simpa using HNZ.out
                  have hO6 : Hid (OwnIm w1.heap.size (w5.setCell ⟨gB, i, none⟩ (.bool true)).drew (x.put i nz (!false && decide (nz ≠ z))) (some ⟨gA, 0, none⟩) c' (some ⟨gB, 0, none⟩) d') := by
                    unfold Hid
                    rw [hbb.out]
                    exact o6
                  have hL6 : Hid ((x.put i nz (!false && decide (nz ≠ z))).v.length = n ∧ (x.put i nz (!false && decide (nz ≠ z))).bad.length = m) := ⟨by rw [HXX.out.1]; exact HLx.out.1, by rw [HXX.out.2]; exact HLx.out.2⟩
                  have hF6 : Hid (Fr (Bk (some ⟨gA, 0, none⟩) (some ⟨gB, 0, none⟩)) wx (w5.setCell ⟨gB, i, none⟩ (.bool true)).drew) := HFr.out.trans hf6
                  have hk1 : k + 1 ≤ len2 := hlt
                  clear hbb
                  first
                    | exact ⟨k + 1, x.put i nz (!false && decide (nz ≠ z)), hk1, by go_num, HF3, hL6, hO6, hF6⟩
                    | exact ⟨k + 1, hk1, by go_num, x.put i nz (!false && decide (nz ≠ z)), HF3, hL6, hO6, hF6⟩
                    | (trace_state; fail)
                case measure => simp [intOf]; omega
          · have HXn : Hid (X = (none, 21)) := by
              refine HX1'.out ?_
              rw [← HS.out, HF2.out, if_neg ho]
            clear hy3 hyr hyx
            generalize l[i] = t at *
            have dq : (t.out == out) = false := by revert ho; cases t.out <;> cases out <;> simp
            clear ho
            go_wp2_with fail
            rw [HXn.out]
            exact bodyPost_ret (v := .tuple #[.agg #[.slice none 0 0, .slice none 0 0], .int .i64 21]) (by simp [results, Try.results37, go_sem, r0, r1]) rfl (impost_none ((hBr.setCell (p := ⟨w.heap.size + 1, 0, none⟩) hpw _).setCell (p := ⟨w.heap.size + 1, 1, none⟩) hpw _))
      · have HXs : Hid (X = (some x, 0)) := by
          refine HX2'.out x ?_
          rw [← HS.out, List.drop_eq_nil_of_le (by rw [HLc.out]; omega)]; rfl
        have hy3 := two_set hyr (.slice A' n c') (.slice B' m d')
        have r0 := hy3.cell 0
        have r1 := hy3.cell 1
        simp at r0 r1
        have HFin := Lib.hid ((hBr.setCell (p := ⟨w.heap.size + 1, 0, none⟩) hpw (.slice A' n c')).setCell (p := ⟨w.heap.size + 1, 1, none⟩) hpw (.slice B' m d'))
        have HO2 : Hid (OwnIm w1.heap.size ((wr.setCell ⟨w.heap.size + 1, 0, none⟩ (.slice A' n c')).setCell ⟨w.heap.size + 1, 1, none⟩ (.slice B' m d')) x A' c' B' d') := own_im2 hyr (by decide) (by decide) HO.out _ _
        clear hy3 hyr hyx hbr hBr
        go_wp2_with fail
        rw [HXs.out]
        exact bodyPost_ret (v := .tuple #[.agg #[.slice A' n c', .slice B' m d'], .int .i64 0]) (by simp [results, Try.results37, go_sem, r0, r1]) rfl (impost_some HLx.out.1 HLx.out.2 HO2.out hww HFin.out)
end Go.Proofs.Ytppffmmngomijaa.Tg
