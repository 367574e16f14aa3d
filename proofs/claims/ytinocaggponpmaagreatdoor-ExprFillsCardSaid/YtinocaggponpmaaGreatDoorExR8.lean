/-
  The contract of the reader's unary, and of expr.Take.
-/
import Derived.Test.YtinocaggponpmaaGreatDoorExR7
namespace Go.Proofs.YtinocaggponpmaaGreatDoor.Ep
open Go.RowKit Lx

theorem unaryT_op (d b : Nat) (ts : List Tok) (h : 0 ≤ operT ts 5 1) : unaryT (d + 1) b ts = if b = 0 then .er 2 0 else match unaryT d (b - 1) ts.tail with
    | .er f b' => .er f b'
    | .ok e b' ts' => .ok (.mk (operT ts 5 1) 0 [] [e]) b' ts' := by
  rw [unaryT, if_pos h]
  split
  · rfl
  · cases unaryT d (b - 1) ts.tail <;> rfl
theorem unaryT_paren (d b : Nat) (ts : List Tok) (h : ¬ 0 ≤ operT ts 5 1) (hs : sgnT ts [40] = true) : unaryT (d + 1) b ts = parenR (orOf (unaryT d)) b ts := by
  rw [unaryT, if_neg h, if_pos hs]; rfl
theorem unaryT_leaf (d b : Nat) (ts : List Tok) (h : ¬ 0 ≤ operT ts 5 1) (hs : ¬ sgnT ts [40] = true) : unaryT (d + 1) b ts = leafT b ts := by
  rw [unaryT, if_neg h, if_neg hs]

set_option maxHeartbeats 4000000 in
theorem unary_reads (p g c : Nat) (L : List Tok) (d : Nat) : Reads p g c L 136 (unaryT d) d := by
  induction d with
  | zero => intro i b w hD; omega
  | succ d ih =>
    intro i b w hD hb hib h
    have IH := Lib.hid ih
    clear ih
    have hp := h.lt
    have hbw : Below w.heap.size w (w.alloc (.cells #[.int .i64 0, .int .i64 0, .string ⟨#[]⟩, .slice none 0 0] 25)) := (Below.refl _ _).alloc (Nat.le_refl _) _
    have hx0 := Box.new w 25 #[.int .i64 0, .int .i64 0, .string ⟨#[]⟩, .slice none 0 0]
    have HB := Lib.hid hbw
    clear hbw
    go_enter Tryz.func136, Tryz.ntmps136
    go_wp2_with fail
    refine (oper_any p g c L i (64 - b) 5 1 _ (h.alloc _)).mono ?_
    rintro e w1 ⟨rfl, hb1⟩
    have hr1 := (h.alloc _).below hb1 (Nat.le_refl _)
    have hx1 := hx0.below hb1 hx0.lt
    have hk1 := (Keeps.of (p := p) HB.out (Nat.le_refl _)).below hb1 (by simp)
    clear hb1 hx0 HB
    have hl1 := hx1.lt
    obtain ⟨r0, r1, r2, r3, s0, s1, s2, s3⟩ := hx1.four
    by_cases ho : 0 ≤ operT (L.drop i) 5 1
    · have hd : decide (0 ≤ operT (L.drop i) 5 1) = true := by simpa using ho
      have HU := Lib.hid (unaryT_op d b (L.drop i) ho)
      generalize operT (L.drop i) 5 1 = o at *
      clear ho
      rcases Nat.eq_zero_or_pos b with h0 | h0
      · have HE : Hid (unaryT (d + 1) b (L.drop i) = .er 2 0) := by unfold Hid; rw [HU.out, if_pos h0]
        subst h0
        clear HU
        go_wp2_with fail
        refine (take_no p g c L i _ hr1).mono ?_
        rintro e w2 ⟨rfl, rfl⟩
        go_wp2
        rw [HE.out]
        exact bodyPost_ret (v := .tuple #[exV 0 0 [] none 0 0, .int .i64 2]) (by simp [results, Tryz.results136, go_sem, exV, r0, r1, r2, r3]) rfl (rpost_of (jpost_er (by decide) (Nat.le_refl _) (hr1.set4 hp _ _ _ _) (hk1.set4 (Nat.le_refl _) _ _ _ _)))
      · have HE : Hid (unaryT (d + 1) b (L.drop i) = match unaryT d (b - 1) (L.drop (i + 1)) with
            | .er f b' => .er f b'
            | .ok e b' ts' => .ok (.mk o 0 [] [e]) b' ts') := by unfold Hid; rw [HU.out, if_neg (by omega), List.tail_drop]
        clear HU
        go_wp2_with fail
        refine (take_yes p g c L i (64 - b) _ hr1 (by omega) (by omega)).mono ?_
        rintro e w2 ⟨rfl, hr2, hk2⟩
        have hx2 := hx1.keeps hk2 (by omega)
        have hk12 := hk1.trans hk2
        have e2 : 64 - b + 1 = 64 - (b - 1) := by omega
        rw [e2] at hr2
        clear e2 hk1 hk2 hx1 hr1 hl1 r0 r1 r2 r3 s0 s1 s2 s3
        go_wp2_with fail
        refine (IH.out (i + 1) (b - 1) _ (by omega) (by omega) (by omega) hr2).mono ?_
        intro e w3 hpost
        obtain ⟨z0, z1, s, a, n, cp, f, rfl, hgot⟩ := rpost_got hpost
        clear hpost
        have hx3 := hx2.keeps hgot.keeps (by omega)
        have hk3 := hk12.trans hgot.keeps
        have hl3 := hx3.lt
        have hs2 := hx2.lt
        obtain ⟨r0, r1, r2, r3, s0, s1, s2, s3⟩ := hx3.four
        have HG := Lib.hid hgot
        clear hgot
        go_wp2_with fail
        refine (node_any _ _ _ _ _).mono ?_
        rintro e w4 ⟨rfl, hb4⟩
        have hx4 := ((hx3.alloc _).alloc _).below hb4 (by simp; omega)
        have hk4 := ((hk3.alloc _).alloc _).below hb4 (by have := hk3.size; simp; omega)
        have hrow := (Box.new (w3.alloc _) 25 _).below hb4 (by simp)
        have e4 : (w3.alloc (Obj.cells #[Value.int IntKind.i64 z0, Value.int IntKind.i64 z1, Value.string s, Value.slice a n cp] 25)).heap.size = w3.heap.size + 1 := by simp
        rw [e4] at hrow
        have hbk : ∀ k, k < w3.heap.size → w4.heap[k]? = w3.heap[k]? := fun k hk => by
          rw [hb4.block k (by simp; omega), Below.heap_alloc _ _ _ (by simp; omega), Below.heap_alloc _ _ _ hk]
        have hRd4 : ∀ j tk, Rd p g c L j tk w3 → Rd p g c L j tk w4 := fun j tk hj => ((hj.alloc _).alloc _).below hb4 (Nat.le_refl _)
        have HBK := Lib.hid hbk
        have HRD := Lib.hid hRd4
        clear hb4 r0 r1 r2 r3 s0 s1 s2 s3 e4 hbk hRd4
        obtain ⟨r0, r1, r2, r3, s0, s1, s2, s3⟩ := hx4.four
        have hl4 := hx4.lt
        unfold exV
        go_wp2
        refine bodyPost_ret (v := .tuple #[exV o 0 [] (some ⟨w3.heap.size + 1, 0, none⟩) 1 1, .int .i64 f]) (by simp [results, Tryz.results136, go_sem, exV, r0, r1, r2, r3]) rfl (rpost_of ?_)
        rw [HE.out]
        have hkf := hk4.set4 (q := w.heap.size) (Nat.le_refl _) (.int .i64 o) (.int .i64 0) (.string ⟨#[]⟩) (.slice (some ⟨w3.heap.size + 1, 0, none⟩) 1 1)
        rcases HG.out.what with ⟨rfl, t, b', ts, hr, hb', hts, hRd, rfl, rfl, rfl, rfl, hT⟩ | ⟨hf, b', hr, hb', hRd⟩
        · rw [hr]
          have hrowf := hrow.off4 (q := w.heap.size) (by omega) (.int .i64 o) (.int .i64 0) (.string ⟨#[]⟩) (.slice (some ⟨w3.heap.size + 1, 0, none⟩) 1 1)
          have hsz := size4 w4 w.heap.size (.int .i64 o) (.int .i64 0) (.string ⟨#[]⟩) (.slice (some ⟨w3.heap.size + 1, 0, none⟩) 1 1)
          have htr := TreeV.low (lo' := fun k => w.heap.size ≤ k) (fun k hk => by omega) _ _ (TreeV.keep (w' := _) (by rw [hsz]; have := hrow.lt; omega) (fun k hk hlt => (block4 w4 w.heap.size (.int .i64 o) (.int .i64 0) (.string ⟨#[]⟩) (.slice (some ⟨w3.heap.size + 1, 0, none⟩) 1 1) k (by omega)).trans (HBK.out k hlt)) _ _ hT)
          have hrf := (HRD.out _ _ hRd).set4 (q := w.heap.size) hp (.int .i64 o) (.int .i64 0) (.string ⟨#[]⟩) (.slice (some ⟨w3.heap.size + 1, 0, none⟩) 1 1)
          rw [show i + 1 + (b - 1 - b') = i + (b - b') by omega] at hrf
          exact jpost_ok (by omega) (by rw [hts]; congr 1; omega) (tree_one hrowf htr (by omega) o) hrf hkf
        · rw [hr]
          have hrf := (HRD.out _ _ hRd).set4 (q := w.heap.size) hp (.int .i64 o) (.int .i64 0) (.string ⟨#[]⟩) (.slice (some ⟨w3.heap.size + 1, 0, none⟩) 1 1)
          rw [show i + 1 + (b - 1 - b') = i + (b - b') by omega] at hrf
          exact jpost_er hf (by omega) hrf hkf
    · have hd : decide (0 ≤ operT (L.drop i) 5 1) = false := by simpa using ho
      have HO := Lib.hid ho
      clear ho
      go_wp2_with fail
      refine (sgn_any p g c L i (64 - b) [40] _ hr1).mono ?_
      rintro e w2 ⟨rfl, hb2⟩
      have hr2 := hr1.below hb2 (Nat.le_refl _)
      have hx2 := hx1.below hb2 hx1.lt
      have hk2 := hk1.below hb2 hk1.size
      clear hb2 hr1 hx1 hk1 hl1 r0 r1 r2 r3 s0 s1 s2 s3
      by_cases hsg : sgnT (L.drop i) [40] = true
      · have HE : Hid (unaryT (d + 1) b (L.drop i) = parenR (orOf (unaryT d)) b (L.drop i)) := unaryT_paren d b (L.drop i) (by have := HO.out; omega) hsg
        rw [hsg]
        clear hsg
        go_wp2_with fail
        refine (paren_any p g c L _ d (or_all p g c L _ d IH.out) i b _ hb (by omega) hib hr2).mono ?_
        intro e w3 hpost
        obtain ⟨z0, z1, s, a, n, cp, f, rfl, hgot⟩ := rpost_got hpost
        have hx3 := hx2.keeps hgot.keeps (by omega)
        have hk3 := hk2.trans hgot.keeps
        have hl3 := hx3.lt
        have hl2 := hx2.lt
        obtain ⟨r0, r1, r2, r3, s0, s1, s2, s3⟩ := hx3.four
        have HG := Lib.hid hgot
        clear hgot hpost
        go_wp2
        rw [HE.out]
        refine bodyPost_ret (v := .tuple #[.agg #[.int .i64 z0, .int .i64 z1, .string s, .slice a n cp], .int .i64 f]) (by simp [results, Tryz.results136, go_sem, r0, r1, r2, r3]) rfl (rpost_of ?_)
        refine got_jpost0 HG.out (hk3.set4 (Nat.le_refl _) _ _ _ _) (fun j tk hj => hj.set4 hp _ _ _ _) (fun t v ht => ?_)
        exact TreeV.low (fun k hk => by omega) _ _ (TreeV.keep (by rw [size4]; exact Nat.le_refl _) (fun q hq _ => block4 _ _ _ _ _ _ _ (by omega)) _ _ ht)
      · have HE : Hid (unaryT (d + 1) b (L.drop i) = leafT b (L.drop i)) := unaryT_leaf d b (L.drop i) (by have := HO.out; omega) hsg
        have hsg' : sgnT (L.drop i) [40] = false := by simpa using hsg
        rw [hsg']
        clear hsg hsg'
        go_wp2_with fail
        refine (leaf_any p g c L i b _ hb hib hr2).mono ?_
        intro e w3 hpost
        obtain ⟨z0, z1, s, a, n, cp, f, rfl, hgot⟩ := rpost_got hpost
        have hx3 := hx2.keeps hgot.keeps (by omega)
        have hk3 := hk2.trans hgot.keeps
        have hl3 := hx3.lt
        have hl2 := hx2.lt
        obtain ⟨r0, r1, r2, r3, s0, s1, s2, s3⟩ := hx3.four
        have HG := Lib.hid hgot
        clear hgot hpost
        go_wp2
        rw [HE.out]
        refine bodyPost_ret (v := .tuple #[.agg #[.int .i64 z0, .int .i64 z1, .string s, .slice a n cp], .int .i64 f]) (by simp [results, Tryz.results136, go_sem, r0, r1, r2, r3]) rfl (rpost_of ?_)
        refine got_jpost0 HG.out (hk3.set4 (Nat.le_refl _) _ _ _ _) (fun j tk hj => hj.set4 hp _ _ _ _) (fun t v ht => ?_)
        exact TreeV.low (fun k hk => by omega) _ _ (TreeV.keep (by rw [size4]; exact Nat.le_refl _) (fun q hq _ => block4 _ _ _ _ _ _ _ (by omega)) _ _ ht)
end Go.Proofs.YtinocaggponpmaaGreatDoor.Ep
