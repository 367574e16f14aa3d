/-
  The contract of the reader's pair, and of the levels.
-/
import Derived.Test.YtinocaggponpmaaGreatDoorExR5
namespace Go.Proofs.YtinocaggponpmaaGreatDoor.Ep
open Go.RowKit Lx

theorem pairT_er (F : Nat → List Tok → Res) (lv : Int) (b : Nat) (ts : List Tok) (f : Int) (b' : Nat) (h : F b ts = .er f b') : pairT F lv b ts = .er f b' := by
  unfold pairT; rw [h]
theorem pairT_ok (F : Nat → List Tok → Res) (lv : Int) (b : Nat) (ts : List Tok) (t : Ex) (b' : Nat) (ts' : List Tok) (h : F b ts = .ok t b' ts') :
    pairT F lv b ts = if operT ts' lv 2 < 0 then .ok t b' ts' else joinR F lv t b' ts' := by
  unfold pairT joinR; rw [h]
  simp only
  split
  · rfl
  · split
    · rfl
    · cases F (b' - 1) ts'.tail <;> rfl

theorem got_jpost {S S' : Nat → Prop} {p g c : Nat} {L : List Tok} {i b b' : Nat} {w wr w3 wf : World} {r : Res} {z0 z1 : Int} {s : ByteArray} {a : Option Addr} {n cp : Nat} {f : Int}
    (h : Got S p g c L (i + (b - b')) b' wr r z0 z1 s a n cp f w3) (hb : b' ≤ b) (hK : Keeps p w wf) (hRd : ∀ j tk, Rd p g c L j tk w3 → Rd p g c L j tk wf) (hT : ∀ t v, TreeV S w3 t v → TreeV S' wf t v) :
    JPost S' p g c L i b w r (.returned (.tuple #[.agg #[.int .i64 z0, .int .i64 z1, .string s, .slice a n cp], .int .i64 f])) wf := by
  rcases h.what with ⟨rfl, t', b'', ts, rfl, hb2, hts, hR, rfl, rfl, rfl, rfl, hTr⟩ | ⟨hf, b'', rfl, hb2, hR⟩
  · have e : i + (b - b') + (b' - b'') = i + (b - b'') := by omega
    rw [e] at hts hR
    exact jpost_ok (v := exV t'.op t'.n t'.name a t'.kids.length cp) (by omega) hts (hT _ _ hTr) (hRd _ _ hR) hK
  · have e : i + (b - b') + (b' - b'') = i + (b - b'') := by omega
    rw [e] at hR
    exact jpost_er hf (by omega) (hRd _ _ hR) hK

theorem got_jpost0 {S S' : Nat → Prop} {p g c : Nat} {L : List Tok} {i b : Nat} {w wr w3 wf : World} {r : Res} {z0 z1 : Int} {s : ByteArray} {a : Option Addr} {n cp : Nat} {f : Int}
    (h : Got S p g c L i b wr r z0 z1 s a n cp f w3) (hK : Keeps p w wf) (hRd : ∀ j tk, Rd p g c L j tk w3 → Rd p g c L j tk wf) (hT : ∀ t v, TreeV S w3 t v → TreeV S' wf t v) :
    JPost S' p g c L i b w r (.returned (.tuple #[.agg #[.int .i64 z0, .int .i64 z1, .string s, .slice a n cp], .int .i64 f])) wf := by
  have e : i + (b - b) = i := by omega
  exact got_jpost (b' := b) (by rw [e]; exact h) (Nat.le_refl _) hK hRd hT

set_option maxHeartbeats 4000000 in
theorem pair_any (p g c : Nat) (L : List Tok) (fn : Nat) (hen : ∀ args w, (callFunc fn args).run Tryz.prog w = .ok (.enter fn args) w) (F : Nat → List Tok → Res) (D : Nat) (hF : Reads p g c L fn F D) (lv : Int) (i b : Nat) (w : World)
    (hb : b ≤ 64) (hD : b < D) (hib : i + b ≤ 100000) (h : Rd p g c L i (64 - b) w) :
    Calls Tryz.prog 129 #[.pointer (some ⟨p, 0, none⟩), .int .i64 lv, .func (.func fn) #[.pointer (some ⟨p, 0, none⟩)] #[]] w (RPost p g c L i b w (pairT F lv b (L.drop i))) := by
  have hp := h.lt
  go_enter Tryz.func129, Tryz.ntmps129
  go_wp2_with fail
  refine (hF i b _ hD hb hib (h.alloc _)).mono ?_
  intro e w1 hpost
  obtain ⟨z0, z1, s, a, n, cp, f, rfl, hgot⟩ := rpost_got hpost
  clear hpost
  have hxn := (Box.new w 25 _).keeps hgot.keeps (by omega)
  have hk1 := ((Keeps.refl p w).alloc _).trans hgot.keeps
  have hw1 : w.heap.size < w1.heap.size := hxn.lt
  rcases hgot.what with ⟨rfl, t, b', ts, hr, hb', hts, hRd, rfl, rfl, rfl, rfl, hT⟩ | ⟨hf, b', hr, hb', hRd⟩
  · have HP := Lib.hid (pairT_ok F lv b (L.drop i) t b' ts hr)
    subst hts
    have hT1 : TreeV (fun k => w.heap.size + 1 ≤ k ∧ k ≠ w1.heap.size) w1 t (exV t.op t.n t.name a t.kids.length cp) := TreeV.low (fun k hk => by obtain ⟨h1, h2⟩ := hk; simp at h1; omega) _ _ (TreeV.within hT)
    clear hr hgot hT
    obtain ⟨r0, r1, r2, r3, s0, s1, s2, s3⟩ := hxn.four
    go_wp2_with fail
    refine (oper_any p g c L _ _ lv 2 _ (hRd.alloc _)).mono ?_
    rintro e w2 ⟨rfl, hb2⟩
    have hRd2 := (hRd.alloc _).below hb2 (Nat.le_refl _)
    have hxn2 := (hxn.alloc _).below hb2 (by simp; omega)
    have hxm2 := (Box.new w1 25 _).below hb2 (by simp)
    have hk2 := (hk1.alloc _).below hb2 (by have := hk1.size; simp; omega)
    have hT2 := TreeV.below (hT1.alloc _) hb2 (Nat.le_refl _)
    clear hb2 hRd hxn hk1 hT1 r0 r1 r2 r3 s0 s1 s2 s3
    obtain ⟨r0, r1, r2, r3, s0, s1, s2, s3⟩ := hxn2.four
    obtain ⟨c0, c1, c2, c3, f0, f1, f2, f3⟩ := hxm2.four
    have hnl := hxn2.lt
    have hml := hxm2.lt
    by_cases ho : operT (L.drop (i + (b - b'))) lv 2 < 0
    · have hd : decide (0 ≤ operT (L.drop (i + (b - b'))) lv 2) = false := by simpa using ho
      have HE : Hid (pairT F lv b (L.drop i) = .ok t b' (L.drop (i + (b - b')))) := by unfold Hid; rw [HP.out, if_pos ho]
      clear ho HP
      generalize operT (L.drop (i + (b - b'))) lv 2 = o at *
      go_wp2
      rw [HE.out]
      exact bodyPost_ret (v := .tuple #[exV t.op t.n t.name a t.kids.length cp, .int .i64 0]) (by simp [results, Tryz.results129, go_sem, exV, r0, r1, r2, r3]) rfl
        (rpost_of (jpost_ok hb' rfl (TreeV.low (fun k hk => by omega) _ _ (TreeV.keep (by rw [size4]; exact Nat.le_refl _) (fun q hq _ => block4 _ _ _ _ _ _ _ (by omega)) _ _ hT2)) (hRd2.set4 hp _ _ _ _) (hk2.set4 (Nat.le_refl _) _ _ _ _)))
    · have hd : decide (0 ≤ operT (L.drop (i + (b - b'))) lv 2) = true := by simpa using ho
      have HE : Hid (pairT F lv b (L.drop i) = joinR F lv t b' (L.drop (i + (b - b')))) := by unfold Hid; rw [HP.out, if_neg ho]
      clear ho HP
      go_wp2_with fail
      refine (join_any p g c L fn hen F D hF lv t _ (i + (b - b')) b' _ (by omega) (by omega) (by omega) hRd2 _ (fun k => w.heap.size + 1 ≤ k ∧ k ≠ w1.heap.size) hT2 (by omega) (fun k hk => by omega)).mono ?_
      intro e w3 hpost
      obtain ⟨z0', z1', s', a', n', cp', f', rfl, hgot⟩ := jpost_got hpost
      clear hpost r0 r1 r2 r3 s0 s1 s2 s3 c0 c1 c2 c3 f0 f1 f2 f3
      have hxn3 := hxn2.keeps hgot.keeps (by omega)
      have hxm3 := hxm2.keeps hgot.keeps (by omega)
      have hk3 := hk2.trans hgot.keeps
      obtain ⟨r0, r1, r2, r3, s0, s1, s2, s3⟩ := hxn3.four
      obtain ⟨c0, c1, c2, c3, f0, f1, f2, f3⟩ := hxm3.four
      have hnl3 := hxn3.lt
      have hml3 := hxm3.lt
      have HG := Lib.hid hgot
      clear hgot
      go_wp2
      rw [HE.out]
      refine bodyPost_ret (v := .tuple #[.agg #[.int .i64 z0', .int .i64 z1', .string s', .slice a' n' cp'], .int .i64 f']) (by simp [results, Tryz.results129, go_sem, r0, r1, r2, r3]) rfl (rpost_of ?_)
      refine got_jpost HG.out (by omega) ((hk3.set4 (by omega) _ _ _ _).set4 (Nat.le_refl _) _ _ _ _) (fun j tk hj => (hj.set4 (by omega) _ _ _ _).set4 hp _ _ _ _) (fun t v ht => ?_)
      exact TreeV.low (fun k hk => by omega) _ _ (TreeV.keep (by rw [size4, size4]; exact Nat.le_refl _) (fun q hq _ => by rw [block4 _ _ _ _ _ _ _ (by omega), block4 _ _ _ _ _ _ _ hq.2]) _ _ ht)
  · have HE : Hid (pairT F lv b (L.drop i) = .er f b') := pairT_er F lv b (L.drop i) f b' hr
    have hd : (f == 0) = false := by simpa using hf
    clear hr hgot
    obtain ⟨r0, r1, r2, r3, s0, s1, s2, s3⟩ := hxn.four
    go_wp2
    rw [HE.out]
    refine bodyPost_ret (v := .tuple #[.agg #[.int .i64 z0, .int .i64 z1, .string s, .slice a n cp], .int .i64 f]) (by simp [results, Tryz.results129, go_sem, r0, r1, r2, r3, hw1]) rfl
      (rpost_of (jpost_er hf hb' ((hRd.set4 hp _ _ _ _).alloc _) ((hk1.set4 (Nat.le_refl _) _ _ _ _).alloc _)))

set_option maxHeartbeats 1000000 in
theorem or_reads (p g c : Nat) (L : List Tok) (F : Nat → List Tok → Res) (D : Nat) (hF : Reads p g c L 68 F D) : Reads p g c L 41 (chainT F 0) D := by
  intro i b w hD hb hib h
  have hp := h.lt
  go_enter Tryz.func41, Tryz.ntmps41
  go_wp2_with fail
  refine (chain_any p g c L _ (enters_of Tryz.func68 (by kernel_rfl) rfl) F D hF 0 i b _ hb hD hib (h.alloc _)).mono ?_
  intro e w1 hpost
  obtain ⟨z0, z1, s, a, n, cp, f, rfl, hgot⟩ := rpost_got hpost
  clear hpost
  have hxn := (Box.new w 25 _).keeps hgot.keeps (by omega)
  have hk1 := ((Keeps.refl p w).alloc _).trans hgot.keeps
  obtain ⟨r0, r1, r2, r3, s0, s1, s2, s3⟩ := hxn.four
  have hw1 := hxn.lt
  have HG := Lib.hid hgot
  clear hgot
  go_wp2
  refine bodyPost_ret (v := .tuple #[.agg #[.int .i64 z0, .int .i64 z1, .string s, .slice a n cp], .int .i64 f]) (by simp [results, Tryz.results41, go_sem, r0, r1, r2, r3]) rfl (rpost_of ?_)
  refine got_jpost0 HG.out (hk1.set4 (Nat.le_refl _) _ _ _ _) (fun j tk hj => hj.set4 hp _ _ _ _) (fun t v ht => ?_)
  exact TreeV.low (fun k hk => by simp at hk; omega) _ _ (TreeV.keep (by rw [size4]; exact Nat.le_refl _) (fun q hq _ => block4 _ _ _ _ _ _ _ (by simp at hq; omega)) _ _ ht)

set_option maxHeartbeats 1000000 in
theorem and_reads (p g c : Nat) (L : List Tok) (F : Nat → List Tok → Res) (D : Nat) (hF : Reads p g c L 115 F D) : Reads p g c L 68 (chainT F 1) D := by
  intro i b w hD hb hib h
  have hp := h.lt
  go_enter Tryz.func68, Tryz.ntmps68
  go_wp2_with fail
  refine (chain_any p g c L _ (enters_of Tryz.func115 (by kernel_rfl) rfl) F D hF 1 i b _ hb hD hib (h.alloc _)).mono ?_
  intro e w1 hpost
  obtain ⟨z0, z1, s, a, n, cp, f, rfl, hgot⟩ := rpost_got hpost
  clear hpost
  have hxn := (Box.new w 25 _).keeps hgot.keeps (by omega)
  have hk1 := ((Keeps.refl p w).alloc _).trans hgot.keeps
  obtain ⟨r0, r1, r2, r3, s0, s1, s2, s3⟩ := hxn.four
  have hw1 := hxn.lt
  have HG := Lib.hid hgot
  clear hgot
  go_wp2
  refine bodyPost_ret (v := .tuple #[.agg #[.int .i64 z0, .int .i64 z1, .string s, .slice a n cp], .int .i64 f]) (by simp [results, Tryz.results68, go_sem, r0, r1, r2, r3]) rfl (rpost_of ?_)
  refine got_jpost0 HG.out (hk1.set4 (Nat.le_refl _) _ _ _ _) (fun j tk hj => hj.set4 hp _ _ _ _) (fun t v ht => ?_)
  exact TreeV.low (fun k hk => by simp at hk; omega) _ _ (TreeV.keep (by rw [size4]; exact Nat.le_refl _) (fun q hq _ => block4 _ _ _ _ _ _ _ (by simp at hq; omega)) _ _ ht)

set_option maxHeartbeats 1000000 in
theorem cmp_reads (p g c : Nat) (L : List Tok) (F : Nat → List Tok → Res) (D : Nat) (hF : Reads p g c L 130 F D) : Reads p g c L 115 (pairT F 2) D := by
  intro i b w hD hb hib h
  have hp := h.lt
  go_enter Tryz.func115, Tryz.ntmps115
  go_wp2_with fail
  refine (pair_any p g c L _ (enters_of Tryz.func130 (by kernel_rfl) rfl) F D hF 2 i b _ hb hD hib (h.alloc _)).mono ?_
  intro e w1 hpost
  obtain ⟨z0, z1, s, a, n, cp, f, rfl, hgot⟩ := rpost_got hpost
  clear hpost
  have hxn := (Box.new w 25 _).keeps hgot.keeps (by omega)
  have hk1 := ((Keeps.refl p w).alloc _).trans hgot.keeps
  obtain ⟨r0, r1, r2, r3, s0, s1, s2, s3⟩ := hxn.four
  have hw1 := hxn.lt
  have HG := Lib.hid hgot
  clear hgot
  go_wp2
  refine bodyPost_ret (v := .tuple #[.agg #[.int .i64 z0, .int .i64 z1, .string s, .slice a n cp], .int .i64 f]) (by simp [results, Tryz.results115, go_sem, r0, r1, r2, r3]) rfl (rpost_of ?_)
  refine got_jpost0 HG.out (hk1.set4 (Nat.le_refl _) _ _ _ _) (fun j tk hj => hj.set4 hp _ _ _ _) (fun t v ht => ?_)
  exact TreeV.low (fun k hk => by simp at hk; omega) _ _ (TreeV.keep (by rw [size4]; exact Nat.le_refl _) (fun q hq _ => block4 _ _ _ _ _ _ _ (by simp at hq; omega)) _ _ ht)

set_option maxHeartbeats 1000000 in
theorem sum_reads (p g c : Nat) (L : List Tok) (F : Nat → List Tok → Res) (D : Nat) (hF : Reads p g c L 134 F D) : Reads p g c L 130 (chainT F 3) D := by
  intro i b w hD hb hib h
  have hp := h.lt
  go_enter Tryz.func130, Tryz.ntmps130
  go_wp2_with fail
  refine (chain_any p g c L _ (enters_of Tryz.func134 (by kernel_rfl) rfl) F D hF 3 i b _ hb hD hib (h.alloc _)).mono ?_
  intro e w1 hpost
  obtain ⟨z0, z1, s, a, n, cp, f, rfl, hgot⟩ := rpost_got hpost
  clear hpost
  have hxn := (Box.new w 25 _).keeps hgot.keeps (by omega)
  have hk1 := ((Keeps.refl p w).alloc _).trans hgot.keeps
  obtain ⟨r0, r1, r2, r3, s0, s1, s2, s3⟩ := hxn.four
  have hw1 := hxn.lt
  have HG := Lib.hid hgot
  clear hgot
  go_wp2
  refine bodyPost_ret (v := .tuple #[.agg #[.int .i64 z0, .int .i64 z1, .string s, .slice a n cp], .int .i64 f]) (by simp [results, Tryz.results130, go_sem, r0, r1, r2, r3]) rfl (rpost_of ?_)
  refine got_jpost0 HG.out (hk1.set4 (Nat.le_refl _) _ _ _ _) (fun j tk hj => hj.set4 hp _ _ _ _) (fun t v ht => ?_)
  exact TreeV.low (fun k hk => by simp at hk; omega) _ _ (TreeV.keep (by rw [size4]; exact Nat.le_refl _) (fun q hq _ => block4 _ _ _ _ _ _ _ (by simp at hq; omega)) _ _ ht)

set_option maxHeartbeats 1000000 in
theorem term_reads (p g c : Nat) (L : List Tok) (F : Nat → List Tok → Res) (D : Nat) (hF : Reads p g c L 136 F D) : Reads p g c L 134 (chainT F 4) D := by
  intro i b w hD hb hib h
  have hp := h.lt
  go_enter Tryz.func134, Tryz.ntmps134
  go_wp2_with fail
  refine (chain_any p g c L _ (enters_of Tryz.func136 (by kernel_rfl) rfl) F D hF 4 i b _ hb hD hib (h.alloc _)).mono ?_
  intro e w1 hpost
  obtain ⟨z0, z1, s, a, n, cp, f, rfl, hgot⟩ := rpost_got hpost
  clear hpost
  have hxn := (Box.new w 25 _).keeps hgot.keeps (by omega)
  have hk1 := ((Keeps.refl p w).alloc _).trans hgot.keeps
  obtain ⟨r0, r1, r2, r3, s0, s1, s2, s3⟩ := hxn.four
  have hw1 := hxn.lt
  have HG := Lib.hid hgot
  clear hgot
  go_wp2
  refine bodyPost_ret (v := .tuple #[.agg #[.int .i64 z0, .int .i64 z1, .string s, .slice a n cp], .int .i64 f]) (by simp [results, Tryz.results134, go_sem, r0, r1, r2, r3]) rfl (rpost_of ?_)
  refine got_jpost0 HG.out (hk1.set4 (Nat.le_refl _) _ _ _ _) (fun j tk hj => hj.set4 hp _ _ _ _) (fun t v ht => ?_)
  exact TreeV.low (fun k hk => by simp at hk; omega) _ _ (TreeV.keep (by rw [size4]; exact Nat.le_refl _) (fun q hq _ => block4 _ _ _ _ _ _ _ (by simp at hq; omega)) _ _ ht)

theorem or_all (p g c : Nat) (L : List Tok) (U : Nat → List Tok → Res) (D : Nat) (hU : Reads p g c L 136 U D) : Reads p g c L 41 (orOf U) D :=
  or_reads p g c L _ D (and_reads p g c L _ D (cmp_reads p g c L _ D (sum_reads p g c L _ D (term_reads p g c L U D hU))))
end Go.Proofs.YtinocaggponpmaaGreatDoor.Ep
