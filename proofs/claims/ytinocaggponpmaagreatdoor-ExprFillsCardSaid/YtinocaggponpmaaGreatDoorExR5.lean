/-
  The contract of the reader's chain.
-/
import Derived.Test.YtinocaggponpmaaGreatDoorExR4
namespace Go.Proofs.YtinocaggponpmaaGreatDoor.Ep
open Go.RowKit Lx

mutual
/-- A tree's blocks are there. -/
theorem TreeV.within {lo : Nat → Prop} {w : World} : ∀ {t : Ex} {v : Value}, TreeV lo w t v → TreeV (fun k => lo k ∧ k < w.heap.size) w t v
  | .mk op n nm ks, v => by
    unfold TreeV
    rintro ⟨a, cap, e, hc, hk⟩
    refine ⟨a, cap, e, hc, fun hne => ?_⟩
    obtain ⟨g, off, ha, h1, h2, h3⟩ := hk hne
    exact ⟨g, off, ha, ⟨h1, h2⟩, h2, TreeL.within g off ks h3⟩
theorem TreeL.within {lo : Nat → Prop} {w : World} (g : Nat) : ∀ (off : Nat) (ks : List Ex), TreeL lo w g off ks → TreeL (fun k => lo k ∧ k < w.heap.size) w g off ks
  | off, [] => by unfold TreeL; exact id
  | off, k :: ks => by
    unfold TreeL
    rintro ⟨⟨a, cap, c0, c1, c2, c3, ht⟩, hr⟩
    exact ⟨⟨a, cap, c0, c1, c2, c3, TreeV.within ht⟩, TreeL.within g _ ks hr⟩
end

theorem chainGo_step (F : Nat → List Tok → Res) (lv : Int) (m : Nat) (e : Ex) (b : Nat) (ts : List Tok) :
    chainGo F lv (m + 1) e b ts = if operT ts lv 2 < 0 then .ok e b ts else match joinR F lv e b ts with | .er f b' => .er f b' | .ok t b' ts' => chainGo F lv m t b' ts' := by
  rw [chainGo]
  unfold joinR
  split
  · rfl
  · split
    · rfl
    · cases F (b - 1) ts.tail <;> rfl

/-- How many tokens a reader has taken. -/
def tkOf (p : Nat) (w : World) : Nat := match w.cell? ⟨p, 2, none⟩ with | some (.int _ z) => z.toNat | _ => 0
theorem tkOf_rd {p g c : Nat} {L : List Tok} {i tk : Nat} {w : World} (h : Rd p g c L i tk w) : tkOf p w = tk := by
  unfold tkOf; rw [h.c2]; simp
def chMeas (p : Nat) (f : Value) (w : World) : Nat := (if intOf f = 0 then 1 else 0) + (64 - tkOf p w)
theorem chMeas_ok {p g c : Nat} {L : List Tok} {i tk : Nat} {w : World} (h : Rd p g c L i tk w) : chMeas p (.int .i64 0) w = 1 + (64 - tk) := by
  unfold chMeas; rw [tkOf_rd h]; simp [intOf]
theorem chMeas_er {p g c : Nat} {L : List Tok} {i tk : Nat} {w : World} {f : Int} (h : Rd p g c L i tk w) (hf : f ≠ 0) : chMeas p (.int .i64 f) w = 64 - tk := by
  unfold chMeas; rw [tkOf_rd h]; simp [intOf, hf]

/-- What holds at the head of a round: how far it was read, or which error there was. -/
def ChRel (S : Nat → Prop) (p g c : Nat) (L : List Tok) (F : Nat → List Tok → Res) (lv : Int) (i b : Nat) (w : World) (n m : Nat) (R : Res) (f : Value) (wr : World) : Prop :=
  Keeps p w wr ∧ Box wr n 25 #[.int .i64 0, .int .i64 0, .string ⟨#[]⟩, .slice none 0 0] ∧ m < wr.heap.size ∧
  ((∃ (t : Ex) (a : Option Addr) (cap b' fuel : Nat), f = .int .i64 0 ∧ b' < b ∧ b' < fuel ∧ R = chainGo F lv fuel t b' (L.drop (i + (b - b'))) ∧ Rd p g c L (i + (b - b')) (64 - b') wr ∧
      Box wr m 25 #[.int .i64 t.op, .int .i64 t.n, .string ⟨t.name.toArray⟩, .slice a t.kids.length cap] ∧ TreeV S wr t (exV t.op t.n t.name a t.kids.length cap)) ∨
   (∃ (z z0 z1 : Int) (s : ByteArray) (a : Option Addr) (k cp b' : Nat), f = .int .i64 z ∧ z ≠ 0 ∧ b' ≤ b ∧ R = .er z b' ∧ Rd p g c L (i + (b - b')) (64 - b') wr ∧
      Box wr m 25 #[.int .i64 z0, .int .i64 z1, .string s, .slice a k cp]))

/-- What a reading handed back, whichever it was. -/
structure Got (S : Nat → Prop) (p g c : Nat) (L : List Tok) (i b : Nat) (w : World) (r : Res) (z0 z1 : Int) (s : ByteArray) (a : Option Addr) (n cp : Nat) (f : Int) (w' : World) : Prop where
  keeps : Keeps p w w'
  what : (f = 0 ∧ ∃ t b' ts, r = .ok t b' ts ∧ b' < b ∧ ts = L.drop (i + (b - b')) ∧ Rd p g c L (i + (b - b')) (64 - b') w' ∧ z0 = t.op ∧ z1 = t.n ∧ s = ⟨t.name.toArray⟩ ∧ n = t.kids.length ∧ TreeV S w' t (exV t.op t.n t.name a t.kids.length cp)) ∨
    (f ≠ 0 ∧ ∃ b', r = .er f b' ∧ b' ≤ b ∧ Rd p g c L (i + (b - b')) (64 - b') w')
theorem jpost_got {S : Nat → Prop} {p g c : Nat} {L : List Tok} {i b : Nat} {w w' : World} {r : Res} {e : Ending} (h : JPost S p g c L i b w r e w') :
    ∃ z0 z1 s a n cp f, e = .returned (.tuple #[.agg #[.int .i64 z0, .int .i64 z1, .string s, .slice a n cp], .int .i64 f]) ∧ Got S p g c L i b w r z0 z1 s a n cp f w' := by
  unfold JPost at h
  cases r with
  | ok t b' ts =>
    obtain ⟨v, rfl, hT, hb, hts, hR, hK⟩ := h
    obtain ⟨a, cap, rfl, -, -⟩ := hT.open
    exact ⟨t.op, t.n, ⟨t.name.toArray⟩, a, t.kids.length, cap, 0, rfl, hK, Or.inl ⟨rfl, t, b', ts, rfl, hb, hts, hR, rfl, rfl, rfl, rfl, hT⟩⟩
  | er f b' =>
    obtain ⟨z0, z1, s, a, n, cp, rfl, hf, hb, hR, hK⟩ := h
    exact ⟨z0, z1, s, a, n, cp, f, rfl, hK, Or.inr ⟨hf, b', rfl, hb, hR⟩⟩
theorem rpost_got {p g c : Nat} {L : List Tok} {i b : Nat} {w w' : World} {r : Res} {e : Ending} (h : RPost p g c L i b w r e w') :
    ∃ z0 z1 s a n cp f, e = .returned (.tuple #[.agg #[.int .i64 z0, .int .i64 z1, .string s, .slice a n cp], .int .i64 f]) ∧ Got (fun k => w.heap.size ≤ k) p g c L i b w r z0 z1 s a n cp f w' := jpost_got (S := fun k => w.heap.size ≤ k) h

theorem rpost_of {p g c : Nat} {L : List Tok} {i b : Nat} {w w' : World} {r : Res} {e : Ending} (h : JPost (fun k => w.heap.size ≤ k) p g c L i b w r e w') : RPost p g c L i b w r e w' := h

/-- The first operand was read, and lies in a box of its own. -/
theorem chrel_start {p g c : Nat} {L : List Tok} {F : Nat → List Tok → Res} {lv : Int} {i b : Nat} {w w1 : World} {z0 z1 : Int} {s : ByteArray} {a : Option Addr} {n cp : Nat} {f : Int} (hp : p < w.heap.size)
    (h : Got (fun k => (w.alloc (.cells #[.int .i64 0, .int .i64 0, .string ⟨#[]⟩, .slice none 0 0] 25)).heap.size ≤ k) p g c L i b (w.alloc (.cells #[.int .i64 0, .int .i64 0, .string ⟨#[]⟩, .slice none 0 0] 25)) (F b (L.drop i)) z0 z1 s a n cp f w1) :
    ChRel (fun k => w.heap.size + 1 ≤ k ∧ k ≠ w1.heap.size) p g c L F lv i b w w.heap.size w1.heap.size (chainT F lv b (L.drop i)) (.int .i64 f) (w1.alloc (.cells #[.int .i64 z0, .int .i64 z1, .string s, .slice a n cp] 25)) := by
  have hx1 := (Box.new w 25 _).keeps h.keeps (by omega)
  refine ⟨(((Keeps.refl p w).alloc _).trans h.keeps).alloc _, hx1.alloc _, by simp, ?_⟩
  rcases h.what with ⟨rfl, t, b', ts, hr, hb, hts, hR, rfl, rfl, rfl, rfl, hT⟩ | ⟨hf, b', hr, hb, hR⟩
  · refine Or.inl ⟨t, a, cp, b', b' + 1, rfl, hb, by omega, ?_, hR.alloc _, Box.new _ _ _, ?_⟩
    · unfold chainT; rw [hr]; simp only; rw [hts]
    · refine TreeV.alloc (TreeV.low ?_ _ _ (TreeV.within hT)) _
      rintro k ⟨h1, h2⟩
      simp at h1
      omega
  · refine Or.inr ⟨f, z0, z1, s, a, n, cp, b', rfl, hf, hb, ?_, hR.alloc _, Box.new _ _ _⟩
    unfold chainT; rw [hr]

/-- A round's join was read, and lies in the box. -/
theorem chrel_next {p g c : Nat} {L : List Tok} {F : Nat → List Tok → Res} {lv : Int} {i b : Nat} {w wr w1 : World} {n m : Nat} {z0 z1 : Int} {s : ByteArray} {a : Option Addr} {k cp : Nat} {f : Int} {R : Res} {b' fuel : Nat} {t : Ex} {x0 x1 x2 x3 : Value}
    (hb : b' < b) (hfu : b' < fuel) (hn : n < m) (hwn : w.heap.size ≤ n) (hk : Keeps p w wr) (hpn : p < n) (hxn : Box wr n 25 #[.int .i64 0, .int .i64 0, .string ⟨#[]⟩, .slice none 0 0]) (hxm : Box wr m 25 #[x0, x1, x2, x3])
    (hR : R = chainGo F lv fuel t b' (L.drop (i + (b - b')))) (ho : ¬ operT (L.drop (i + (b - b'))) lv 2 < 0)
    (h : Got (fun q => w.heap.size + 1 ≤ q ∧ q ≠ m) p g c L (i + (b - b')) b' wr (joinR F lv t b' (L.drop (i + (b - b')))) z0 z1 s a k cp f w1) :
    ChRel (fun q => w.heap.size + 1 ≤ q ∧ q ≠ m) p g c L F lv i b w n m R (.int .i64 f) ((((w1.setCell ⟨m, 0, none⟩ (.int .i64 z0)).setCell ⟨m, 1, none⟩ (.int .i64 z1)).setCell ⟨m, 2, none⟩ (.string s)).setCell ⟨m, 3, none⟩ (.slice a k cp)) := by
  have hx1 := hxn.keeps h.keeps (by omega)
  have hm1 := hxm.keeps h.keeps (by omega)
  refine ⟨(hk.trans h.keeps).set4 (by omega) _ _ _ _, hx1.off4 (by omega) _ _ _ _, by rw [size4]; exact hm1.lt, ?_⟩
  obtain ⟨fu, rfl⟩ : ∃ fu, fuel = fu + 1 := ⟨fuel - 1, by omega⟩
  rw [chainGo_step, if_neg ho] at hR
  rcases h.what with ⟨rfl, t', b'', ts, hr, hb2, hts, hRd, rfl, rfl, rfl, rfl, hT⟩ | ⟨hf, b'', hr, hb2, hRd⟩
  · have e : i + (b - b') + (b' - b'') = i + (b - b'') := by omega
    rw [e] at hts hRd
    refine Or.inl ⟨t', a, cp, b'', fu, rfl, by omega, by omega, ?_, hRd.set4 (by omega) _ _ _ _, hm1.set4 _ _ _ _, ?_⟩
    · rw [hR, hr]; simp only; rw [hts]
    · exact TreeV.keep (by rw [size4]; exact Nat.le_refl _) (fun q hq _ => block4 _ _ _ _ _ _ _ hq.2) _ _ hT
  · have e : i + (b - b') + (b' - b'') = i + (b - b'') := by omega
    rw [e] at hRd
    refine Or.inr ⟨f, z0, z1, s, a, k, cp, b'', rfl, hf, by omega, ?_, hRd.set4 (by omega) _ _ _ _, hm1.set4 _ _ _ _⟩
    rw [hR, hr]

set_option maxHeartbeats 4000000 in
theorem chain_any (p g c : Nat) (L : List Tok) (fn : Nat) (hen : ∀ args w, (callFunc fn args).run Tryz.prog w = .ok (.enter fn args) w) (F : Nat → List Tok → Res) (D : Nat) (hF : Reads p g c L fn F D) (lv : Int) (i b : Nat) (w : World)
    (hb : b ≤ 64) (hD : b < D) (hib : i + b ≤ 100000) (h : Rd p g c L i (64 - b) w) :
    Calls Tryz.prog 67 #[.pointer (some ⟨p, 0, none⟩), .int .i64 lv, .func (.func fn) #[.pointer (some ⟨p, 0, none⟩)] #[]] w (RPost p g c L i b w (chainT F lv b (L.drop i))) := by
  have hp := h.lt
  go_enter Tryz.func67, Tryz.ntmps67
  go_wp2_with fail
  refine (hF i b _ hD hb hib (h.alloc _)).mono ?_
  intro e w1 hpost
  obtain ⟨z0, z1, s, a, n, cp, f, rfl, hgot⟩ := rpost_got hpost
  clear hpost
  have HC := Lib.hid (chrel_start (lv := lv) hp hgot)
  have hw1 : w.heap.size < w1.heap.size := by have := hgot.keeps.size; simp at this; omega
  clear hgot
  generalize chainT F lv b (L.drop i) = R at *
  go_wp2
  go_loopw [9] (fun x wr => ChRel (fun k => w.heap.size + 1 ≤ k ∧ k ≠ w1.heap.size) p g c L F lv i b w w.heap.size w1.heap.size R x wr) (fun x wr => chMeas p x wr)
  case atStart => exact HC.out
  case round =>
    obtain ⟨hkr, hxn, hml, hst⟩ := hrel
    rcases hst with ⟨t, ta, tcap, b', fuel, rfl, hb', hfu, hR, hRd, hxm, hT⟩ | ⟨z, y0, y1, ys, ya, yk, ycp, b', rfl, hz, hb', hR, hRd, hxm⟩
    · have HR := Lib.hid hR
      have HM := Lib.hid (chMeas_ok hRd)
      clear hR
      obtain ⟨r0, r1, r2, r3, s0, s1, s2, s3⟩ := hxn.four
      obtain ⟨c0, c1, c2, c3, f0, f1, f2, f3⟩ := hxm.four
      have hnl := hxn.lt
      go_wp2_with fail
      refine (oper_any p g c L _ _ lv 2 _ hRd).mono ?_
      rintro e w2 ⟨rfl, hb2⟩
      have hRd2 := hRd.below hb2 (Nat.le_refl _)
      have hxn2 := hxn.below hb2 hxn.lt
      have hxm2 := hxm.below hb2 hxm.lt
      have hk2 := hkr.below hb2 hkr.size
      have hT2 := TreeV.below hT hb2 (Nat.le_refl _)
      clear hb2 hRd hxn hxm hkr hT hml hnl r0 r1 r2 r3 s0 s1 s2 s3 c0 c1 c2 c3 f0 f1 f2 f3
      obtain ⟨r0, r1, r2, r3, s0, s1, s2, s3⟩ := hxn2.four
      obtain ⟨c0, c1, c2, c3, f0, f1, f2, f3⟩ := hxm2.four
      have hnl := hxn2.lt
      have hml := hxm2.lt
      by_cases ho : operT (L.drop (i + (b - b'))) lv 2 < 0
      · have hd : decide (0 ≤ operT (L.drop (i + (b - b'))) lv 2) = false := by simpa using ho
        have HE : Hid (R = .ok t b' (L.drop (i + (b - b')))) := by
          obtain ⟨fu, hfu'⟩ : ∃ fu, fuel = fu + 1 := ⟨fuel - 1, by omega⟩
          unfold Hid; rw [HR.out, hfu', chainGo_step, if_pos ho]
        clear ho HR
        generalize operT (L.drop (i + (b - b'))) lv 2 = o at *
        go_wp2
        rw [HE.out]
        exact bodyPost_ret (v := .tuple #[exV t.op t.n t.name ta t.kids.length tcap, .int .i64 0]) (by simp [results, Tryz.results67, go_sem, exV, r0, r1, r2, r3]) rfl
          (rpost_of (jpost_ok hb' rfl (TreeV.low (fun k hk => by omega) _ _ (TreeV.keep (by rw [size4]; exact Nat.le_refl _) (fun q hq _ => block4 _ _ _ _ _ _ _ (by omega)) _ _ hT2)) (hRd2.set4 hp _ _ _ _) (hk2.set4 (Nat.le_refl _) _ _ _ _)))
      · have hd : decide (0 ≤ operT (L.drop (i + (b - b'))) lv 2) = true := by simpa using ho
        have HO := Lib.hid ho
        clear ho
        go_wp2_with fail
        refine (join_any p g c L fn hen F D hF lv t _ (i + (b - b')) b' _ (by omega) (by omega) (by omega) hRd2 _ (fun k => w.heap.size + 1 ≤ k ∧ k ≠ w1.heap.size) hT2 (by omega) (fun k hk => by omega)).mono ?_
        intro e w3 hpost
        obtain ⟨z0', z1', s', a', n', cp', f', rfl, hgot⟩ := jpost_got hpost
        clear hpost r0 r1 r2 r3 s0 s1 s2 s3 c0 c1 c2 c3 f0 f1 f2 f3
        have HN := Lib.hid (chrel_next hb' hfu hw1 (Nat.le_refl _) hk2 hp hxn2 hxm2 HR.out (by have := HO.out; omega) hgot)
        have HM2 : Hid (chMeas p (.int .i64 f') ((((w3.setCell ⟨w1.heap.size, 0, none⟩ (.int .i64 z0')).setCell ⟨w1.heap.size, 1, none⟩ (.int .i64 z1')).setCell ⟨w1.heap.size, 2, none⟩ (.string s')).setCell ⟨w1.heap.size, 3, none⟩ (.slice a' n' cp')) < chMeas p (.int .i64 0) wr) := by
          unfold Hid
          rw [HM.out]
          rcases hgot.what with ⟨rfl, t', b'', ts, -, hb3, -, hRd3, -⟩ | ⟨hf, b'', -, hb3, hRd3⟩
          · rw [chMeas_ok (hRd3.set4 (q := w1.heap.size) (by omega) _ _ _ _)]; omega
          · rw [chMeas_er (hRd3.set4 (q := w1.heap.size) (by omega) _ _ _ _) hf]; omega
        have hxm3 := hxm2.keeps hgot.keeps (by omega)
        obtain ⟨c0, c1, c2, c3, f0, f1, f2, f3⟩ := hxm3.four
        have hml3 := hxm3.lt
        clear hgot HR HM
        go_wp2
        go_roundw
        case rel => exact HN.out
        case measure => exact HM2.out
    · have hd : (z == 0) = false := by simpa using hz
      obtain ⟨r0, r1, r2, r3, s0, s1, s2, s3⟩ := hxn.four
      obtain ⟨c0, c1, c2, c3, f0, f1, f2, f3⟩ := hxm.four
      have hnl := hxn.lt
      have HR := Lib.hid hR
      clear hR
      go_wp2
      rw [HR.out]
      exact bodyPost_ret (v := .tuple #[.agg #[.int .i64 y0, .int .i64 y1, .string ys, .slice ya yk ycp], .int .i64 z]) (by simp [results, Tryz.results67, go_sem, r0, r1, r2, r3]) rfl
        (rpost_of (jpost_er hz hb' (hRd.set4 hp _ _ _ _) (hkr.set4 (Nat.le_refl _) _ _ _ _)))
end Go.Proofs.YtinocaggponpmaaGreatDoor.Ep
