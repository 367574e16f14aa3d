/-
  The contract of the reader's parenthesized.
-/
import Derived.Test.YtinocaggponpmaaGreatDoorExR6
namespace Go.Proofs.YtinocaggponpmaaGreatDoor.Ep
open Go.RowKit Lx

theorem TreeV.drew {lo : Nat → Prop} {w : World} {t : Ex} {v : Value} (h : TreeV lo w t v) : TreeV lo w.drew t v := TreeV.keep (w := w) (w' := w.drew) (Nat.le_refl _) (fun _ _ _ => rfl) t v h
/-- What parenthesized reads. -/
def parenR (O : Nat → List Tok → Res) (b : Nat) (ts : List Tok) : Res :=
  if b = 0 then .er 2 0 else match O (b - 1) ts.tail with
    | .er f b' => .er f b'
    | .ok e b' ts' => if sgnT ts' [41] = true then (if b' = 0 then .er 2 0 else .ok e (b' - 1) ts'.tail) else .er 11 b'

set_option maxHeartbeats 4000000 in
theorem paren_any (p g c : Nat) (L : List Tok) (O : Nat → List Tok → Res) (D : Nat) (hO : Reads p g c L 41 O D) (i b : Nat) (w : World)
    (hb : b ≤ 64) (hD : b ≤ D) (hib : i + b ≤ 100000) (h : Rd p g c L i (64 - b) w) :
    Calls Tryz.prog 141 #[.pointer (some ⟨p, 0, none⟩)] w (RPost p g c L i b w (parenR O b (L.drop i))) := by
  have hp := h.lt
  have hbw : Below w.heap.size w (w.alloc (.cells #[.int .i64 0, .int .i64 0, .string ⟨#[]⟩, .slice none 0 0] 25)) := (Below.refl _ _).alloc (Nat.le_refl _) _
  have hx0 := Box.new w 25 #[.int .i64 0, .int .i64 0, .string ⟨#[]⟩, .slice none 0 0]
  rcases Nat.eq_zero_or_pos b with h0 | h0
  · subst h0
    have HX : Hid (parenR O 0 (L.drop i) = .er 2 0) := by unfold Hid parenR; rw [if_pos rfl]
    clear hx0
    go_enter Tryz.func141, Tryz.ntmps141
    go_wp2_with fail
    refine (take_no p g c L i _ (h.alloc _)).mono ?_
    rintro e w1 ⟨rfl, rfl⟩
    go_wp2
    rw [HX.out]
    exact bodyPost_ret (v := .tuple #[exV 0 0 [] none 0 0, .int .i64 2]) (by simp [results, Tryz.results141, go_sem, exV]) rfl (rpost_of (jpost_er (by decide) (Nat.le_refl _) (h.alloc _) (Keeps.of hbw (Nat.le_refl _))))
  · have HP : Hid (parenR O b (L.drop i) = match O (b - 1) (L.drop (i + 1)) with
        | .er f b' => .er f b'
        | .ok e b' ts' => if sgnT ts' [41] = true then (if b' = 0 then .er 2 0 else .ok e (b' - 1) ts'.tail) else .er 11 b') := by
      unfold Hid parenR; rw [if_neg (by omega), List.tail_drop]
    go_enter Tryz.func141, Tryz.ntmps141
    go_wp2_with fail
    refine (take_yes p g c L i (64 - b) _ (h.alloc _) (by omega) (by omega)).mono ?_
    rintro e w1 ⟨rfl, hr1, hk1⟩
    have hx1 := hx0.keeps hk1 (by omega)
    have hk01 := (Keeps.of (p := p) hbw (Nat.le_refl _)).trans hk1
    have e2 : 64 - b + 1 = 64 - (b - 1) := by omega
    rw [e2] at hr1
    clear e2 hk1 hx0 hbw
    go_wp2_with fail
    refine (hO (i + 1) (b - 1) _ (by omega) (by omega) (by omega) hr1).mono ?_
    intro e w2 hpost
    obtain ⟨z0, z1, s, a, n, cp, f, rfl, hgot⟩ := rpost_got hpost
    clear hpost
    have hx2 := hx1.keeps hgot.keeps (by omega)
    have hk2 := hk01.trans hgot.keeps
    have hl2 := hx2.lt
    have hs1 := hx1.lt
    obtain ⟨r0, r1, r2, r3, s0, s1, s2, s3⟩ := hx2.four
    rcases hgot.what with ⟨rfl, t, b', ts, hr, hb', hts, hRd, rfl, rfl, rfl, rfl, hT⟩ | ⟨hf, b', hr, hb', hRd⟩
    · subst hts
      have HQ : Hid (parenR O b (L.drop i) = if sgnT (L.drop (i + 1 + (b - 1 - b'))) [41] = true then (if b' = 0 then .er 2 0 else .ok t (b' - 1) (L.drop (i + 1 + (b - 1 - b'))).tail) else .er 11 b') := by unfold Hid; rw [HP.out, hr]
      have ej : i + 1 + (b - 1 - b') = i + (b - b') := by omega
      rw [ej] at hRd
      rw [ej] at HQ
      clear ej hr HP hgot hr1 hx1 hk01
      go_wp2_with fail
      refine (sgn_any p g c L _ _ [41] _ (hRd.alloc _)).mono ?_
      rintro e w3 ⟨rfl, hb3⟩
      have hRd3 := (hRd.alloc _).below hb3 (Nat.le_refl _)
      have hx3 := (hx2.alloc _).below hb3 (by simp; omega)
      have hxe := (Box.new w2 25 _).below hb3 (by simp)
      have hk3 := (hk2.alloc _).below hb3 (by have := hk2.size; simp; omega)
      have hT3 := TreeV.below (hT.alloc _) hb3 (Nat.le_refl _)
      clear hb3 hRd hx2 hk2 hT r0 r1 r2 r3 s0 s1 s2 s3
      obtain ⟨r0, r1, r2, r3, s0, s1, s2, s3⟩ := hx3.four
      obtain ⟨c0, c1, c2, c3, f0, f1, f2, f3⟩ := hxe.four
      have hl3 := hx3.lt
      have hl4 := hxe.lt
      by_cases hsg : sgnT (L.drop (i + (b - b'))) [41] = true
      · rcases Nat.eq_zero_or_pos b' with hb0 | hb0
        · have HE : Hid (parenR O b (L.drop i) = .er 2 0) := by unfold Hid; rw [HQ.out, if_pos hsg, if_pos hb0]
          subst hb0
          rw [hsg]
          clear hsg HQ
          go_wp2_with fail
          go_region_with (go_at_call 128; refine (take_no p g c L _ _ (by exact hRd3.drew)).mono ?_; rintro e w4 ⟨rfl, rfl⟩)
          all_goals go_wp2
          all_goals rw [HE.out]
          all_goals exact bodyPost_ret (v := .tuple #[exV t.op t.n t.name a t.kids.length cp, .int .i64 2]) (by simp [results, Tryz.results141, go_sem, exV, r0, r1, r2, r3]) rfl (rpost_of (jpost_er (by decide) (by omega) (hRd3.drew.set4 hp _ _ _ _) (hk3.drew1.set4 (Nat.le_refl _) _ _ _ _)))
        · have HE : Hid (parenR O b (L.drop i) = .ok t (b' - 1) (L.drop (i + (b - b'))).tail) := by unfold Hid; rw [HQ.out, if_pos hsg, if_neg (by omega)]
          rw [hsg]
          clear hsg HQ
          go_wp2_with fail
          go_region_with (go_at_call 128; refine (take_yes p g c L _ (64 - b') _ (by exact hRd3.drew) (by omega) (by omega)).mono ?_; rintro e w4 ⟨rfl, hr4, hk4⟩; have hxe' := hxe.drew.keeps hk4 (by omega); have hx3' := hx3.drew.keeps hk4 (by omega); obtain ⟨c0, c1, c2, c3, f0, f1, f2, f3⟩ := hxe'.four; obtain ⟨r0, r1, r2, r3, s0, s1, s2, s3⟩ := hx3'.four)
          all_goals go_wp2
          all_goals rw [HE.out]
          all_goals
            refine bodyPost_ret (v := .tuple #[exV t.op t.n t.name a t.kids.length cp, .int .i64 0]) (by simp [results, Tryz.results141, go_sem, exV, r0, r1, r2, r3]) rfl (rpost_of (jpost_ok (by omega) (by rw [List.tail_drop]; congr 1; omega) ?_ ?_ ((hk3.drew1.trans hk4).set4 (Nat.le_refl _) _ _ _ _)))
            · exact TreeV.low (fun k hk => by omega) _ _ (TreeV.keep (w := w4) (by rw [size4]; exact Nat.le_refl _) (fun q hq _ => block4 _ _ _ _ _ _ _ (by omega)) _ _ (TreeV.keep (w := w3.drew) hk4.size (fun q hq hlt => hk4.block q hlt (by omega)) _ _ (TreeV.drew hT3)))
            · have := hr4.set4 (q := w.heap.size) hp (.int .i64 t.op) (.int .i64 t.n) (.string ⟨t.name.toArray⟩) (.slice a t.kids.length cp)
              rw [show i + (b - (b' - 1)) = i + (b - b') + 1 by omega, show 64 - (b' - 1) = 64 - b' + 1 by omega]
              exact this
      · have hsg' : sgnT (L.drop (i + (b - b'))) [41] = false := by simpa using hsg
        have HE : Hid (parenR O b (L.drop i) = .er 11 b') := by unfold Hid; rw [HQ.out, if_neg hsg]
        rw [hsg']
        clear hsg hsg' HQ
        go_wp2
        rw [HE.out]
        exact bodyPost_ret (v := .tuple #[exV 0 0 [] none 0 0, .int .i64 11]) (by simp [results, Tryz.results141, go_sem, exV, r0, r1, r2, r3]) rfl (rpost_of (jpost_er (by decide) (by omega) (hRd3.set4 hp _ _ _ _) (hk3.set4 (Nat.le_refl _) _ _ _ _)))
    · have HE : Hid (parenR O b (L.drop i) = .er f b') := by unfold Hid; rw [HP.out, hr]
      have hd : (f != 0) = true := by simpa using hf
      have ej : i + 1 + (b - 1 - b') = i + (b - b') := by omega
      rw [ej] at hRd
      clear hr HP ej
      go_wp2
      rw [HE.out]
      exact bodyPost_ret (v := .tuple #[exV 0 0 [] none 0 0, .int .i64 f]) (by simp [results, Tryz.results141, go_sem, exV, r0, r1, r2, r3, hl2]) rfl (rpost_of (jpost_er hf (by omega) ((hRd.set4 hp _ _ _ _).alloc _) ((hk2.set4 (Nat.le_refl _) _ _ _ _).alloc _)))
end Go.Proofs.YtinocaggponpmaaGreatDoor.Ep
