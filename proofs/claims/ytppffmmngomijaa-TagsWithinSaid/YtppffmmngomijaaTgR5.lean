/-
  The document's Latch and Drive answer as the plain words say.
-/
import Derived.Test.YtppffmmngomijaaTgR4
namespace Go.Proofs.Ytppffmmngomijaa.Tg
open Go.RowKit Lx

set_option maxRecDepth 100000 in
set_option maxHeartbeats 2000000 in
theorem refLatch_any (l : List Tg) (im : Im) (cs : List Cl) (a A B ca : Option Addr) (cap c d ccap : Nat) (w : World) (hl : l.length ≤ 1000000) (hn : im.v.length ≤ 1000000) (hm : im.bad.length ≤ 1000000) (hc : cs.length ≤ 1000000) (hNm : ∀ t ∈ l, t.nm.size ≤ 20000) (hT : Tags w a l) (hV : Nums w A im.v) (hB : Flags w B im.bad) (hC : Cells w ca cs) :
    Calls Try.prog 21 #[.slice a l.length cap, .agg #[.slice A im.v.length c, .slice B im.bad.length d], .slice ca cs.length ccap] w (ImPost (tellT l im cs false) w) := by
  have hw : Below w.heap.size w ((w.alloc (.cells #[.slice A im.v.length c, .slice B im.bad.length d] 28)).alloc (.cells #[.slice none 0 0, .slice none 0 0] 28)) := ((Below.refl _ w).alloc (Nat.le_refl _) _).alloc (by simp) _
  have hCh := tell_any l im cs false a A B ca cap c d ccap _ hl hn hm hc hNm (hT.below hw) (hV.below hw) (hB.below hw) (hC.below hw)
  clear hT hV hB hC hNm
  generalize tellT l im cs false = X at *
  generalize l.length = len at *
  generalize im.v.length = n at *
  generalize im.bad.length = m at *
  generalize cs.length = len2 at *
  go_enter Try.func21, Try.ntmps21
  go_wp2_with fail
  refine hCh.mono ?_
  rintro e w1 ⟨A', c', B', d', rfl, hO, hb1⟩
  have hx := (box_at (w := w.alloc (.cells #[.slice A n c, .slice B m d] 28)) (N := w.heap.size + 1) (t := 28) (cs := #[.slice none 0 0, .slice none 0 0]) (by simp)).below hb1 (by simp only [World.alloc, Array.size_push]; omega)
  have hb0 := below_new (below_new hb1)
  have hO2 := own_im2 hx (by decide) (by decide) hO (.slice A' (ansI X).v.length c') (.slice B' (ansI X).bad.length d')
  have hF := ((hb0.setCell (p := ⟨w.heap.size + 1, 0, none⟩) (by simp) (.slice A' (ansI X).v.length c')).setCell (p := ⟨w.heap.size + 1, 1, none⟩) (by simp) (.slice B' (ansI X).bad.length d'))
  have hy := two_set hx (.slice A' (ansI X).v.length c') (.slice B' (ansI X).bad.length d')
  have e0 := hx.cell 0
  have e1 := hx.cell 1
  have f0 := hx.frozen 0
  have f1 := hx.frozen 1
  have r0 := hy.cell 0
  have r1 := hy.cell 1
  simp at e0 e1 r0 r1
  have HE : Hid (ImPost X w (.returned (.tuple #[.agg #[.slice A' (ansI X).v.length c', .slice B' (ansI X).bad.length d'], .int .i64 X.2])) ((w1.setCell ⟨w.heap.size + 1, 0, none⟩ (.slice A' (ansI X).v.length c')).setCell ⟨w.heap.size + 1, 1, none⟩ (.slice B' (ansI X).bad.length d'))) :=
    ⟨A', c', B', d', rfl, ⟨own_less hO2.1 (by simp only [World.alloc, Array.size_push]; omega), own_less hO2.2 (by simp only [World.alloc, Array.size_push]; omega)⟩, hF⟩
  clear hO hb1 hx hO2 hF hy
  generalize (ansI X).v.length = n' at *
  generalize (ansI X).bad.length = m' at *
  generalize hz : X.2 = z at *
  clear hz
  go_wp2_with fail
  exact bodyPost_ret (v := .tuple #[.agg #[.slice A' n' c', .slice B' m' d'], .int .i64 z]) (by simp [results, Try.results21, go_sem, r0, r1]) rfl HE.out
set_option maxRecDepth 100000 in
set_option maxHeartbeats 2000000 in
theorem refDrive_any (l : List Tg) (im : Im) (cs : List Cl) (a A B ca : Option Addr) (cap c d ccap : Nat) (w : World) (hl : l.length ≤ 1000000) (hn : im.v.length ≤ 1000000) (hm : im.bad.length ≤ 1000000) (hc : cs.length ≤ 1000000) (hNm : ∀ t ∈ l, t.nm.size ≤ 20000) (hT : Tags w a l) (hV : Nums w A im.v) (hB : Flags w B im.bad) (hC : Cells w ca cs) :
    Calls Try.prog 23 #[.slice a l.length cap, .agg #[.slice A im.v.length c, .slice B im.bad.length d], .slice ca cs.length ccap] w (ImPost (tellT l im cs true) w) := by
  have hw : Below w.heap.size w ((w.alloc (.cells #[.slice A im.v.length c, .slice B im.bad.length d] 28)).alloc (.cells #[.slice none 0 0, .slice none 0 0] 28)) := ((Below.refl _ w).alloc (Nat.le_refl _) _).alloc (by simp) _
  have hCh := tell_any l im cs true a A B ca cap c d ccap _ hl hn hm hc hNm (hT.below hw) (hV.below hw) (hB.below hw) (hC.below hw)
  clear hT hV hB hC hNm
  generalize tellT l im cs true = X at *
  generalize l.length = len at *
  generalize im.v.length = n at *
  generalize im.bad.length = m at *
  generalize cs.length = len2 at *
  go_enter Try.func23, Try.ntmps23
  go_wp2_with fail
  refine hCh.mono ?_
  rintro e w1 ⟨A', c', B', d', rfl, hO, hb1⟩
  have hx := (box_at (w := w.alloc (.cells #[.slice A n c, .slice B m d] 28)) (N := w.heap.size + 1) (t := 28) (cs := #[.slice none 0 0, .slice none 0 0]) (by simp)).below hb1 (by simp only [World.alloc, Array.size_push]; omega)
  have hb0 := below_new (below_new hb1)
  have hO2 := own_im2 hx (by decide) (by decide) hO (.slice A' (ansI X).v.length c') (.slice B' (ansI X).bad.length d')
  have hF := ((hb0.setCell (p := ⟨w.heap.size + 1, 0, none⟩) (by simp) (.slice A' (ansI X).v.length c')).setCell (p := ⟨w.heap.size + 1, 1, none⟩) (by simp) (.slice B' (ansI X).bad.length d'))
  have hy := two_set hx (.slice A' (ansI X).v.length c') (.slice B' (ansI X).bad.length d')
  have e0 := hx.cell 0
  have e1 := hx.cell 1
  have f0 := hx.frozen 0
  have f1 := hx.frozen 1
  have r0 := hy.cell 0
  have r1 := hy.cell 1
  simp at e0 e1 r0 r1
  have HE : Hid (ImPost X w (.returned (.tuple #[.agg #[.slice A' (ansI X).v.length c', .slice B' (ansI X).bad.length d'], .int .i64 X.2])) ((w1.setCell ⟨w.heap.size + 1, 0, none⟩ (.slice A' (ansI X).v.length c')).setCell ⟨w.heap.size + 1, 1, none⟩ (.slice B' (ansI X).bad.length d'))) :=
    ⟨A', c', B', d', rfl, ⟨own_less hO2.1 (by simp only [World.alloc, Array.size_push]; omega), own_less hO2.2 (by simp only [World.alloc, Array.size_push]; omega)⟩, hF⟩
  clear hO hb1 hx hO2 hF hy
  generalize (ansI X).v.length = n' at *
  generalize (ansI X).bad.length = m' at *
  generalize hz : X.2 = z at *
  clear hz
  go_wp2_with fail
  exact bodyPost_ret (v := .tuple #[.agg #[.slice A' n' c', .slice B' m' d'], .int .i64 z]) (by simp [results, Try.results23, go_sem, r0, r1]) rfl HE.out
theorem of_len {r : Option Im × Int} {w w' : World} {e : Ending} (h : ImPost r w e w') {n m : Nat} {z : Int} (hn : (ansI r).v.length = n) (hm : (ansI r).bad.length = m) (hz : r.2 = z) : ∃ A c B d, e = .returned (.tuple #[.agg #[.slice A n c, .slice B m d], .int .i64 z]) ∧ OwnIm w.heap.size w' (ansI r) A c B d ∧ Below w.heap.size w w' := by
  subst hn; subst hm; subst hz; exact h
theorem im_at {w : World} {p : Nat} {y0 y1 : Value} (h : Box w p 28 #[y0, y1]) : w.cell? ⟨p, 0, none⟩ = some y0 ∧ w.cell? ⟨p, 1, none⟩ = some y1 := ⟨h.cell 0, h.cell 1⟩
theorem tell_small (l : List Tg) (im : Im) (cs : List Cl) (out : Bool) {N : Nat} (hn : im.v.length ≤ N) (hm : im.bad.length ≤ N) : (ansI (tellT l im cs out)).v.length ≤ N ∧ (ansI (tellT l im cs out)).bad.length ≤ N := by
  cases hr : rightB l im with
  | false => rw [tell_no hr]; exact ⟨Nat.zero_le _, Nat.zero_le _⟩
  | true =>
    cases hf : tellF l out cs im with
    | none => rw [tell_none hr hf]; exact ⟨Nat.zero_le _, Nat.zero_le _⟩
    | some x =>
      rw [tell_some hr hf]
      obtain ⟨h1, h2⟩ := tellF_len l out cs im x hf
      exact ⟨by show x.v.length ≤ N; omega, by show x.bad.length ≤ N; omega⟩
end Go.Proofs.Ytppffmmngomijaa.Tg
