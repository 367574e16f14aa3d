/-
  Contracts of Latch and Drive.
-/
import Derived.Test.YtppffmmngomijaaTgW5
namespace Go.Proofs.Ytppffmmngomijaa.Tg
open Go.RowKit Lx

set_option maxRecDepth 100000 in
set_option maxHeartbeats 2000000 in
theorem Latch_any (l : List Tg) (im : Im) (cs : List Cl) (a A B ca : Option Addr) (cap c d ccap : Nat) (w : World) (hl : l.length ≤ 1000000) (hn : im.v.length ≤ 1000000) (hm : im.bad.length ≤ 1000000) (hc : cs.length ≤ 1000000) (hcap : l.length ≤ cap) (hT : Tags w a l) (hV : Nums w A im.v) (hB : Flags w B im.bad) (hC : Cells w ca cs) :
    Calls Try.prog 20 #[.slice a l.length cap, .agg #[.slice A im.v.length c, .slice B im.bad.length d], .slice ca cs.length ccap] w (ImPost (tellT l im cs false) w) := by
  have hw : Below w.heap.size w ((w.alloc (.cells #[.slice A im.v.length c, .slice B im.bad.length d] 28)).alloc (.cells #[.slice none 0 0, .slice none 0 0] 28)) := ((Below.refl _ w).alloc (Nat.le_refl _) _).alloc (by simp) _
  have hCh := change_any l im cs false a A B ca cap c d ccap _ hl hn hm hc hcap (hT.below hw) (hV.below hw) (hB.below hw) (hC.below hw)
  clear hT hV hB hC
  generalize tellT l im cs false = X at *
  generalize l.length = len at *
  generalize im.v.length = n at *
  generalize im.bad.length = m at *
  generalize cs.length = len2 at *
  go_enter Try.func20, Try.ntmps20
  go_wp2_with fail
  refine hCh.mono ?_
  rintro e w1 ⟨A', c', B', d', rfl, hO, hb1⟩
  have hx := (box_at (w := w.alloc (.cells #[.slice A n c, .slice B m d] 28)) (N := w.heap.size + 1) (t := 28) (cs := #[.slice none 0 0, .slice none 0 0]) (by simp)).below hb1 (by simp only [World.alloc, Array.size_push]; omega)
  have hb0 := below_new (below_new hb1)
  have hO2 := own_im2 hx (by decide) (by decide) hO (.slice A' (ansI X).v.length c') (.slice B' (ansI X).bad.length d')
  have hF := ((hb0.setCell (p := ⟨w.heap.size + 1, 0, none⟩) (by simp) (.slice A' (ansI X).v.length c')).setCell (p := ⟨w.heap.size + 1, 1, none⟩) (by simp) (.slice B' (ansI X).bad.length d'))
  have hy := two_set hx (.slice A' (ansI X).v.length c') (.slice B' (ansI X).bad.length d')
  have e0 := hx.cell 0
  have e1 := hx.cell 1
  have f0 := hx.frozen 0
  have f1 := hx.frozen 1
  have r0 := hy.cell 0
  have r1 := hy.cell 1
  simp at e0 e1 r0 r1
  have HE : Hid (ImPost X w (.returned (.tuple #[.agg #[.slice A' (ansI X).v.length c', .slice B' (ansI X).bad.length d'], .int .i64 X.2])) ((w1.setCell ⟨w.heap.size + 1, 0, none⟩ (.slice A' (ansI X).v.length c')).setCell ⟨w.heap.size + 1, 1, none⟩ (.slice B' (ansI X).bad.length d'))) :=
    ⟨A', c', B', d', rfl, ⟨own_less hO2.1 (by simp only [World.alloc, Array.size_push]; omega), own_less hO2.2 (by simp only [World.alloc, Array.size_push]; omega)⟩, hF⟩
  clear hO hb1 hx hO2 hF hy
  generalize (ansI X).v.length = n' at *
  generalize (ansI X).bad.length = m' at *
  generalize hz : X.2 = z at *
  clear hz
  go_wp2_with fail
  exact bodyPost_ret (v := .tuple #[.agg #[.slice A' n' c', .slice B' m' d'], .int .i64 z]) (by simp [results, Try.results20, go_sem, r0, r1]) rfl HE.out
set_option maxRecDepth 100000 in
set_option maxHeartbeats 2000000 in
theorem Drive_any (l : List Tg) (im : Im) (cs : List Cl) (a A B ca : Option Addr) (cap c d ccap : Nat) (w : World) (hl : l.length ≤ 1000000) (hn : im.v.length ≤ 1000000) (hm : im.bad.length ≤ 1000000) (hc : cs.length ≤ 1000000) (hcap : l.length ≤ cap) (hT : Tags w a l) (hV : Nums w A im.v) (hB : Flags w B im.bad) (hC : Cells w ca cs) :
    Calls Try.prog 22 #[.slice a l.length cap, .agg #[.slice A im.v.length c, .slice B im.bad.length d], .slice ca cs.length ccap] w (ImPost (tellT l im cs true) w) := by
  have hw : Below w.heap.size w ((w.alloc (.cells #[.slice A im.v.length c, .slice B im.bad.length d] 28)).alloc (.cells #[.slice none 0 0, .slice none 0 0] 28)) := ((Below.refl _ w).alloc (Nat.le_refl _) _).alloc (by simp) _
  have hCh := change_any l im cs true a A B ca cap c d ccap _ hl hn hm hc hcap (hT.below hw) (hV.below hw) (hB.below hw) (hC.below hw)
  clear hT hV hB hC
  generalize tellT l im cs true = X at *
  generalize l.length = len at *
  generalize im.v.length = n at *
  generalize im.bad.length = m at *
  generalize cs.length = len2 at *
  go_enter Try.func22, Try.ntmps22
  go_wp2_with fail
  refine hCh.mono ?_
  rintro e w1 ⟨A', c', B', d', rfl, hO, hb1⟩
  have hx := (box_at (w := w.alloc (.cells #[.slice A n c, .slice B m d] 28)) (N := w.heap.size + 1) (t := 28) (cs := #[.slice none 0 0, .slice none 0 0]) (by simp)).below hb1 (by simp only [World.alloc, Array.size_push]; omega)
  have hb0 := below_new (below_new hb1)
  have hO2 := own_im2 hx (by decide) (by decide) hO (.slice A' (ansI X).v.length c') (.slice B' (ansI X).bad.length d')
  have hF := ((hb0.setCell (p := ⟨w.heap.size + 1, 0, none⟩) (by simp) (.slice A' (ansI X).v.length c')).setCell (p := ⟨w.heap.size + 1, 1, none⟩) (by simp) (.slice B' (ansI X).bad.length d'))
  have hy := two_set hx (.slice A' (ansI X).v.length c') (.slice B' (ansI X).bad.length d')
  have e0 := hx.cell 0
  have e1 := hx.cell 1
  have f0 := hx.frozen 0
  have f1 := hx.frozen 1
  have r0 := hy.cell 0
  have r1 := hy.cell 1
  simp at e0 e1 r0 r1
  have HE : Hid (ImPost X w (.returned (.tuple #[.agg #[.slice A' (ansI X).v.length c', .slice B' (ansI X).bad.length d'], .int .i64 X.2])) ((w1.setCell ⟨w.heap.size + 1, 0, none⟩ (.slice A' (ansI X).v.length c')).setCell ⟨w.heap.size + 1, 1, none⟩ (.slice B' (ansI X).bad.length d'))) :=
    ⟨A', c', B', d', rfl, ⟨own_less hO2.1 (by simp only [World.alloc, Array.size_push]; omega), own_less hO2.2 (by simp only [World.alloc, Array.size_push]; omega)⟩, hF⟩
  clear hO hb1 hx hO2 hF hy
  generalize (ansI X).v.length = n' at *
  generalize (ansI X).bad.length = m' at *
  generalize hz : X.2 = z at *
  clear hz
  go_wp2_with fail
  exact bodyPost_ret (v := .tuple #[.agg #[.slice A' n' c', .slice B' m' d'], .int .i64 z]) (by simp [results, Try.results22, go_sem, r0, r1]) rfl HE.out
end Go.Proofs.Ytppffmmngomijaa.Tg
