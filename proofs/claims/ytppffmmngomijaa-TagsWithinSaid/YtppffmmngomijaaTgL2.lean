/-
  The laws' awake: the chapter's examples.
-/
import Derived.Test.YtppffmmngomijaaTgL1
import Derived.Test.YtppffmmngomijaaTgW7
namespace Go.Proofs.Ytppffmmngomijaa.Tg
open Go.RowKit Lx

def strT : ByteArray := ⟨#[116]⟩
def strV : ByteArray := ⟨#[118]⟩
def pairL : List Tg := [⟨strT, false, 0, 100⟩, ⟨strV, true, 1, 5⟩]

set_option maxRecDepth 100000 in
theorem pair_any (w : World) : Calls Try.prog 29 #[] w fun e w' => e = .returned (.slice (some ⟨w.heap.size, 0, none⟩) 2 2) ∧ w' = w.alloc (.cells #[.string strT, .bool false, .int .i64 0, .int .i64 100, .string strV, .bool true, .int .i64 1, .int .i64 5] 51) := by
  unfold strT strV
  go_enter Try.func29, Try.ntmps29
  go_wp2
  go_ret
  exact ⟨rfl, rfl⟩

theorem pair_tags {w : World} {g : Nat} (h : Box w g 51 #[.string strT, .bool false, .int .i64 0, .int .i64 100, .string strV, .bool true, .int .i64 1, .int .i64 5]) : Tags w (some ⟨g, 0, none⟩) pairL := fun _ => by
  refine ⟨g, 0, rfl, h.lt, fun i hi j u hu => ?_⟩
  have : i < 2 := hi
  rw [h.cell]
  match i, hi, j, hu with
  | 0, _, 0, hu => simpa [pairL, tagC] using hu
  | 0, _, 1, hu => simpa [pairL, tagC] using hu
  | 0, _, 2, hu => simpa [pairL, tagC] using hu
  | 0, _, 3, hu => simpa [pairL, tagC] using hu
  | 0, _, j + 4, hu => simp [pairL, tagC] at hu
  | 1, _, 0, hu => simpa [pairL, tagC] using hu
  | 1, _, 1, hu => simpa [pairL, tagC] using hu
  | 1, _, 2, hu => simpa [pairL, tagC] using hu
  | 1, _, 3, hu => simpa [pairL, tagC] using hu
  | 1, _, j + 4, hu => simp [pairL, tagC] at hu

theorem pair_check : checkT pairL = 0 := by decide +kernel
theorem pair_new : newT pairL = (some ⟨[0, 1], [false, false]⟩, 0) := by
  unfold newT; rw [if_pos pair_check]; rfl
theorem pair_latch : tellT pairL ⟨[0, 1], [false, false]⟩ [(strT, 120)] false = (some ⟨[100, 1], [true, false]⟩, 0) := by
  have h1 : rightB pairL ⟨[0, 1], [false, false]⟩ = true := by decide +kernel
  have h2 : findZ pairL strT = some 0 := by decide +kernel
  refine tell_some h1 ?_
  simp only [tellF, h2]
  rfl
theorem pair_drive : tellT pairL ⟨[100, 1], [true, false]⟩ [(strV, 9)] true = (some ⟨[100, 5], [true, false]⟩, 0) := by
  have h1 : rightB pairL ⟨[100, 1], [true, false]⟩ = true := by decide +kernel
  have h2 : findZ pairL strV = some 1 := by decide +kernel
  refine tell_some h1 ?_
  simp only [tellF, h2]
  rfl

theorem of_some {x : Im} {z : Int} {w w' : World} {e : Ending} (h : ImPost (some x, z) w e w') {n m : Nat} (hn : x.v.length = n) (hm : x.bad.length = m) : ∃ A c B d, e = .returned (.tuple #[.agg #[.slice A n c, .slice B m d], .int .i64 z]) ∧ OwnIm w.heap.size w' x A c B d ∧ Below w.heap.size w w' := by
  subst hn; subst hm; exact h
theorem of_none {z : Int} {w w' : World} {e : Ending} (h : ImPost (none, z) w e w') : ∃ A c B d, e = .returned (.tuple #[.agg #[.slice A 0 c, .slice B 0 d], .int .i64 z]) ∧ OwnIm w.heap.size w' ⟨[], []⟩ A c B d ∧ Below w.heap.size w w' := h
theorem im_box {_w w1 w2 : World} {p : Nat} {y0 y1 : Value} (h : Box w1 p 28 #[y0, y1]) (hb : Below w1.heap.size w1 w2) : w2.cell? ⟨p, 0, none⟩ = some y0 ∧ w2.cell? ⟨p, 1, none⟩ = some y1 := ⟨(h.below hb h.lt).cell 0, (h.below hb h.lt).cell 1⟩
theorem cell_one {w : World} {g : Nat} {c : Cl} (h : Box w g 49 #[.string c.1, .int .i64 c.2]) : Cells w (some ⟨g, 0, none⟩) [c] := fun _ => by
  refine ⟨g, 0, rfl, h.lt, fun i hi j u hu => ?_⟩
  have : i < 1 := hi
  rw [h.cell]
  match i, hi, j, hu with
  | 0, _, 0, hu => simpa [cellC] using hu
  | 0, _, 1, hu => simpa [cellC] using hu
  | 0, _, j + 2, hu => simp [cellC] at hu

set_option maxRecDepth 100000 in
set_option maxHeartbeats 4000000 in
theorem awake_any (w : World) : Calls Try.prog 9 #[] w fun e w' => e = .returned (.bool true) ∧ Below w.heap.size w w' := by
  go_enter Try.func9, Try.ntmps9
  go_wp2_with fail
  refine (pair_any w).mono ?_
  rintro e w1 ⟨rfl, hw1⟩
  have hb1 : Below w.heap.size w w1 := hw1 ▸ (Below.refl _ w).alloc (Nat.le_refl _) _
  have hT : Tags w1 (some ⟨w.heap.size, 0, none⟩) pairL := hw1 ▸ pair_tags (Box.new w _ _)
  clear hw1
  have hN := New_any pairL _ 2 w1 (by decide) (by decide) hT
  rw [pair_new] at hN
  have HT := Lib.hid hT
  clear hT
  go_wp2_with fail
  refine hN.mono ?_
  rintro e w2 hP2
  obtain ⟨A2, c2, B2, d2, rfl, hO2, hb2⟩ := of_some hP2 (n := 2) (m := 2) rfl rfl
  have hBx2 := hb1.trans (hb2.mono hb1.size)
  have w3b : Below w2.heap.size w2 ((w2.alloc (.cells #[.slice A2 2 c2, .slice B2 2 d2] 28)).alloc (.cells #[.string ⟨#[116]⟩, .int .i64 120] 49)) := ((Below.refl _ w2).alloc (Nat.le_refl _) _).alloc (by simp) _
  have hC3 := cell_one (c := (strT, 120)) (box_at (w := w2.alloc (.cells #[.slice A2 2 c2, .slice B2 2 d2] 28)) (N := w2.heap.size + 1) (t := 49) (cs := #[.string strT, .int .i64 120]) (by simp))
  have hL := Latch_any pairL ⟨[0, 1], [false, false]⟩ [(strT, 120)] (some ⟨w.heap.size, 0, none⟩) A2 B2 (some ⟨w2.heap.size + 1, 0, none⟩) 2 c2 d2 1 _ (by decide) (by decide) (by decide) (by decide) (by decide) ((RowF.below HT.out hb2).below w3b) (hO2.below w3b).nums (hO2.below w3b).flags hC3
  rw [pair_latch] at hL
  unfold strT at hL
  go_wp2_with fail
  refine hL.mono ?_
  rintro e w3 hP3
  obtain ⟨A3, c3, B3, d3, rfl, hO3, hb3⟩ := of_some hP3 (n := 2) (m := 2) rfl rfl
  have hb3' := w3b.trans (hb3.mono w3b.size)
  have hBx3 := hBx2.trans (hb3'.mono hBx2.size)
  have w4b : Below w3.heap.size w3 ((w3.alloc (.cells #[.slice A3 2 c3, .slice B3 2 d3] 28)).alloc (.cells #[.string ⟨#[118]⟩, .int .i64 9] 49)) := ((Below.refl _ w3).alloc (Nat.le_refl _) _).alloc (by simp) _
  have hC4 := cell_one (c := (strV, 9)) (box_at (w := w3.alloc (.cells #[.slice A3 2 c3, .slice B3 2 d3] 28)) (N := w3.heap.size + 1) (t := 49) (cs := #[.string strV, .int .i64 9]) (by simp))
  have hD := Drive_any pairL ⟨[100, 1], [true, false]⟩ [(strV, 9)] (some ⟨w.heap.size, 0, none⟩) A3 B3 (some ⟨w3.heap.size + 1, 0, none⟩) 2 c3 d3 1 _ (by decide) (by decide) (by decide) (by decide) (by decide) (RowF.below (RowF.below (RowF.below HT.out hb2) hb3') w4b) (hO3.below w4b).nums (hO3.below w4b).flags hC4
  rw [pair_drive] at hD
  unfold strV at hD
  clear hP2 hP3 hL hN hC3 hC4
  go_wp2_with fail
  refine hD.mono ?_
  rintro e w5 hP5
  obtain ⟨A5, c5, B5, d5, rfl, hO5, hb5⟩ := of_some hP5 (n := 2) (m := 2) rfl rfl
  have hb5' := w4b.trans (hb5.mono w4b.size)
  have hBx5 := hBx3.trans (hb5'.mono hBx3.size)
  have w6b : Below w5.heap.size w5 (w5.alloc (.cells #[.slice A5 2 c5, .slice B5 2 d5] 28)) := (Below.refl _ w5).alloc (Nat.le_refl _) _
  obtain ⟨ga, oa, rfl, hga, n0⟩ := Nums.at1 hO5.nums (i := 0) (by decide)
  obtain ⟨ga', oa', hea, -, n1⟩ := Nums.at1 hO5.nums (i := 1) (by decide)
  obtain ⟨gb, ob, rfl, hgb, f0⟩ := Flags.at1 hO5.flags (i := 0) (by decide)
  obtain ⟨gb', ob', heb, -, f1⟩ := Flags.at1 hO5.flags (i := 1) (by decide)
  injection hea with hea
  injection heb with heb
  injection hea with hea1 hea2
  injection heb with heb1 heb2
  subst hea1; subst hea2; subst heb1; subst heb2
  simp at n0 n1 f0 f1
  have hnea : ga ≠ w5.heap.size := by omega
  have hneb : gb ≠ w5.heap.size := by omega
  clear hD hP5
  go_wp2_with fail
  go_ret
  exact ⟨rfl, hBx5.trans (w6b.mono hBx5.size)⟩
end Go.Proofs.Ytppffmmngomijaa.Tg
