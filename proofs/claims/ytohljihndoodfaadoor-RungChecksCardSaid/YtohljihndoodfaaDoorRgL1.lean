/-
  What all laws of layer 9 do first: below and awake answer; memory just made.
-/
import Derived.Test.YtohljihndoodfaaDoorRgWc
import Derived.Laws.ResultCell
namespace Go.Proofs.YtohljihndoodfaaDoor.Rg
open Go.RowKit Lx Ep

theorem box_at {w : World} {N : Nat} {t : TypeId} {cs : Array Value} (h : w.heap.size = N) : Box (w.alloc (.cells cs t)) N t cs := by
  subst h; exact Box.new _ _ _
theorem RowF.of_box {α : Type} {size : Nat} {f : α → List Value} (hf : ∀ a, (f a).length = size) {w : World} {g : Nat} {t : TypeId} {cs : Array Value} {l : List α} (h : Box w g t cs) (hc : cs.toList = l.flatMap f) : RowF size f w (some ⟨g, 0, none⟩) l := fun _ =>
  ⟨g, 0, rfl, h.lt, fun i hi j u hu => by
    have := flat_get hf l i hi j u hu
    rw [← hc] at this
    rw [h.cell]
    simpa using this⟩
theorem code_box {w : World} {g : Nat} {t : TypeId} {cs : Array Value} {l : List In} (h : Box w g t cs) (hc : cs.toList = l.flatMap insC) (hl : ∀ i ∈ l, TrE w i) : Code w (some ⟨g, 0, none⟩) l := ⟨RowF.of_box (f := insC) (fun _ => rfl) h hc, hl⟩
theorem rungs_box {w : World} {g : Nat} {t : TypeId} {cs : Array Value} {l : List Ru} (h : Box w g t cs) (hc : cs.toList = l.flatMap ruC) (hl : ∀ r ∈ l, Code w r.ca r.code) : Rungs w (some ⟨g, 0, none⟩) l := ⟨RowF.of_box (f := ruC) (fun _ => rfl) h hc, hl⟩
/-- An instruction without an expression. -/
def insO (op : Int) (nm : Nm) : In := ⟨op, nm, .mk 0 0 [] [], none, 0⟩
theorem trE_o (w : World) (op : Int) (nm : Nm) : TrE w (insO op nm) := ⟨by unfold insO exOf; rw [TreeV]; exact ⟨none, 0, rfl, Nat.le_refl _, fun h => absurd rfl h⟩, by simp [insO, numsE, numsL]⟩
def ltE (nm : Nm) (n : Int) : Ex := .mk 9 0 [] [.mk 1 0 nm [], .mk 0 n [] []]
theorem bools_box {w : World} {g : Nat} {t : TypeId} {cs : Array Value} {l : List Bool} (h : Box w g t cs) (hc : cs.toList = l.flatMap boolC) : Bools w (some ⟨g, 0, none⟩) l := RowF.of_box (f := boolC) (fun _ => rfl) h hc
theorem strs_box {w : World} {g : Nat} {t : TypeId} {cs : Array Value} {l : List Nm} (h : Box w g t cs) (hc : cs.toList = l.flatMap strC) : Strs w (some ⟨g, 0, none⟩) l := RowF.of_box (f := strC) (fun _ => rfl) h hc

theorem tree_lt {W : World} {g : Nat} {t : TypeId} {nm : Nm} {n : Int} (hx : Box W g t #[.int .i64 1, .int .i64 0, .string ⟨nm.toArray⟩, .slice none 0 0, .int .i64 0, .int .i64 n, .string ⟨#[]⟩, .slice none 0 0]) : TreeV (fun _ => True) W (ltE nm n) (exV 9 0 [] (some ⟨g, 0, none⟩) 2 2) := by
  unfold ltE
  rw [TreeV]
  refine ⟨some ⟨g, 0, none⟩, 2, rfl, Nat.le_refl _, fun _ => ⟨g, 0, rfl, trivial, hx.lt, ?_⟩⟩
  rw [TreeL, TreeL, TreeL]
  refine ⟨⟨none, 0, hx.cell 0, hx.cell 1, hx.cell 2, hx.cell 3, ?_⟩, ⟨none, 0, hx.cell 4, hx.cell 5, hx.cell 6, hx.cell 7, ?_⟩, trivial⟩
  · rw [TreeV]; exact ⟨none, 0, rfl, Nat.le_refl _, fun h => absurd rfl h⟩
  · rw [TreeV]; exact ⟨none, 0, rfl, Nat.le_refl _, fun h => absurd rfl h⟩
def BlPost (nm : Nm) (n : Int) (w : World) (e : Ending) (w' : World) : Prop := ∃ g, e = .returned (.agg #[.int .i64 2, .string ⟨#[]⟩, .int .i64 9, .int .i64 0, .string ⟨#[]⟩, .slice (some ⟨g, 0, none⟩) 2 2]) ∧ TrE w' ⟨2, [], ltE nm n, some ⟨g, 0, none⟩, 2⟩ ∧ Below w.heap.size w w'
set_option maxRecDepth 100000 in
set_option maxHeartbeats 2000000 in
theorem below_any (nm : Nm) (n : Int) (hn : -9223372036854775808 ≤ n ∧ n ≤ 9223372036854775807) (w : World) : Calls Tryd.prog 24 #[.string ⟨nm.toArray⟩, .int .i64 n] w (BlPost nm n w) := by
  go_enter Tryd.func24, Tryd.ntmps24
  go_wp2
  have hx : Box ((w.alloc (.cells #[.int .i64 2, .string ⟨#[]⟩, .int .i64 9, .int .i64 0, .string ⟨#[]⟩, .slice (some ⟨w.heap.size + 1, 0, none⟩) 2 2] 40)).alloc (.cells #[.int .i64 1, .int .i64 0, .string ⟨nm.toArray⟩, .slice none 0 0, .int .i64 0, .int .i64 n, .string ⟨#[]⟩, .slice none 0 0] 34)) (w.heap.size + 1) 34 _ := box_at (by simp)
  have hy := (Box.new w 40 #[.int .i64 2, .string ⟨#[]⟩, .int .i64 9, .int .i64 0, .string ⟨#[]⟩, .slice (some ⟨w.heap.size + 1, 0, none⟩) 2 2]).alloc (.cells #[.int .i64 1, .int .i64 0, .string ⟨nm.toArray⟩, .slice none 0 0, .int .i64 0, .int .i64 n, .string ⟨#[]⟩, .slice none 0 0] 34)
  have hb := ((Below.refl w.heap.size w).alloc (Nat.le_refl _) (.cells #[.int .i64 2, .string ⟨#[]⟩, .int .i64 9, .int .i64 0, .string ⟨#[]⟩, .slice (some ⟨w.heap.size + 1, 0, none⟩) 2 2] 40)).alloc (by simp) (.cells #[.int .i64 1, .int .i64 0, .string ⟨nm.toArray⟩, .slice none 0 0, .int .i64 0, .int .i64 n, .string ⟨#[]⟩, .slice none 0 0] 34)
  have y0 := hy.cell 0
  have y1 := hy.cell 1
  have y2 := hy.cell 2
  have y3 := hy.cell 3
  have y4 := hy.cell 4
  have y5 := hy.cell 5
  simp at y0 y1 y2 y3 y4 y5
  exact bodyPost_ret (v := insV ⟨2, [], ltE nm n, some ⟨w.heap.size + 1, 0, none⟩, 2⟩) (by simp [results, Tryd.results24, go_sem, insV, ltE, Ex.op, Ex.n, Ex.name, Ex.kids]) rfl ⟨_, rfl, ⟨tree_lt hx, by simp [ltE, numsE, numsL]; exact hn⟩, hb⟩

theorem run_as {s : Sc} {b : List Bool} {h r : List Nm} {n1 n2 n3 : Nat} {w w' : World} {e : Ending} (hp : RunPost s w e w') (hs : s = ⟨b, h, r⟩) (h1 : b.length = n1) (h2 : h.length = n2) (h3 : r.length = n3) :
    ∃ A1 c1 A2 c2 A3 c3, e = .returned (.tuple #[.slice A1 n1 c1, .slice A2 n2 c2, .slice A3 n3 c3]) ∧ Bools w' A1 b ∧ Strs w' A2 h ∧ Strs w' A3 r ∧ Below w.heap.size w w' := by
  subst hs h1 h2 h3
  exact hp
def heatN : Nm := [104, 101, 97, 116]
def awI (g : Nat) : In := ⟨2, [], ltE [116] 70, some ⟨g, 0, none⟩, 2⟩
def awL (g p : Nat) : List Ru := [⟨3, heatN, [awI g], some ⟨p, 0, none⟩, 1⟩, ⟨0, [98], [insO 0 [98], insO 9 []], some ⟨p + 1, 0, none⟩, 2⟩]
theorem aw_run (g p : Nat) : runP (awL g p) [false] [([116], 80)] = ⟨[true], [heatN], []⟩ := by kernel_rfl
theorem aw_check (g p : Nat) : checkP (awL g p) (fun x => decide (x ∈ [[116]])) (fun x => decide (x ∈ [heatN])) = 0 := by kernel_rfl
theorem aw_check2 (g p : Nat) : checkP (awL g p) (fun x => decide (x ∈ [[116]])) (fun x => decide (x ∈ ([] : List Nm))) = 21 := by kernel_rfl
theorem env_1 {w : World} {g : Nat} {t : TypeId} {s : Nm} {n : Int} (hx : Box w g t #[.string ⟨s.toArray⟩, .int .i64 n]) (hn : -9223372036854775808 ≤ n ∧ n ≤ 9223372036854775807) : EnvV w [(s, n)] (.slice (some ⟨g, 0, none⟩) 1 1) := by
  refine ⟨⟨some ⟨g, 0, none⟩, 1, rfl, Nat.le_refl _, fun _ => ⟨g, 0, rfl, hx.lt, ?_⟩⟩, ?_, by simp⟩
  · intro k hk
    obtain rfl : k = 0 := by simpa using hk
    exact ⟨hx.cell 0, hx.cell 1⟩
  · intro c hc
    simp only [List.mem_singleton] at hc
    subst hc
    exact hn
theorem env_0 (w : World) : EnvV w [] (.slice none 0 0) := ⟨⟨none, 0, rfl, Nat.le_refl _, fun h => absurd rfl h⟩, fun c hc => absurd hc (by simp), by simp⟩

theorem aw_world (w1 : World) (g p : Nat) (hp : w1.heap.size = p) (hI : TrE w1 (awI g)) : Rungs (((w1.alloc (.cells #[.int .i64 2, .string ⟨#[]⟩, .int .i64 9, .int .i64 0, .string ⟨#[]⟩, .slice (some ⟨g, 0, none⟩) 2 2] 40)).alloc (.cells #[.int .i64 0, .string ⟨#[98]⟩, .int .i64 0, .int .i64 0, .string ⟨#[]⟩, .slice none 0 0, .int .i64 9, .string ⟨#[]⟩, .int .i64 0, .int .i64 0, .string ⟨#[]⟩, .slice none 0 0] 40)).alloc (.cells #[.int .i64 3, .string ⟨#[104, 101, 97, 116]⟩, .slice (some ⟨p, 0, none⟩) 1 1, .int .i64 0, .string ⟨#[98]⟩, .slice (some ⟨p + 1, 0, none⟩) 2 2] 43)) (some ⟨p + 1 + 1, 0, none⟩) (awL g p) ∧ Below p w1 (((w1.alloc (.cells #[.int .i64 2, .string ⟨#[]⟩, .int .i64 9, .int .i64 0, .string ⟨#[]⟩, .slice (some ⟨g, 0, none⟩) 2 2] 40)).alloc (.cells #[.int .i64 0, .string ⟨#[98]⟩, .int .i64 0, .int .i64 0, .string ⟨#[]⟩, .slice none 0 0, .int .i64 9, .string ⟨#[]⟩, .int .i64 0, .int .i64 0, .string ⟨#[]⟩, .slice none 0 0] 40)).alloc (.cells #[.int .i64 3, .string ⟨#[104, 101, 97, 116]⟩, .slice (some ⟨p, 0, none⟩) 1 1, .int .i64 0, .string ⟨#[98]⟩, .slice (some ⟨p + 1, 0, none⟩) 2 2] 43)) ∧ (((w1.alloc (.cells #[.int .i64 2, .string ⟨#[]⟩, .int .i64 9, .int .i64 0, .string ⟨#[]⟩, .slice (some ⟨g, 0, none⟩) 2 2] 40)).alloc (.cells #[.int .i64 0, .string ⟨#[98]⟩, .int .i64 0, .int .i64 0, .string ⟨#[]⟩, .slice none 0 0, .int .i64 9, .string ⟨#[]⟩, .int .i64 0, .int .i64 0, .string ⟨#[]⟩, .slice none 0 0] 40)).alloc (.cells #[.int .i64 3, .string ⟨#[104, 101, 97, 116]⟩, .slice (some ⟨p, 0, none⟩) 1 1, .int .i64 0, .string ⟨#[98]⟩, .slice (some ⟨p + 1, 0, none⟩) 2 2] 43)).heap.size = p + 1 + 1 + 1 := by
  have b3 : ∀ O1 O2 O3, Below p w1 (((w1.alloc O1).alloc O2).alloc O3) := by
    rw [← hp]
    exact fun O1 O2 O3 => (((Below.refl w1.heap.size w1).alloc (Nat.le_refl _) O1).alloc (by simp) O2).alloc (by simp; omega) O3
  have x1 : Box (w1.alloc (.cells #[.int .i64 2, .string ⟨#[]⟩, .int .i64 9, .int .i64 0, .string ⟨#[]⟩, .slice (some ⟨g, 0, none⟩) 2 2] 40)) p _ _ := box_at hp
  have x2 : Box ((w1.alloc (.cells #[.int .i64 2, .string ⟨#[]⟩, .int .i64 9, .int .i64 0, .string ⟨#[]⟩, .slice (some ⟨g, 0, none⟩) 2 2] 40)).alloc (.cells #[.int .i64 0, .string ⟨#[98]⟩, .int .i64 0, .int .i64 0, .string ⟨#[]⟩, .slice none 0 0, .int .i64 9, .string ⟨#[]⟩, .int .i64 0, .int .i64 0, .string ⟨#[]⟩, .slice none 0 0] 40)) (p + 1) _ _ := box_at (by simp [hp])
  have x3 : Box (((w1.alloc (.cells #[.int .i64 2, .string ⟨#[]⟩, .int .i64 9, .int .i64 0, .string ⟨#[]⟩, .slice (some ⟨g, 0, none⟩) 2 2] 40)).alloc (.cells #[.int .i64 0, .string ⟨#[98]⟩, .int .i64 0, .int .i64 0, .string ⟨#[]⟩, .slice none 0 0, .int .i64 9, .string ⟨#[]⟩, .int .i64 0, .int .i64 0, .string ⟨#[]⟩, .slice none 0 0] 40)).alloc (.cells #[.int .i64 3, .string ⟨#[104, 101, 97, 116]⟩, .slice (some ⟨p, 0, none⟩) 1 1, .int .i64 0, .string ⟨#[98]⟩, .slice (some ⟨p + 1, 0, none⟩) 2 2] 43)) (p + 1 + 1) _ _ := box_at (by simp [hp])
  have y1 := (x1.alloc (.cells #[.int .i64 0, .string ⟨#[98]⟩, .int .i64 0, .int .i64 0, .string ⟨#[]⟩, .slice none 0 0, .int .i64 9, .string ⟨#[]⟩, .int .i64 0, .int .i64 0, .string ⟨#[]⟩, .slice none 0 0] 40)).alloc (.cells #[.int .i64 3, .string ⟨#[104, 101, 97, 116]⟩, .slice (some ⟨p, 0, none⟩) 1 1, .int .i64 0, .string ⟨#[98]⟩, .slice (some ⟨p + 1, 0, none⟩) 2 2] 43)
  have y2 := x2.alloc (.cells #[.int .i64 3, .string ⟨#[104, 101, 97, 116]⟩, .slice (some ⟨p, 0, none⟩) 1 1, .int .i64 0, .string ⟨#[98]⟩, .slice (some ⟨p + 1, 0, none⟩) 2 2] 43)
  refine ⟨rungs_box x3 rfl ?_, b3 _ _ _, by simp [hp]⟩
  intro r hr
  simp only [awL, List.mem_cons, List.not_mem_nil, or_false] at hr
  rcases hr with rfl | rfl
  · refine code_box y1 rfl ?_
    intro i hi
    simp only [List.mem_singleton] at hi
    subst hi
    exact hI.below (by rw [hp]; exact b3 _ _ _)
  · refine code_box y2 rfl ?_
    intro i hi
    simp only [List.mem_cons, List.not_mem_nil, or_false] at hi
    rcases hi with rfl | rfl
    · exact trE_o _ _ _
    · exact trE_o _ _ _

set_option maxRecDepth 100000 in
set_option maxHeartbeats 8000000 in
theorem awake_any (w : World) (hT : Tabs w) : Calls Tryd.prog 8 #[] w fun e w' => e = .returned (.bool true) ∧ Below w.heap.size w w' := by
  have HT := Lib.hid hT
  clear hT
  go_enter Tryd.func8, Tryd.ntmps8
  go_wp2_with fail
  refine (below_any [116] 70 (by omega) w).mono ?_
  rintro e w1 ⟨g, rfl, hI, hb1⟩
  generalize hp : w1.heap.size = p
  obtain ⟨hR, hbW, hs3⟩ := aw_world w1 g p hp hI
  generalize hW : (((w1.alloc (.cells #[.int .i64 2, .string ⟨#[]⟩, .int .i64 9, .int .i64 0, .string ⟨#[]⟩, .slice (some ⟨g, 0, none⟩) 2 2] 40)).alloc (.cells #[.int .i64 0, .string ⟨#[98]⟩, .int .i64 0, .int .i64 0, .string ⟨#[]⟩, .slice none 0 0, .int .i64 9, .string ⟨#[]⟩, .int .i64 0, .int .i64 0, .string ⟨#[]⟩, .slice none 0 0] 40)).alloc (.cells #[.int .i64 3, .string ⟨#[104, 101, 97, 116]⟩, .slice (some ⟨p, 0, none⟩) 1 1, .int .i64 0, .string ⟨#[98]⟩, .slice (some ⟨p + 1, 0, none⟩) 2 2] 43)) = W at *
  have hB3 := hb1.trans (hbW.mono (by rw [← hp]; exact hb1.size))
  have HR := Lib.hid hR
  have HB3 := Lib.hid hB3
  have HTW := Lib.hid (HT.out.below hB3)
  clear hR hbW hB3 hb1 hI
  go_wp2_with fail
  clear hW
  have hx4 := (box_at (t := 4) (cs := #[.bool false]) hs3).alloc (.cells #[.string ⟨#[116]⟩, .int .i64 80] 56)
  have hx5 : Box ((W.alloc (.cells #[.bool false] 4)).alloc (.cells #[.string ⟨#[116]⟩, .int .i64 80] 56)) (p + 1 + 1 + 1 + 1) 56 _ := box_at (by simp [hs3])
  have hb5 : Below W.heap.size W ((W.alloc (.cells #[.bool false] 4)).alloc (.cells #[.string ⟨#[116]⟩, .int .i64 80] 56)) := ((Below.refl _ _).alloc (Nat.le_refl _) _).alloc (by simp) _
  refine (Run_any (awL g p) (some ⟨p + 1 + 1, 0, none⟩) 2 [false] (some ⟨p + 1 + 1 + 1, 0, none⟩) 1 [([116], 80)] (some ⟨p + 1 + 1 + 1 + 1, 0, none⟩) 1 1 _ (HTW.out.below hb5) (HR.out.below hb5) (bools_box hx4 rfl) (env_1 hx5 (by omega)) (fun r hr => by simp [awL] at hr; rcases hr with rfl | rfl <;> simp [heatN, maxLen])).mono ?_
  rintro e w2 hP
  obtain ⟨A1, c1, A2, c2, A3, c3, rfl, hQ1, hQ2, -, hb2⟩ := run_as hP (aw_run g p) (n1 := 1) (n2 := 1) (n3 := 0) rfl rfl rfl
  have hbW2 : Below W.heap.size W w2 := hb5.trans (hb2.mono hb5.size)
  have HQ1 := Lib.hid hQ1
  have HQ2 := Lib.hid hQ2
  have HBW2 := Lib.hid hbW2
  clear hx4 hx5 hb5 hb2 hP hQ1 hQ2 hbW2
  go_wp2_with fail
  have hq1 : ∀ w', Below W.heap.size W w' → Rungs w' (some ⟨p + 1 + 1, 0, none⟩) (awL g p) := fun w' hb => HR.out.below hb
  generalize hp2 : w2.heap.size = p2 at *
  have x1 := (box_at (w := w2) (t := 9) (cs := #[.string ⟨#[116]⟩]) hp2).alloc (.cells #[.string ⟨#[104, 101, 97, 116]⟩] 9)
  have x2 : Box ((w2.alloc (.cells #[.string ⟨#[116]⟩] 9)).alloc (.cells #[.string ⟨#[104, 101, 97, 116]⟩] 9)) (p2 + 1) 9 _ := box_at (by simp [hp2])
  have hb4 : Below W.heap.size W ((w2.alloc (.cells #[.string ⟨#[116]⟩] 9)).alloc (.cells #[.string ⟨#[104, 101, 97, 116]⟩] 9)) := (HBW2.out.alloc HBW2.out.size _).alloc (by have := HBW2.out.size; simp; omega) _
  have hC1 := Check_any (awL g p) (some ⟨p + 1 + 1, 0, none⟩) 2 [[116]] [heatN] (some ⟨p2, 0, none⟩) (some ⟨p2 + 1, 0, none⟩) 1 1 _ (HTW.out.below hb4) (HR.out.below hb4) (strs_box x1 rfl) (strs_box x2 rfl) (by simp) (by simp) (fun r hr => by simp [awL] at hr; rcases hr with rfl | rfl <;> simp [heatN, maxLen])
  rw [aw_check] at hC1
  refine hC1.mono ?_
  rintro e w3 ⟨rfl, hb3⟩
  have hbW3 := hb4.trans (hb3.mono hb4.size)
  have HBW3 := Lib.hid hbW3
  have HB23 := Lib.hid ((((Below.refl w2.heap.size w2).alloc (Nat.le_refl _) (.cells #[.string ⟨#[116]⟩] 9)).alloc (by simp) (.cells #[.string ⟨#[104, 101, 97, 116]⟩] 9)).trans (hb3.mono (by simp; omega)))
  clear x1 x2 hC1 hb4 hb3 hbW3 hp2
  go_wp2_with fail
  have x3 := Box.new w3 9 #[.string ⟨#[116]⟩]
  have hb5 := HBW3.out.alloc HBW3.out.size (.cells #[.string ⟨#[116]⟩] 9)
  have hC2 := Check_any (awL g p) (some ⟨p + 1 + 1, 0, none⟩) 2 [[116]] [] (some ⟨w3.heap.size, 0, none⟩) none 1 0 _ (HTW.out.below hb5) (HR.out.below hb5) (strs_box x3 rfl) RowF.nil_ (by simp) (by simp) (fun r hr => by simp [awL] at hr; rcases hr with rfl | rfl <;> simp [heatN, maxLen])
  rw [aw_check2] at hC2
  refine hC2.mono ?_
  rintro e w4 ⟨rfl, hb6⟩
  have hb24 := HB23.out.trans ((((Below.refl w3.heap.size w3).alloc (Nat.le_refl _) (.cells #[.string ⟨#[116]⟩] 9)).trans (hb6.mono (by simp))).mono HB23.out.size)
  have hbW4 := hb5.trans (hb6.mono hb5.size)
  obtain ⟨g1, o1, rfl, -, q1⟩ := Bools.at1 (HQ1.out.below hb24) (i := 0) (by decide)
  obtain ⟨g2, o2, rfl, -, q2⟩ := Strs.at1 (HQ2.out.below hb24) (i := 0) (by decide)
  simp [heatN] at q1 q2
  have HE := Lib.hid (HB3.out.trans (hbW4.mono HB3.out.size))
  clear hC2 x3 hb5 hb6 hb24 hbW4 hq1
  go_wp2
  go_ret
  exact ⟨rfl, HE.out⟩
end Go.Proofs.YtohljihndoodfaaDoor.Rg
