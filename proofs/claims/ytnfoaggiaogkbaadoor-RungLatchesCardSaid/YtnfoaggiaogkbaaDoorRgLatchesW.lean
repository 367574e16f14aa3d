/-
  The walk of RungLatches.
-/
import Derived.Test.YtnfoaggiaogkbaaDoorRgL1
namespace Go.Proofs.YtnfoaggiaogkbaaDoor.Rg
open Go.RowKit Lx Ep

def latL (p : Nat) : List Ru := [⟨1, [97], [insO 0 [115]], some ⟨p, 0, none⟩, 1⟩, ⟨2, [97], [insO 0 [114]], some ⟨p + 1, 0, none⟩, 1⟩, ⟨1, [115], [insO 0 [115]], some ⟨p + 1 + 1, 0, none⟩, 1⟩, ⟨1, [114], [insO 0 [114]], some ⟨p + 1 + 1 + 1, 0, none⟩, 1⟩]
theorem lat_run (p : Nat) (on set reset : Bool) : runP (latL p) [on, set, reset] [] = ⟨[(on || set) && !reset, set, reset], [], []⟩ := by
  cases on <;> cases set <;> cases reset <;> kernel_rfl
theorem code_o {w : World} {g : Nat} {t : TypeId} {cs : Array Value} {op : Int} {nm : Nm} (h : Box w g t cs) (hc : cs.toList = [insO op nm].flatMap insC) : Code w (some ⟨g, 0, none⟩) [insO op nm] := code_box h hc fun i hi => by
  simp only [List.mem_singleton] at hi
  subst hi
  exact trE_o _ _ _
theorem lat_world (w1 : World) (p : Nat) (hp : w1.heap.size = p) : Rungs (((((w1.alloc (.cells #[.int .i64 0, .string ⟨#[115]⟩, .int .i64 0, .int .i64 0, .string ⟨#[]⟩, .slice none 0 0] 40)).alloc (.cells #[.int .i64 0, .string ⟨#[114]⟩, .int .i64 0, .int .i64 0, .string ⟨#[]⟩, .slice none 0 0] 40)).alloc (.cells #[.int .i64 0, .string ⟨#[115]⟩, .int .i64 0, .int .i64 0, .string ⟨#[]⟩, .slice none 0 0] 40)).alloc (.cells #[.int .i64 0, .string ⟨#[114]⟩, .int .i64 0, .int .i64 0, .string ⟨#[]⟩, .slice none 0 0] 40)).alloc (.cells #[.int .i64 1, .string ⟨#[97]⟩, .slice (some ⟨p, 0, none⟩) 1 1, .int .i64 2, .string ⟨#[97]⟩, .slice (some ⟨p + 1, 0, none⟩) 1 1, .int .i64 1, .string ⟨#[115]⟩, .slice (some ⟨p + 1 + 1, 0, none⟩) 1 1, .int .i64 1, .string ⟨#[114]⟩, .slice (some ⟨p + 1 + 1 + 1, 0, none⟩) 1 1] 43)) (some ⟨p + 1 + 1 + 1 + 1, 0, none⟩) (latL p) ∧ Below p w1 (((((w1.alloc (.cells #[.int .i64 0, .string ⟨#[115]⟩, .int .i64 0, .int .i64 0, .string ⟨#[]⟩, .slice none 0 0] 40)).alloc (.cells #[.int .i64 0, .string ⟨#[114]⟩, .int .i64 0, .int .i64 0, .string ⟨#[]⟩, .slice none 0 0] 40)).alloc (.cells #[.int .i64 0, .string ⟨#[115]⟩, .int .i64 0, .int .i64 0, .string ⟨#[]⟩, .slice none 0 0] 40)).alloc (.cells #[.int .i64 0, .string ⟨#[114]⟩, .int .i64 0, .int .i64 0, .string ⟨#[]⟩, .slice none 0 0] 40)).alloc (.cells #[.int .i64 1, .string ⟨#[97]⟩, .slice (some ⟨p, 0, none⟩) 1 1, .int .i64 2, .string ⟨#[97]⟩, .slice (some ⟨p + 1, 0, none⟩) 1 1, .int .i64 1, .string ⟨#[115]⟩, .slice (some ⟨p + 1 + 1, 0, none⟩) 1 1, .int .i64 1, .string ⟨#[114]⟩, .slice (some ⟨p + 1 + 1 + 1, 0, none⟩) 1 1] 43)) ∧ ((((((w1.alloc (.cells #[.int .i64 0, .string ⟨#[115]⟩, .int .i64 0, .int .i64 0, .string ⟨#[]⟩, .slice none 0 0] 40)).alloc (.cells #[.int .i64 0, .string ⟨#[114]⟩, .int .i64 0, .int .i64 0, .string ⟨#[]⟩, .slice none 0 0] 40)).alloc (.cells #[.int .i64 0, .string ⟨#[115]⟩, .int .i64 0, .int .i64 0, .string ⟨#[]⟩, .slice none 0 0] 40)).alloc (.cells #[.int .i64 0, .string ⟨#[114]⟩, .int .i64 0, .int .i64 0, .string ⟨#[]⟩, .slice none 0 0] 40)).alloc (.cells #[.int .i64 1, .string ⟨#[97]⟩, .slice (some ⟨p, 0, none⟩) 1 1, .int .i64 2, .string ⟨#[97]⟩, .slice (some ⟨p + 1, 0, none⟩) 1 1, .int .i64 1, .string ⟨#[115]⟩, .slice (some ⟨p + 1 + 1, 0, none⟩) 1 1, .int .i64 1, .string ⟨#[114]⟩, .slice (some ⟨p + 1 + 1 + 1, 0, none⟩) 1 1] 43))).heap.size = p + 1 + 1 + 1 + 1 + 1 := by
  have b5 : ∀ O1 O2 O3 O4 O5, Below p w1 (((((w1.alloc O1).alloc O2).alloc O3).alloc O4).alloc O5) := by
    rw [← hp]
    exact fun O1 O2 O3 O4 O5 => (((((Below.refl w1.heap.size w1).alloc (Nat.le_refl _) O1).alloc (by simp) O2).alloc (by simp; omega) O3).alloc (by simp; omega) O4).alloc (by simp; omega) O5
  have x0 : Box (w1.alloc (.cells #[.int .i64 0, .string ⟨#[115]⟩, .int .i64 0, .int .i64 0, .string ⟨#[]⟩, .slice none 0 0] 40)) (p) _ _ := box_at (by simp [hp])
  have x1 : Box ((w1.alloc (.cells #[.int .i64 0, .string ⟨#[115]⟩, .int .i64 0, .int .i64 0, .string ⟨#[]⟩, .slice none 0 0] 40)).alloc (.cells #[.int .i64 0, .string ⟨#[114]⟩, .int .i64 0, .int .i64 0, .string ⟨#[]⟩, .slice none 0 0] 40)) (p + 1) _ _ := box_at (by simp [hp])
  have x2 : Box (((w1.alloc (.cells #[.int .i64 0, .string ⟨#[115]⟩, .int .i64 0, .int .i64 0, .string ⟨#[]⟩, .slice none 0 0] 40)).alloc (.cells #[.int .i64 0, .string ⟨#[114]⟩, .int .i64 0, .int .i64 0, .string ⟨#[]⟩, .slice none 0 0] 40)).alloc (.cells #[.int .i64 0, .string ⟨#[115]⟩, .int .i64 0, .int .i64 0, .string ⟨#[]⟩, .slice none 0 0] 40)) (p + 1 + 1) _ _ := box_at (by simp [hp])
  have x3 : Box ((((w1.alloc (.cells #[.int .i64 0, .string ⟨#[115]⟩, .int .i64 0, .int .i64 0, .string ⟨#[]⟩, .slice none 0 0] 40)).alloc (.cells #[.int .i64 0, .string ⟨#[114]⟩, .int .i64 0, .int .i64 0, .string ⟨#[]⟩, .slice none 0 0] 40)).alloc (.cells #[.int .i64 0, .string ⟨#[115]⟩, .int .i64 0, .int .i64 0, .string ⟨#[]⟩, .slice none 0 0] 40)).alloc (.cells #[.int .i64 0, .string ⟨#[114]⟩, .int .i64 0, .int .i64 0, .string ⟨#[]⟩, .slice none 0 0] 40)) (p + 1 + 1 + 1) _ _ := box_at (by simp [hp])
  have x4 : Box (((((w1.alloc (.cells #[.int .i64 0, .string ⟨#[115]⟩, .int .i64 0, .int .i64 0, .string ⟨#[]⟩, .slice none 0 0] 40)).alloc (.cells #[.int .i64 0, .string ⟨#[114]⟩, .int .i64 0, .int .i64 0, .string ⟨#[]⟩, .slice none 0 0] 40)).alloc (.cells #[.int .i64 0, .string ⟨#[115]⟩, .int .i64 0, .int .i64 0, .string ⟨#[]⟩, .slice none 0 0] 40)).alloc (.cells #[.int .i64 0, .string ⟨#[114]⟩, .int .i64 0, .int .i64 0, .string ⟨#[]⟩, .slice none 0 0] 40)).alloc (.cells #[.int .i64 1, .string ⟨#[97]⟩, .slice (some ⟨p, 0, none⟩) 1 1, .int .i64 2, .string ⟨#[97]⟩, .slice (some ⟨p + 1, 0, none⟩) 1 1, .int .i64 1, .string ⟨#[115]⟩, .slice (some ⟨p + 1 + 1, 0, none⟩) 1 1, .int .i64 1, .string ⟨#[114]⟩, .slice (some ⟨p + 1 + 1 + 1, 0, none⟩) 1 1] 43)) (p + 1 + 1 + 1 + 1) _ _ := box_at (by simp [hp])
  have y0 := ((((x0.alloc (.cells #[.int .i64 0, .string ⟨#[114]⟩, .int .i64 0, .int .i64 0, .string ⟨#[]⟩, .slice none 0 0] 40)).alloc (.cells #[.int .i64 0, .string ⟨#[115]⟩, .int .i64 0, .int .i64 0, .string ⟨#[]⟩, .slice none 0 0] 40)).alloc (.cells #[.int .i64 0, .string ⟨#[114]⟩, .int .i64 0, .int .i64 0, .string ⟨#[]⟩, .slice none 0 0] 40)).alloc (.cells #[.int .i64 1, .string ⟨#[97]⟩, .slice (some ⟨p, 0, none⟩) 1 1, .int .i64 2, .string ⟨#[97]⟩, .slice (some ⟨p + 1, 0, none⟩) 1 1, .int .i64 1, .string ⟨#[115]⟩, .slice (some ⟨p + 1 + 1, 0, none⟩) 1 1, .int .i64 1, .string ⟨#[114]⟩, .slice (some ⟨p + 1 + 1 + 1, 0, none⟩) 1 1] 43))
  have y1 := (((x1.alloc (.cells #[.int .i64 0, .string ⟨#[115]⟩, .int .i64 0, .int .i64 0, .string ⟨#[]⟩, .slice none 0 0] 40)).alloc (.cells #[.int .i64 0, .string ⟨#[114]⟩, .int .i64 0, .int .i64 0, .string ⟨#[]⟩, .slice none 0 0] 40)).alloc (.cells #[.int .i64 1, .string ⟨#[97]⟩, .slice (some ⟨p, 0, none⟩) 1 1, .int .i64 2, .string ⟨#[97]⟩, .slice (some ⟨p + 1, 0, none⟩) 1 1, .int .i64 1, .string ⟨#[115]⟩, .slice (some ⟨p + 1 + 1, 0, none⟩) 1 1, .int .i64 1, .string ⟨#[114]⟩, .slice (some ⟨p + 1 + 1 + 1, 0, none⟩) 1 1] 43))
  have y2 := ((x2.alloc (.cells #[.int .i64 0, .string ⟨#[114]⟩, .int .i64 0, .int .i64 0, .string ⟨#[]⟩, .slice none 0 0] 40)).alloc (.cells #[.int .i64 1, .string ⟨#[97]⟩, .slice (some ⟨p, 0, none⟩) 1 1, .int .i64 2, .string ⟨#[97]⟩, .slice (some ⟨p + 1, 0, none⟩) 1 1, .int .i64 1, .string ⟨#[115]⟩, .slice (some ⟨p + 1 + 1, 0, none⟩) 1 1, .int .i64 1, .string ⟨#[114]⟩, .slice (some ⟨p + 1 + 1 + 1, 0, none⟩) 1 1] 43))
  have y3 := (x3.alloc (.cells #[.int .i64 1, .string ⟨#[97]⟩, .slice (some ⟨p, 0, none⟩) 1 1, .int .i64 2, .string ⟨#[97]⟩, .slice (some ⟨p + 1, 0, none⟩) 1 1, .int .i64 1, .string ⟨#[115]⟩, .slice (some ⟨p + 1 + 1, 0, none⟩) 1 1, .int .i64 1, .string ⟨#[114]⟩, .slice (some ⟨p + 1 + 1 + 1, 0, none⟩) 1 1] 43))
  refine ⟨rungs_box x4 rfl ?_, b5 _ _ _ _ _, by simp [hp]⟩
  intro r hr
  simp only [latL, List.mem_cons, List.not_mem_nil, or_false] at hr
  rcases hr with rfl | rfl | rfl | rfl
  · exact code_o y0 rfl
  · exact code_o y1 rfl
  · exact code_o y2 rfl
  · exact code_o y3 rfl

set_option maxRecDepth 100000 in
set_option maxHeartbeats 8000000 in
theorem latches_walk (on set reset : Bool) (w : World) (hT : Tabs w) : Calls Tryd.prog 8 #[.bool on, .bool set, .bool reset] w fun e w' => e = .returned (.bool true) ∧ Below w.heap.size w w' := by
  have HT := Lib.hid hT
  clear hT
  go_enter Tryd.func8, Tryd.ntmps8
  go_wp2_with fail
  refine (awake_any w HT.out).mono ?_
  rintro e w1 ⟨rfl, hb1⟩
  generalize hp : w1.heap.size = p
  obtain ⟨hR, hbW, hs3⟩ := lat_world w1 p hp
  generalize hW : (((((w1.alloc (.cells #[.int .i64 0, .string ⟨#[115]⟩, .int .i64 0, .int .i64 0, .string ⟨#[]⟩, .slice none 0 0] 40)).alloc (.cells #[.int .i64 0, .string ⟨#[114]⟩, .int .i64 0, .int .i64 0, .string ⟨#[]⟩, .slice none 0 0] 40)).alloc (.cells #[.int .i64 0, .string ⟨#[115]⟩, .int .i64 0, .int .i64 0, .string ⟨#[]⟩, .slice none 0 0] 40)).alloc (.cells #[.int .i64 0, .string ⟨#[114]⟩, .int .i64 0, .int .i64 0, .string ⟨#[]⟩, .slice none 0 0] 40)).alloc (.cells #[.int .i64 1, .string ⟨#[97]⟩, .slice (some ⟨p, 0, none⟩) 1 1, .int .i64 2, .string ⟨#[97]⟩, .slice (some ⟨p + 1, 0, none⟩) 1 1, .int .i64 1, .string ⟨#[115]⟩, .slice (some ⟨p + 1 + 1, 0, none⟩) 1 1, .int .i64 1, .string ⟨#[114]⟩, .slice (some ⟨p + 1 + 1 + 1, 0, none⟩) 1 1] 43)) = W at *
  have hB3 := hb1.trans (hbW.mono (by rw [← hp]; exact hb1.size))
  have HR := Lib.hid hR
  have HB3 := Lib.hid hB3
  have HTW := Lib.hid (HT.out.below hB3)
  clear hR hbW hB3 hb1
  go_wp2_with fail
  clear hW
  have hx5 : Box (W.alloc (.cells #[.bool on, .bool set, .bool reset] 4)) (p + 1 + 1 + 1 + 1 + 1) 4 _ := box_at hs3
  have hb5 : Below W.heap.size W (W.alloc (.cells #[.bool on, .bool set, .bool reset] 4)) := (Below.refl _ _).alloc (Nat.le_refl _) _
  refine (Run_any (latL p) (some ⟨p + 1 + 1 + 1 + 1, 0, none⟩) 4 [on, set, reset] (some ⟨p + 1 + 1 + 1 + 1 + 1, 0, none⟩) 3 [] none 0 0 _ (HTW.out.below hb5) (HR.out.below hb5) (bools_box hx5 rfl) (env_0 _) (fun r hr => by simp [latL] at hr; rcases hr with rfl | rfl | rfl | rfl <;> simp [maxLen])).mono ?_
  rintro e w2 hP
  obtain ⟨A1, c1, A2, c2, A3, c3, rfl, hQ1, -, -, hb2⟩ := run_as hP (lat_run p on set reset) (n1 := 3) (n2 := 0) (n3 := 0) rfl rfl rfl
  have hbW2 : Below W.heap.size W w2 := hb5.trans (hb2.mono hb5.size)
  have HE := Lib.hid (HB3.out.trans (hbW2.mono HB3.out.size))
  obtain ⟨g, o, e, -, hc⟩ := hQ1 (by simp)
  subst e
  have q0 := hc 0 (by simp) 0 _ rfl
  have q1 := hc 1 (by simp) 0 _ rfl
  have q2 := hc 2 (by simp) 0 _ rfl
  simp at q0 q1 q2
  clear hx5 hb5 hb2 hP hQ1 hbW2 hc HR HTW HB3
  cases on <;> cases set <;> cases reset <;> simp at q0 <;> (go_wp2; go_ret; exact ⟨rfl, HE.out⟩)
end Go.Proofs.YtnfoaggiaogkbaaDoor.Rg
