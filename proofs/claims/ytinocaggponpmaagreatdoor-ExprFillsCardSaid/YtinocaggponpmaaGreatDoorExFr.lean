/-
  The law's own example: awake; a list of cells that was just made.
-/
import Derived.Test.YtinocaggponpmaaGreatDoorExW3
import Derived.Test.YtinocaggponpmaaGreatDoorExRa
namespace Go.Proofs.YtinocaggponpmaaGreatDoor.Ep
open Go.RowKit Lx

def exT : Ex := .mk 4 0 [] [.mk 0 1 [] [], .mk 6 0 [] [.mk 1 0 [120] [], .mk 0 2 [] []]]
theorem cut_ex1 : cutL [49, 32, 43, 32, 120, 32, 42, 32, 50] = ([⟨2, [49], 1, 0⟩, ⟨4, [43], 0, 2⟩, ⟨1, [120], 0, 4⟩, ⟨4, [42], 0, 6⟩, ⟨2, [50], 2, 8⟩, ⟨0, [], 0, 9⟩], 0, 0) := by kernel_rfl
theorem take_ex1 : takeT [⟨2, [49], 1, 0⟩, ⟨4, [43], 0, 2⟩, ⟨1, [120], 0, 4⟩, ⟨4, [42], 0, 6⟩, ⟨2, [50], 2, 8⟩, ⟨0, [], 0, 9⟩] = .ok exT 59 [⟨0, [], 0, 9⟩] := by kernel_rfl
theorem parse_ex1 : parseP [49, 32, 43, 32, 120, 32, 42, 32, 50] = (some exT, 0, 0) := by
  unfold parseP
  rw [cut_ex1, if_neg (by decide), take_ex1]
  rfl
theorem itoa_d (d : Nat) (h : d < 10) : Lib.itoa (d : Int) = [(48 + d).toUInt8] := by
  unfold Lib.itoa
  rw [if_neg (by omega), Int.toNat_natCast, Lib.decDigits_one h]
theorem may_ex : mayB exT = true := by decide +kernel
theorem print_ex : printE exT = [49, 32, 43, 32, 120, 32, 42, 32, 50] := by
  unfold printE
  rw [if_pos may_ex]
  unfold exT
  rw [tE2 _ _ _ _ _ rfl, tE0 _ _ _ _ rfl, tE2 _ _ _ _ _ rfl, tE0 _ _ _ _ rfl, tE0 _ _ _ _ rfl, if_pos rfl, if_neg (by decide), if_pos rfl]
  have h1 : Lib.itoa 1 = [49] := itoa_d 1 (by omega)
  have h2 : Lib.itoa 2 = [50] := itoa_d 2 (by omega)
  rw [h1, h2]
  rfl
theorem eval_ex : evalE [([120], 7)] exT = (15, 0) := by
  unfold evalE
  rw [if_pos may_ex]
  decide +kernel
theorem nums_ex : numsE exT := by simp [exT, numsE, numsL]

/-- A list of one cell, just made. -/
theorem env_one (w : World) (s : List UInt8) (n : Int) (hn : -9223372036854775808 ≤ n ∧ n ≤ 9223372036854775807) : EnvV (w.alloc (.cells #[.string ⟨s.toArray⟩, .int .i64 n] 46)) [(s, n)] (.slice (some ⟨w.heap.size, 0, none⟩) 1 1) := by
  refine ⟨⟨some ⟨w.heap.size, 0, none⟩, 1, rfl, Nat.le_refl _, fun _ => ⟨w.heap.size, 0, rfl, by simp, ?_⟩⟩, ?_, by simp⟩
  · intro k hk
    obtain rfl : k = 0 := by simpa using hk
    have hx := Box.new w 46 #[.string ⟨s.toArray⟩, .int .i64 n]
    exact ⟨hx.cell 0, hx.cell 1⟩
  · intro c hc
    simp only [List.mem_singleton] at hc
    subst hc
    exact hn
theorem env_two (w : World) (s t : List UInt8) (n m : Int) (hn : -9223372036854775808 ≤ n ∧ n ≤ 9223372036854775807) (hm : -9223372036854775808 ≤ m ∧ m ≤ 9223372036854775807) :
    EnvV (w.alloc (.cells #[.string ⟨s.toArray⟩, .int .i64 n, .string ⟨t.toArray⟩, .int .i64 m] 46)) [(s, n), (t, m)] (.slice (some ⟨w.heap.size, 0, none⟩) 2 2) := by
  refine ⟨⟨some ⟨w.heap.size, 0, none⟩, 2, rfl, Nat.le_refl _, fun _ => ⟨w.heap.size, 0, rfl, by simp, ?_⟩⟩, ?_, by simp⟩
  · have hx := Box.new w 46 #[.string ⟨s.toArray⟩, .int .i64 n, .string ⟨t.toArray⟩, .int .i64 m]
    intro k hk
    simp only [List.length_cons, List.length_nil] at hk
    have : k = 0 ∨ k = 1 := by omega
    rcases this with rfl | rfl
    · exact ⟨hx.cell 0, hx.cell 1⟩
    · exact ⟨hx.cell 2, hx.cell 3⟩
  · intro c hc
    simp only [List.mem_cons, List.not_mem_nil, or_false] at hc
    rcases hc with rfl | rfl
    · exact hn
    · exact hm

set_option maxHeartbeats 4000000 in
theorem awake_any (w : World) (hO : Ops w) (hTab : Tab w) :
    Calls Tryz.prog 6 #[] w fun e w' => e = .returned (.bool true) ∧ Below w.heap.size w w' := by
  go_enter Tryz.func6, Tryz.ntmps6
  go_wp2_with fail
  refine (Parse_any _ _ (by decide) hO).mono ?_
  rw [show (⟨#[49, 32, 43, 32, 120, 32, 42, 32, 50]⟩ : ByteArray).data.toList = [49, 32, 43, 32, 120, 32, 42, 32, 50] from rfl, parse_ex1]
  rintro e w1 ⟨v, rfl, hT, hb1⟩
  obtain ⟨a, cap, rfl, -, -⟩ := hT.open
  have hO1 := hO.below hb1 hO.lt
  have hTab1 := Tab.belowB hTab hb1 (Tab.lt hTab)
  have hx1 := Box.new w1 25 #[.int .i64 exT.op, .int .i64 exT.n, .string ⟨exT.name.toArray⟩, .slice a exT.kids.length cap]
  unfold exV
  go_wp2_with fail
  refine (Eval_any exT _ _ _ [([120], 7)] _ ((hO1.alloc _).alloc _) ((hT.alloc _).alloc _) (by have := env_one (w1.alloc (.cells #[.int .i64 exT.op, .int .i64 exT.n, .string ⟨exT.name.toArray⟩, .slice a exT.kids.length cap] 25)) [120] 7 (by omega); simpa using this) nums_ex).mono ?_
  rw [eval_ex]
  rintro e w2 ⟨rfl, hb2⟩
  have hbw2 : Below w1.heap.size w1 w2 := (((Below.refl _ _).alloc (Nat.le_refl _) _).alloc (by simp) _).trans (hb2.mono (by simp; omega))
  have hx2 := (hx1.alloc _).below hb2 (by simp; omega)
  obtain ⟨c0, c1, c2, c3, -, -, -, -⟩ := hx2.four
  have hO2 := hO1.below hbw2 hO1.lt
  have hTab2 := Tab.belowB hTab1 hbw2 (Tab.lt hTab1)
  have hT2 := TreeV.below hT hbw2 (Nat.le_refl _)
  have hxl := hx2.lt
  have hb12 := hb1.trans (hbw2.mono hb1.size)
  clear hb2 hx1 hT hO1 hTab1 hb1
  go_wp2_with fail
  refine (May_any exT _ _ _ hO2 hT2).mono ?_
  rw [may_ex]
  rintro e w3 ⟨rfl, hb3⟩
  have hx3 := hx2.below hb3 hxl
  have hO3 := hO2.below hb3 hO2.lt
  have hTab3 := Tab.belowB hTab2 hb3 (Tab.lt hTab2)
  have hT3 := TreeV.below hT2 hb3 (Nat.le_refl _)
  have hb13 := hb12.trans (hb3.mono hb12.size)
  clear c0 c1 c2 c3 hx2
  obtain ⟨c0, c1, c2, c3, -, -, -, -⟩ := hx3.four
  have hxl3 := hx3.lt
  clear hb3
  go_wp2_with fail
  refine (Print_any exT _ _ _ hO3 hTab3 hT3 nums_ex).mono ?_
  rw [print_ex]
  rintro e w4 ⟨rfl, hb4⟩
  go_wp2
  go_ret
  exact ⟨rfl, hb13.trans (hb4.mono hb13.size)⟩
end Go.Proofs.YtinocaggponpmaaGreatDoor.Ep
