/-
  ExprDivides: of any two numbers the law answers true.
-/
import Derived.Test.YtdjmicgmphbjmaaDoorExL0
namespace Go.Proofs.YtdjmicgmphbjmaaDoor.Ep
open Go.RowKit Lx

theorem twoZ7 (a b : Int) : twoZ 7 a b = quoZ a b := rfl
theorem twoZ8 (a b : Int) : twoZ 8 a b = remZ a b := rfl
theorem div_facts (a b : Int) (ha0 : -9223372036854775808 ≤ a) (ha1 : a ≤ 9223372036854775807) (hb : b ≠ 0) (hn : ¬ (a = -9223372036854775808 ∧ b = -1)) :
    twoZ 7 a b = (Int.tdiv a b, 0) ∧ twoZ 8 a b = (Int.tmod a b, 0) ∧ twoZ 6 (Int.tdiv a b) b = (Int.tdiv a b * b, 0) ∧ twoZ 4 (Int.tdiv a b * b) (Int.tmod a b) = (a, 0) ∧
    (0 ≤ a → 0 ≤ Int.tmod a b) ∧ (a ≤ 0 → Int.tmod a b ≤ 0) ∧ (0 < b → Int.tmod a b < b ∧ -b < Int.tmod a b) ∧ (b < 0 → b < Int.tmod a b ∧ Int.tmod a b < -b) ∧
    (-9223372036854775808 ≤ Int.tdiv a b ∧ Int.tdiv a b ≤ 9223372036854775807) ∧ (-9223372036854775808 ≤ Int.tdiv a b * b ∧ Int.tdiv a b * b ≤ 9223372036854775807) ∧ (-9223372036854775808 ≤ Int.tmod a b ∧ Int.tmod a b ≤ 9223372036854775807) := by
  have hq : -9223372036854775808 ≤ Int.tdiv a b ∧ Int.tdiv a b ≤ 9223372036854775807 := by
    by_cases h1 : b = -1
    · subst h1
      rw [Int.tdiv_neg, Int.tdiv_one]
      omega
    · exact tdiv_bd a b ha0 ha1 hb h1
  have hr := tmod_bd a b ha0 ha1
  have he : Int.tdiv a b * b + Int.tmod a b = a := by rw [Int.mul_comm]; exact Int.mul_tdiv_add_tmod a b
  have hm : (Int.tmod a b).natAbs < b.natAbs := by
    rw [show (Int.tmod a b).natAbs = a.natAbs % b.natAbs from Int.natAbs_tmod a b]; exact Nat.mod_lt _ (by omega)
  have h1 : 0 ≤ a → 0 ≤ Int.tmod a b := fun h => Int.tmod_nonneg b h
  have h2 : a ≤ 0 → Int.tmod a b ≤ 0 := fun h => by
    have h4 : (-a).tmod b = -(a.tmod b) := Int.neg_tmod ..
    have h5 := Int.tmod_nonneg (a := -a) b (by omega)
    omega
  have e7 : twoZ 7 a b = (Int.tdiv a b, 0) := by
    rw [twoZ7]; unfold quoZ; rw [if_neg hb, chk_in hq]
  have e8 : twoZ 8 a b = (Int.tmod a b, 0) := by
    rw [twoZ8]; unfold remZ; rw [if_neg hb]
  generalize Int.tmod a b = r at *
  generalize Int.tdiv a b = q at *
  have hp : -9223372036854775808 ≤ q * b ∧ q * b ≤ 9223372036854775807 := by
    generalize q * b = p at *
    omega
  refine ⟨e7, e8, ?_, ?_, h1, h2, by omega, by omega, hq, hp, hr⟩
  · exact chk_in hp
  · show chk (q * b + r) = _
    rw [he, chk_in ⟨ha0, ha1⟩]

set_option maxRecDepth 100000 in
set_option maxHeartbeats 8000000 in
theorem divides_any (a b : Int) (w : World) (ha0 : -9223372036854775808 ≤ a) (ha1 : a ≤ 9223372036854775807) (hb0 : -9223372036854775808 ≤ b) (hb1 : b ≤ 9223372036854775807) (hTab : Tab w) (hO : Ops w) :
    Calls Tryd.prog 8 #[.int .i64 a, .int .i64 b] w fun e w' => e = .returned (.bool true) ∧ Below w.heap.size w w' := by
  go_enter Tryd.func8, Tryd.ntmps8
  go_wp2_with fail
  refine (awake_any _ hO hTab).mono ?_
  rintro e w1 ⟨rfl, hb1'⟩
  have hO1 := hO.below hb1' hO.lt
  have hE1 := env_two w1 [97] [98] a b ⟨ha0, ha1⟩ ⟨hb0, hb1⟩
  have hbE : Below w1.heap.size w1 (w1.alloc (.cells #[.string ⟨#[97]⟩, .int .i64 a, .string ⟨#[98]⟩, .int .i64 b] 42)) := (Below.refl _ _).alloc (Nat.le_refl _) _
  have HE := Lib.hid hE1
  have HB := Lib.hid hbE
  clear hE1 hbE
  go_wp2_with fail
  refine (pair_law 7 _).mono ?_
  rintro e w2 ⟨g2, rfl, hT2, hb2⟩
  have hb02 := hb1'.trans ((HB.out.trans (hb2.mono (by simp))).mono hb1'.size)
  have hE2 := HE.out.below hb2 (Nat.le_refl _)
  have hO2 := (hO1.alloc _).below hb2 (hO1.alloc _).lt
  clear hb1' HE HB
  go_wp2_with fail
  refine (pair_eval 7 a b (by omega) _ _ _ _ hO2 hT2 hE2).mono ?_
  rintro e w3 ⟨rfl, hb3⟩
  have hb03 := hb02.trans (hb3.mono hb02.size)
  have hE3 := hE2.below hb3 (Nat.le_refl _)
  have hO3 := hO2.below hb3 hO2.lt
  clear hb2 hb3 hT2 hE2 hb02
  go_wp2_with fail
  refine (pair_law 8 _).mono ?_
  rintro e w4 ⟨g4, rfl, hT4, hb4⟩
  have hb04 := hb03.trans (hb4.mono hb03.size)
  have hE4 := hE3.below hb4 (Nat.le_refl _)
  have hO4 := hO3.below hb4 hO3.lt
  clear hb4 hE3 hO3
  go_wp2_with fail
  refine (pair_eval 8 a b (by omega) _ _ _ _ hO4 hT4 hE4).mono ?_
  rintro e w5 ⟨rfl, hb5⟩
  have hb05 := hb04.trans (hb5.mono hb04.size)
  have hO5 := hO4.below hb5 hO4.lt
  clear hb5 hE4 hT4 hb04 hb03
  by_cases hb : b = 0
  · have e7 : twoZ 7 a b = (0, 23) := by rw [twoZ7]; unfold quoZ; rw [if_pos hb]
    have e8 : twoZ 8 a b = (0, 23) := by rw [twoZ8]; unfold remZ; rw [if_pos hb]
    rw [e7, e8]
    have d : (b == 0) = true := by simpa using hb
    clear hb e7 e8
    go_wp2
    go_ret
    exact ⟨rfl, hb05⟩
  · have d : (b == 0) = false := by simpa using hb
    by_cases hn : a = -9223372036854775808 ∧ b = -1
    · obtain ⟨rfl, rfl⟩ := hn
      have e7 : twoZ 7 (-9223372036854775808) (-1) = (0, 22) := by decide +kernel
      have e8 : twoZ 8 (-9223372036854775808) (-1) = (0, 0) := by decide +kernel
      rw [e7, e8]
      clear hb e7 e8
      go_wp2
      go_ret
      exact ⟨rfl, hb05⟩
    · obtain ⟨e7, e8, e6, e4, h1, h2, h3, h4, hq, hp, hr⟩ := div_facts a b ha0 ha1 hb hn
      rw [e7, e8]
      have H6 := Lib.hid e6
      have H4 := Lib.hid e4
      clear e6 e4 e7 e8 hn hb
      generalize Int.tmod a b = r at *
      generalize Int.tdiv a b = q at *
      generalize hpp : q * b = p at *
      clear hpp
      have g1 : ¬ (0 < r ∧ a < 0) := by omega
      have g2 : ¬ (r < 0 ∧ 0 < a) := by omega
      go_wp2_with fail
      all_goals
        refine (pair_law 6 _).mono ?_
        rintro e w6 ⟨g6, rfl, hT6, hb6⟩
        have hb06 := hb05.trans (hb6.mono hb05.size)
        have hO6 := hO5.below hb6 hO5.lt
        have hE6 := env_two w6 [97] [98] q b hq ⟨hb0, hb1⟩
        have hT6' := hT6.alloc (.cells #[.string ⟨#[97]⟩, .int .i64 q, .string ⟨#[98]⟩, .int .i64 b] 42)
        have hbE : Below w6.heap.size w6 (w6.alloc (.cells #[.string ⟨#[97]⟩, .int .i64 q, .string ⟨#[98]⟩, .int .i64 b] 42)) := (Below.refl _ _).alloc (Nat.le_refl _) _
        have HE6 := Lib.hid hE6
        have HB6 := Lib.hid hbE
        clear hb6 hT6 hE6 hbE
        go_wp2_with fail
        refine (pair_eval 6 q b (by omega) _ _ _ _ (hO6.alloc _) hT6' HE6.out).mono ?_
        rintro e w7 ⟨rfl, hb7⟩
        rw [H6.out]
        have hb07 := hb06.trans ((HB6.out.trans (hb7.mono (by simp))).mono hb06.size)
        have hO7 := (hO6.alloc _).below hb7 (hO6.alloc _).lt
        clear hb7 hT6' HE6 HB6 hO6 hb06
        go_wp2_with fail
        refine (pair_law 4 _).mono ?_
        rintro e w8 ⟨g8, rfl, hT8, hb8⟩
        have hb08 := hb07.trans (hb8.mono hb07.size)
        have hO8 := hO7.below hb8 hO7.lt
        have hE8 := env_two w8 [97] [98] p r hp hr
        have hT8' := hT8.alloc (.cells #[.string ⟨#[97]⟩, .int .i64 p, .string ⟨#[98]⟩, .int .i64 r] 42)
        have hbF : Below w8.heap.size w8 (w8.alloc (.cells #[.string ⟨#[97]⟩, .int .i64 p, .string ⟨#[98]⟩, .int .i64 r] 42)) := (Below.refl _ _).alloc (Nat.le_refl _) _
        have HE8 := Lib.hid hE8
        have HB8 := Lib.hid hbF
        clear hb8 hT8 hE8 hbF hO7 hb07
        go_wp2_with fail
        refine (pair_eval 4 p r (by omega) _ _ _ _ (hO8.alloc _) hT8' HE8.out).mono ?_
        rintro e w9 ⟨rfl, hb9⟩
        rw [H4.out]
        have hb09 := hb08.trans ((HB8.out.trans (hb9.mono (by simp))).mono hb08.size)
        clear hb9 hT8' HE8 HB8 hO8 hb08 H6 H4
        by_cases hpos : 0 < b
        · have j1 := (h3 hpos).1
          have j2 := (h3 hpos).2
          have k1 : decide (r < b) = true := by simpa using j1
          go_wp2
          all_goals go_ret
          all_goals first | exact ⟨rfl, hb09⟩ | (exfalso; omega) | exact ⟨ret_bool (by simp; omega), hb09⟩
        · have hneg : b < 0 := by simp at d; omega
          have j1 := (h4 hneg).1
          have j2 := (h4 hneg).2
          go_wp2
          all_goals go_ret
          all_goals first | exact ⟨rfl, hb09⟩ | (exfalso; omega) | exact ⟨ret_bool (by simp; omega), hb09⟩
end Go.Proofs.YtdjmicgmphbjmaaDoor.Ep
