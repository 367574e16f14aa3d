/-
  The walk of ChartEnds.
-/
import Derived.Test.YtadindhnaidmeaaDoorChL
namespace Go.Proofs.YtadindhnaidmeaaDoor.Ch
open Go.RowKit

theorem all_in {P : Int → Prop} (h : ∀ k : Fin 12, P (k.val : Int)) {s : Int} (hs : exB s = true) : P s := by
  rcases in12 hs with rfl | rfl | rfl | rfl | rfl | rfl | rfl | rfl | rfl | rfl | rfl | rfl
  · exact h 0
  · exact h 1
  · exact h 2
  · exact h 3
  · exact h 4
  · exact h 5
  · exact h 6
  · exact h 7
  · exact h 8
  · exact h 9
  · exact h 10
  · exact h 11
theorem done_ok {s : Int} (hs : exB s = true) : (doneP s).2 = true → exB (doneP s).1 = true ∧ edgeB s (doneP s).1 = true :=
  all_in (P := fun s => (doneP s).2 = true → exB (doneP s).1 = true ∧ edgeB s (doneP s).1 = true) (by decide +kernel) hs
theorem next_ok {s c : Int} (hs : exB s = true) (h2 : (nextP s c).2 = true) : exB (nextP s c).1 = true ∧ edgeB s (nextP s c).1 = true := by
  cases hc : comB c
  · rw [show nextP s c = (0, false) by unfold nextP; unfold comB at hc; rw [hc]; simp] at h2
    cases h2
  · rcases com8 hc with rfl | rfl | rfl | rfl | rfl | rfl | rfl | rfl
    · exact all_in (P := fun s => (nextP s 0).2 = true → exB (nextP s 0).1 = true ∧ edgeB s (nextP s 0).1 = true) (by decide +kernel) hs h2
    · exact all_in (P := fun s => (nextP s 1).2 = true → exB (nextP s 1).1 = true ∧ edgeB s (nextP s 1).1 = true) (by decide +kernel) hs h2
    · exact all_in (P := fun s => (nextP s 2).2 = true → exB (nextP s 2).1 = true ∧ edgeB s (nextP s 2).1 = true) (by decide +kernel) hs h2
    · exact all_in (P := fun s => (nextP s 3).2 = true → exB (nextP s 3).1 = true ∧ edgeB s (nextP s 3).1 = true) (by decide +kernel) hs h2
    · exact all_in (P := fun s => (nextP s 4).2 = true → exB (nextP s 4).1 = true ∧ edgeB s (nextP s 4).1 = true) (by decide +kernel) hs h2
    · exact all_in (P := fun s => (nextP s 5).2 = true → exB (nextP s 5).1 = true ∧ edgeB s (nextP s 5).1 = true) (by decide +kernel) hs h2
    · exact all_in (P := fun s => (nextP s 6).2 = true → exB (nextP s 6).1 = true ∧ edgeB s (nextP s 6).1 = true) (by decide +kernel) hs h2
    · exact all_in (P := fun s => (nextP s 7).2 = true → exB (nextP s 7).1 = true ∧ edgeB s (nextP s 7).1 = true) (by decide +kernel) hs h2

set_option maxRecDepth 100000 in
set_option maxHeartbeats 4000000 in
theorem ends_walk (s : Int) (A : Option Addr) (l : List Int) (cap : Nat) (w : World) (hA : Nums w A l) (hT : Tabs w) (hE : Ends w) : Calls Tryd.prog 6 #[.int .i64 s, .slice A l.length cap] w fun e w' => e = .returned (.bool true) ∧ Below w.heap.size w w' := by
  have HT := Lib.hid hT
  have HE := Lib.hid hE
  have HA := Lib.hid hA
  clear hT hA hE
  generalize hL : l.length = len at *
  have HL := Lib.hid hL
  clear hL
  by_cases hl : 200 < len ∨ exB s = false
  · have hx : (200 : Int) < (len : Int) ∨ (¬ (200 : Int) < (len : Int) ∧ s < 0) ∨ (¬ (200 : Int) < (len : Int) ∧ ¬ s < 0 ∧ 12 ≤ s) := by
      unfold exB at hl
      simp at hl
      omega
    clear hl
    rcases hx with h1 | ⟨h1, h2⟩ | ⟨h1, h2, h3⟩
    all_goals
      go_enter Tryd.func6, Tryd.ntmps6
      go_wp2_with fail
      refine (awake_any w HT.out).mono ?_
      rintro e w1 ⟨rfl, hb⟩
      go_wp2
      go_ret
      exact ⟨rfl, hb⟩
  · have hs : exB s = true := by
      cases h : exB s
      · exact absurd (.inr h) hl
      · rfl
    have HS := Lib.hid hs
    have d1 : decide ((200 : Int) < (len : Int)) = false := decide_eq_false (by omega)
    have d2 : decide (s < 0) = false := by unfold exB at hs; simp at hs; exact decide_eq_false (by omega)
    have d3 : decide (12 ≤ s) = false := by unfold exB at hs; simp at hs; exact decide_eq_false (by omega)
    have hlen : len ≤ 200 := by omega
    clear hl hs
    go_enter Tryd.func6, Tryd.ntmps6
    go_wp2_with fail
    refine (awake_any w HT.out).mono ?_
    rintro e w1 ⟨rfl, hb⟩
    go_wp2
    clear d1 d2 d3
    have HB := Lib.hid hb
    have HT1 := Lib.hid (HT.out.to hb)
    have HE1 := Lib.hid (HE.out.to hb)
    have HA1 := Lib.hid (HA.out.to hb)
    clear HT HE HA hb
    go_loopw [0, 6] (fun v x wr => ∃ (k : Nat) (z : Int), k ≤ len ∧ v = .int .i64 z ∧ x = .int .i64 k ∧ Hid (exB z = true) ∧ w1 = wr) (fun _ x _ => len - (intOf x).toNat)
    case atStart => exact ⟨0, s, by omega, rfl, rfl, HS, rfl⟩
    case round =>
      obtain ⟨k, z, hk, rfl, rfl, HZ, rfl⟩ := hrel
      clear HS
      by_cases hlt : k < len
      · have hki : k < l.length := by rw [HL.out]; exact hlt
        obtain ⟨g, off, rfl, hg, c0⟩ := HA1.out.at_ hki
        generalize l[k] = x at *
        have hklt : ((k : Nat) : Int) < (len : Int) := by omega
        have hD := Done_any z w1 HE1.out
        have HDk := Lib.hid (done_ok HZ.out)
        by_cases hx : 0 ≤ x
        · have hN := Next_any z x w1 HT1.out.tgt
          have HNk := Lib.hid (fun h => next_ok (c := x) HZ.out h)
          generalize doneP z = q at *
          generalize nextP z x = p at *
          obtain ⟨a, b⟩ := p
          obtain ⟨a', b'⟩ := q
          clear HDk
          cases b
          · go_wp2_with fail
            refine hD.mono ?_
            rintro e w2 ⟨rfl, rfl⟩
            go_wp2_with fail
            refine hN.mono ?_
            rintro e w2 ⟨rfl, rfl⟩
            go_wp2
            go_roundw
            case rel => exact ⟨k + 1, z, by omega, rfl, by go_num, HZ, trivial⟩
            case measure => simp [intOf]; omega
          · obtain ⟨hz1, hz2⟩ := HNk.out rfl
            have hEd := Edge_any z a w1 HT1.out.tgt HE1.out
            rw [hz2] at hEd
            have HZ1 := Lib.hid hz1
            have h2 : ¬ a < 0 := by unfold exB at hz1; simp at hz1; omega
            have h3 : ¬ 12 ≤ a := by unfold exB at hz1; simp at hz1; omega
            clear HNk hz1 hz2
            go_wp2_with fail
            refine hD.mono ?_
            rintro e w2 ⟨rfl, rfl⟩
            go_wp2_with fail
            refine hN.mono ?_
            rintro e w2 ⟨rfl, rfl⟩
            go_wp2_with fail
            refine hEd.mono ?_
            rintro e w2 ⟨rfl, rfl⟩
            go_wp2
            go_roundw
            case rel => exact ⟨k + 1, a, by omega, rfl, by go_num, HZ1, trivial⟩
            case measure => simp [intOf]; omega
        · generalize doneP z = q at *
          obtain ⟨a, b⟩ := q
          cases b
          · go_wp2_with fail
            refine hD.mono ?_
            rintro e w2 ⟨rfl, rfl⟩
            go_wp2
            go_roundw
            case rel => exact ⟨k + 1, z, by omega, rfl, by go_num, HZ, trivial⟩
            case measure => simp [intOf]; omega
          · obtain ⟨hz1, hz2⟩ := HDk.out rfl
            have hEd := Edge_any z a w1 HT1.out.tgt HE1.out
            rw [hz2] at hEd
            have HZ1 := Lib.hid hz1
            have h2 : ¬ a < 0 := by unfold exB at hz1; simp at hz1; omega
            have h3 : ¬ 12 ≤ a := by unfold exB at hz1; simp at hz1; omega
            clear HDk hz1 hz2
            go_wp2_with fail
            refine hD.mono ?_
            rintro e w2 ⟨rfl, rfl⟩
            go_wp2_with fail
            refine hEd.mono ?_
            rintro e w2 ⟨rfl, rfl⟩
            go_wp2
            go_roundw
            case rel => exact ⟨k + 1, a, by omega, rfl, by go_num, HZ1, trivial⟩
            case measure => simp [intOf]; omega
      · have hq := HZ.out
        clear HZ HA1
        rcases in12 hq with rfl | rfl | rfl | rfl | rfl | rfl | rfl | rfl | rfl | rfl | rfl | rfl
        · go_wp2_with fail
          refine (show Calls Tryd.prog 16 #[.int .i64 0] w1 (BPost true w1) from Quiet_any 0 w1).mono ?_
          rintro e w2 ⟨rfl, rfl⟩
          go_wp2
          go_ret
          exact ⟨rfl, HB.out⟩
        · go_wp2_with fail
          refine (show Calls Tryd.prog 16 #[.int .i64 1] w1 (BPost false w1) from Quiet_any 1 w1).mono ?_
          rintro e w2 ⟨rfl, rfl⟩
          go_wp2_with fail
          refine (show Calls Tryd.prog 10 #[.int .i64 1, .int .i64 6] w1 (PPost (9, true) w1) from Next_any 1 6 w1 HT1.out.tgt).mono ?_
          rintro e w2 ⟨rfl, rfl⟩
          go_wp2_with fail
          refine (show Calls Tryd.prog 12 #[.int .i64 9] w1 (PPost (10, true) w1) from Done_any 9 w1 HE1.out).mono ?_
          rintro e w2 ⟨rfl, rfl⟩
          go_wp2_with fail
          refine (show Calls Tryd.prog 16 #[.int .i64 10] w1 (BPost true w1) from Quiet_any 10 w1).mono ?_
          rintro e w2 ⟨rfl, rfl⟩
          go_wp2
          go_ret
          exact ⟨rfl, HB.out⟩
        · go_wp2_with fail
          refine (show Calls Tryd.prog 16 #[.int .i64 2] w1 (BPost false w1) from Quiet_any 2 w1).mono ?_
          rintro e w2 ⟨rfl, rfl⟩
          go_wp2_with fail
          refine (show Calls Tryd.prog 10 #[.int .i64 2, .int .i64 6] w1 (PPost (9, true) w1) from Next_any 2 6 w1 HT1.out.tgt).mono ?_
          rintro e w2 ⟨rfl, rfl⟩
          go_wp2_with fail
          refine (show Calls Tryd.prog 12 #[.int .i64 9] w1 (PPost (10, true) w1) from Done_any 9 w1 HE1.out).mono ?_
          rintro e w2 ⟨rfl, rfl⟩
          go_wp2_with fail
          refine (show Calls Tryd.prog 16 #[.int .i64 10] w1 (BPost true w1) from Quiet_any 10 w1).mono ?_
          rintro e w2 ⟨rfl, rfl⟩
          go_wp2
          go_ret
          exact ⟨rfl, HB.out⟩
        · go_wp2_with fail
          refine (show Calls Tryd.prog 16 #[.int .i64 3] w1 (BPost false w1) from Quiet_any 3 w1).mono ?_
          rintro e w2 ⟨rfl, rfl⟩
          go_wp2_with fail
          refine (show Calls Tryd.prog 10 #[.int .i64 3, .int .i64 6] w1 (PPost (9, true) w1) from Next_any 3 6 w1 HT1.out.tgt).mono ?_
          rintro e w2 ⟨rfl, rfl⟩
          go_wp2_with fail
          refine (show Calls Tryd.prog 12 #[.int .i64 9] w1 (PPost (10, true) w1) from Done_any 9 w1 HE1.out).mono ?_
          rintro e w2 ⟨rfl, rfl⟩
          go_wp2_with fail
          refine (show Calls Tryd.prog 16 #[.int .i64 10] w1 (BPost true w1) from Quiet_any 10 w1).mono ?_
          rintro e w2 ⟨rfl, rfl⟩
          go_wp2
          go_ret
          exact ⟨rfl, HB.out⟩
        · go_wp2_with fail
          refine (show Calls Tryd.prog 16 #[.int .i64 4] w1 (BPost false w1) from Quiet_any 4 w1).mono ?_
          rintro e w2 ⟨rfl, rfl⟩
          go_wp2_with fail
          refine (show Calls Tryd.prog 10 #[.int .i64 4, .int .i64 6] w1 (PPost (9, true) w1) from Next_any 4 6 w1 HT1.out.tgt).mono ?_
          rintro e w2 ⟨rfl, rfl⟩
          go_wp2_with fail
          refine (show Calls Tryd.prog 12 #[.int .i64 9] w1 (PPost (10, true) w1) from Done_any 9 w1 HE1.out).mono ?_
          rintro e w2 ⟨rfl, rfl⟩
          go_wp2_with fail
          refine (show Calls Tryd.prog 16 #[.int .i64 10] w1 (BPost true w1) from Quiet_any 10 w1).mono ?_
          rintro e w2 ⟨rfl, rfl⟩
          go_wp2
          go_ret
          exact ⟨rfl, HB.out⟩
        · go_wp2_with fail
          refine (show Calls Tryd.prog 16 #[.int .i64 5] w1 (BPost false w1) from Quiet_any 5 w1).mono ?_
          rintro e w2 ⟨rfl, rfl⟩
          go_wp2_with fail
          refine (show Calls Tryd.prog 10 #[.int .i64 5, .int .i64 6] w1 (PPost (9, true) w1) from Next_any 5 6 w1 HT1.out.tgt).mono ?_
          rintro e w2 ⟨rfl, rfl⟩
          go_wp2_with fail
          refine (show Calls Tryd.prog 12 #[.int .i64 9] w1 (PPost (10, true) w1) from Done_any 9 w1 HE1.out).mono ?_
          rintro e w2 ⟨rfl, rfl⟩
          go_wp2_with fail
          refine (show Calls Tryd.prog 16 #[.int .i64 10] w1 (BPost true w1) from Quiet_any 10 w1).mono ?_
          rintro e w2 ⟨rfl, rfl⟩
          go_wp2
          go_ret
          exact ⟨rfl, HB.out⟩
        · go_wp2_with fail
          refine (show Calls Tryd.prog 16 #[.int .i64 6] w1 (BPost false w1) from Quiet_any 6 w1).mono ?_
          rintro e w2 ⟨rfl, rfl⟩
          go_wp2_with fail
          refine (show Calls Tryd.prog 10 #[.int .i64 6, .int .i64 6] w1 (PPost (9, true) w1) from Next_any 6 6 w1 HT1.out.tgt).mono ?_
          rintro e w2 ⟨rfl, rfl⟩
          go_wp2_with fail
          refine (show Calls Tryd.prog 12 #[.int .i64 9] w1 (PPost (10, true) w1) from Done_any 9 w1 HE1.out).mono ?_
          rintro e w2 ⟨rfl, rfl⟩
          go_wp2_with fail
          refine (show Calls Tryd.prog 16 #[.int .i64 10] w1 (BPost true w1) from Quiet_any 10 w1).mono ?_
          rintro e w2 ⟨rfl, rfl⟩
          go_wp2
          go_ret
          exact ⟨rfl, HB.out⟩
        · go_wp2_with fail
          refine (show Calls Tryd.prog 16 #[.int .i64 7] w1 (BPost false w1) from Quiet_any 7 w1).mono ?_
          rintro e w2 ⟨rfl, rfl⟩
          go_wp2_with fail
          refine (show Calls Tryd.prog 10 #[.int .i64 7, .int .i64 6] w1 (PPost (9, true) w1) from Next_any 7 6 w1 HT1.out.tgt).mono ?_
          rintro e w2 ⟨rfl, rfl⟩
          go_wp2_with fail
          refine (show Calls Tryd.prog 12 #[.int .i64 9] w1 (PPost (10, true) w1) from Done_any 9 w1 HE1.out).mono ?_
          rintro e w2 ⟨rfl, rfl⟩
          go_wp2_with fail
          refine (show Calls Tryd.prog 16 #[.int .i64 10] w1 (BPost true w1) from Quiet_any 10 w1).mono ?_
          rintro e w2 ⟨rfl, rfl⟩
          go_wp2
          go_ret
          exact ⟨rfl, HB.out⟩
        · go_wp2_with fail
          refine (show Calls Tryd.prog 16 #[.int .i64 8] w1 (BPost true w1) from Quiet_any 8 w1).mono ?_
          rintro e w2 ⟨rfl, rfl⟩
          go_wp2
          go_ret
          exact ⟨rfl, HB.out⟩
        · go_wp2_with fail
          refine (show Calls Tryd.prog 16 #[.int .i64 9] w1 (BPost false w1) from Quiet_any 9 w1).mono ?_
          rintro e w2 ⟨rfl, rfl⟩
          go_wp2_with fail
          refine (show Calls Tryd.prog 10 #[.int .i64 9, .int .i64 6] w1 (PPost (0, false) w1) from Next_any 9 6 w1 HT1.out.tgt).mono ?_
          rintro e w2 ⟨rfl, rfl⟩
          go_wp2_with fail
          refine (show Calls Tryd.prog 12 #[.int .i64 9] w1 (PPost (10, true) w1) from Done_any 9 w1 HE1.out).mono ?_
          rintro e w2 ⟨rfl, rfl⟩
          go_wp2_with fail
          refine (show Calls Tryd.prog 16 #[.int .i64 10] w1 (BPost true w1) from Quiet_any 10 w1).mono ?_
          rintro e w2 ⟨rfl, rfl⟩
          go_wp2
          go_ret
          exact ⟨rfl, HB.out⟩
        · go_wp2_with fail
          refine (show Calls Tryd.prog 16 #[.int .i64 10] w1 (BPost true w1) from Quiet_any 10 w1).mono ?_
          rintro e w2 ⟨rfl, rfl⟩
          go_wp2
          go_ret
          exact ⟨rfl, HB.out⟩
        · go_wp2_with fail
          refine (show Calls Tryd.prog 16 #[.int .i64 11] w1 (BPost true w1) from Quiet_any 11 w1).mono ?_
          rintro e w2 ⟨rfl, rfl⟩
          go_wp2
          go_ret
          exact ⟨rfl, HB.out⟩
end Go.Proofs.YtadindhnaidmeaaDoor.Ch
