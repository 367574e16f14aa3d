/-
  Contracts of the document's answers: Next, Done, Acting, Quiet, Cold, Edge, Stronger, Name, Word.
-/
import Derived.Test.YtadindhnaidmeaaDoorChW2
namespace Go.Proofs.YtadindhnaidmeaaDoor.Ch
open Go.RowKit

theorem out12 {s : Int} (h : exB s = false) : (s == 0) = false ∧ (s == 1) = false ∧ (s == 2) = false ∧ (s == 3) = false ∧ (s == 4) = false ∧ (s == 5) = false ∧ (s == 6) = false ∧ (s == 7) = false ∧ (s == 8) = false ∧ (s == 9) = false ∧ (s == 10) = false ∧ (s == 11) = false := by
  unfold exB at h
  simp at h
  simp
  omega
theorem out8 {s : Int} (h : comB s = false) : (s == 0) = false ∧ (s == 1) = false ∧ (s == 2) = false ∧ (s == 3) = false ∧ (s == 4) = false ∧ (s == 5) = false ∧ (s == 6) = false ∧ (s == 7) = false := by
  unfold comB at h
  simp at h
  simp
  omega
theorem next_out {s c : Int} (h : exB s = false) : nextP s c = (0, false) := by
  unfold nextP hasB
  rw [h]
  simp
theorem next_com {s c : Int} (h : comB c = false) : nextP s c = (0, false) := by
  unfold nextP
  unfold comB at h
  rw [h]
  simp

set_option maxRecDepth 100000 in
set_option maxHeartbeats 4000000 in
theorem refNext_any (s c : Int) (w : World) : Calls Tryd.prog 11 #[.int .i64 s, .int .i64 c] w (PPost (nextP s c) w) := by
  cases he : exB s
  · rw [next_out he]
    obtain ⟨d0, d1, d2, d3, d4, d5, d6, d7, d8, d9, d10, d11⟩ := out12 he
    clear he
    go_enter Tryd.func11, Tryd.ntmps11
    go_wp2
    all_goals go_ret2
    all_goals exact ⟨rfl, rfl⟩
  · cases hc : comB c
    · rw [next_com hc]
      obtain ⟨d0, d1, d2, d3, d4, d5, d6, d7⟩ := out8 hc
      clear hc
      rcases in12 he with rfl | rfl | rfl | rfl | rfl | rfl | rfl | rfl | rfl | rfl | rfl | rfl
      all_goals
        go_enter Tryd.func11, Tryd.ntmps11
        go_wp2
        go_ret2
        exact ⟨rfl, rfl⟩
    · rcases in12 he with rfl | rfl | rfl | rfl | rfl | rfl | rfl | rfl | rfl | rfl | rfl | rfl
      all_goals rcases com8 hc with rfl | rfl | rfl | rfl | rfl | rfl | rfl | rfl
      all_goals
        go_enter Tryd.func11, Tryd.ntmps11
        go_wp2
        go_ret2
        exact ⟨rfl, rfl⟩

set_option maxRecDepth 100000 in
theorem refDone_any (s : Int) (w : World) : Calls Tryd.prog 13 #[.int .i64 s] w (PPost (doneP s) w) := by
  generalize hX : doneP s = X
  have HX := Lib.hid hX
  clear hX
  go_enter Tryd.func13, Tryd.ntmps13
  go_wp2
  all_goals go_ret2
  all_goals
    refine ⟨?_, rfl⟩
    rw [← HX.out]
    unfold doneP
    simp_all
theorem done_act (s : Int) : (doneP s).2 = actB s := by
  cases he : exB s
  · have h1 : actB s = false := by unfold actB hasB; rw [he]; rfl
    rw [h1]
    obtain ⟨d0, d1, d2, d3, d4, d5, d6, d7, d8, d9, d10, d11⟩ := out12 he
    unfold doneP
    simp_all
  · rcases in12 he with rfl | rfl | rfl | rfl | rfl | rfl | rfl | rfl | rfl | rfl | rfl | rfl <;> decide
set_option maxRecDepth 100000 in
theorem refActing_any (s : Int) (w : World) : Calls Tryd.prog 15 #[.int .i64 s] w (BPost (actB s) w) := by
  have h1 := refDone_any s w
  rw [← done_act s]
  generalize doneP s = p at *
  go_enter Tryd.func15, Tryd.ntmps15
  go_wp2_with fail
  refine h1.mono ?_
  rintro e w1 ⟨rfl, rfl⟩
  go_wp2
  go_ret
  exact ⟨rfl, rfl⟩
set_option maxRecDepth 100000 in
theorem refQuiet_any (s : Int) (w : World) : Calls Tryd.prog 17 #[.int .i64 s] w (BPost (quietB s) w) := by
  cases he : exB s
  · have h1 : quietB s = false := by unfold quietB hasB; rw [he]; rfl
    rw [h1]
    obtain ⟨d0, d1, d2, d3, d4, d5, d6, d7, d8, d9, d10, d11⟩ := out12 he
    clear he h1
    go_enter Tryd.func17, Tryd.ntmps17
    go_wp2
    go_ret
    exact ⟨ret_bool (by simp_all), rfl⟩
  · rcases in12 he with rfl | rfl | rfl | rfl | rfl | rfl | rfl | rfl | rfl | rfl | rfl | rfl
    all_goals
      go_enter Tryd.func17, Tryd.ntmps17
      go_wp2
      go_ret
      exact ⟨rfl, rfl⟩
set_option maxRecDepth 100000 in
theorem refCold_any (s : Int) (w : World) : Calls Tryd.prog 19 #[.int .i64 s] w (IPost (coldP s) w) := by
  generalize hX : coldP s = X
  have HX := Lib.hid hX
  clear hX
  go_enter Tryd.func19, Tryd.ntmps19
  go_wp2
  all_goals go_ret
  all_goals
    refine ⟨ret_int ?_, rfl⟩
    rw [← HX.out]
    unfold coldP
    simp_all
    try omega

theorem name_out {s : Int} (h : exB s = false) : nameP s = [] := by unfold nameP; rw [if_neg (by unfold exB at h; simp at h; omega)]
theorem word_out {s : Int} (h : comB s = false) : wordP s = [] := by unfold wordP; rw [if_neg (by unfold comB at h; simp at h; omega)]
set_option maxRecDepth 100000 in
theorem refName_any (s : Int) (w : World) : Calls Tryd.prog 27 #[.int .i64 s] w fun e w' => e = .returned (.string ⟨(nameP s).toArray⟩) ∧ w = w' := by
  cases he : exB s
  · rw [name_out he]
    obtain ⟨d0, d1, d2, d3, d4, d5, d6, d7, d8, d9, d10, d11⟩ := out12 he
    clear he
    go_enter Tryd.func27, Tryd.ntmps27
    go_wp2
    go_ret
    exact ⟨rfl, rfl⟩
  · rcases in12 he with rfl | rfl | rfl | rfl | rfl | rfl | rfl | rfl | rfl | rfl | rfl | rfl
    all_goals
      go_enter Tryd.func27, Tryd.ntmps27
      go_wp2
      go_ret
      exact ⟨rfl, rfl⟩
set_option maxRecDepth 100000 in
theorem refWord_any (s : Int) (w : World) : Calls Tryd.prog 29 #[.int .i64 s] w fun e w' => e = .returned (.string ⟨(wordP s).toArray⟩) ∧ w = w' := by
  cases he : comB s
  · rw [word_out he]
    obtain ⟨d0, d1, d2, d3, d4, d5, d6, d7⟩ := out8 he
    clear he
    go_enter Tryd.func29, Tryd.ntmps29
    go_wp2
    go_ret
    exact ⟨rfl, rfl⟩
  · rcases com8 he with rfl | rfl | rfl | rfl | rfl | rfl | rfl | rfl
    all_goals
      go_enter Tryd.func29, Tryd.ntmps29
      go_wp2
      go_ret
      exact ⟨rfl, rfl⟩
end Go.Proofs.YtadindhnaidmeaaDoor.Ch
