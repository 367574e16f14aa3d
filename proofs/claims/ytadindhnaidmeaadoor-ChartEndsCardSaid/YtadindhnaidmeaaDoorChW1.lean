/-
  Contracts of exists, command, has, Next, Done, Acting, Quiet, Cold.
-/
import Derived.Test.YtadindhnaidmeaaDoorChB
namespace Go.Proofs.YtadindhnaidmeaaDoor.Ch
open Go.RowKit

def BPost (b : Bool) (w : World) (e : Ending) (w' : World) : Prop := e = .returned (.bool b) ∧ w = w'
def IPost (n : Int) (w : World) (e : Ending) (w' : World) : Prop := e = .returned (.int .i64 n) ∧ w = w'
def PPost (p : Int × Bool) (w : World) (e : Ending) (w' : World) : Prop := e = .returned (.tuple #[.int .i64 p.1, .bool p.2]) ∧ w = w'
def comB (c : Int) : Bool := decide (0 ≤ c) && decide (c < 8)

set_option maxRecDepth 100000 in
theorem exists_any (s : Int) (w : World) : Calls Tryd.prog 34 #[.int .i64 s] w (BPost (exB s) w) := by
  go_enter Tryd.func34, Tryd.ntmps34
  go_wp2
  all_goals go_ret
  all_goals exact ⟨ret_bool (by unfold exB; simp; try omega), rfl⟩
set_option maxRecDepth 100000 in
theorem command_any (s : Int) (w : World) : Calls Tryd.prog 30 #[.int .i64 s] w (BPost (comB s) w) := by
  go_enter Tryd.func30, Tryd.ntmps30
  go_wp2
  all_goals go_ret
  all_goals exact ⟨ret_bool (by unfold comB; simp; try omega), rfl⟩
theorem in12 {s : Int} (h : exB s = true) : s = 0 ∨ s = 1 ∨ s = 2 ∨ s = 3 ∨ s = 4 ∨ s = 5 ∨ s = 6 ∨ s = 7 ∨ s = 8 ∨ s = 9 ∨ s = 10 ∨ s = 11 := by
  unfold exB at h; simp at h; omega
set_option maxRecDepth 100000 in
theorem has_any (n : Nat) (hn : n < 65536) (s : Int) (w : World) : Calls Tryd.prog 31 #[.int .u16 (n : Int), .int .i64 s] w (BPost (hasB n s) w) := by
  by_cases hs : exB s = true
  · rcases in12 hs with rfl | rfl | rfl | rfl | rfl | rfl | rfl | rfl | rfl | rfl | rfl | rfl
    · go_enter Tryd.func31, Tryd.ntmps31
      go_wp2_with fail
      refine (exists_any _ w).mono ?_
      rintro e w1 ⟨rfl, rfl⟩
      go_wp2
      go_ret
      exact ⟨ret_bool (has_bit0 n hn), rfl⟩
    · go_enter Tryd.func31, Tryd.ntmps31
      go_wp2_with fail
      refine (exists_any _ w).mono ?_
      rintro e w1 ⟨rfl, rfl⟩
      go_wp2
      go_ret
      exact ⟨ret_bool (has_bit n 1 2 rfl hn), rfl⟩
    · go_enter Tryd.func31, Tryd.ntmps31
      go_wp2_with fail
      refine (exists_any _ w).mono ?_
      rintro e w1 ⟨rfl, rfl⟩
      go_wp2
      go_ret
      exact ⟨ret_bool (has_bit n 2 4 rfl hn), rfl⟩
    · go_enter Tryd.func31, Tryd.ntmps31
      go_wp2_with fail
      refine (exists_any _ w).mono ?_
      rintro e w1 ⟨rfl, rfl⟩
      go_wp2
      go_ret
      exact ⟨ret_bool (has_bit n 3 8 rfl hn), rfl⟩
    · go_enter Tryd.func31, Tryd.ntmps31
      go_wp2_with fail
      refine (exists_any _ w).mono ?_
      rintro e w1 ⟨rfl, rfl⟩
      go_wp2
      go_ret
      exact ⟨ret_bool (has_bit n 4 16 rfl hn), rfl⟩
    · go_enter Tryd.func31, Tryd.ntmps31
      go_wp2_with fail
      refine (exists_any _ w).mono ?_
      rintro e w1 ⟨rfl, rfl⟩
      go_wp2
      go_ret
      exact ⟨ret_bool (has_bit n 5 32 rfl hn), rfl⟩
    · go_enter Tryd.func31, Tryd.ntmps31
      go_wp2_with fail
      refine (exists_any _ w).mono ?_
      rintro e w1 ⟨rfl, rfl⟩
      go_wp2
      go_ret
      exact ⟨ret_bool (has_bit n 6 64 rfl hn), rfl⟩
    · go_enter Tryd.func31, Tryd.ntmps31
      go_wp2_with fail
      refine (exists_any _ w).mono ?_
      rintro e w1 ⟨rfl, rfl⟩
      go_wp2
      go_ret
      exact ⟨ret_bool (has_bit n 7 128 rfl hn), rfl⟩
    · go_enter Tryd.func31, Tryd.ntmps31
      go_wp2_with fail
      refine (exists_any _ w).mono ?_
      rintro e w1 ⟨rfl, rfl⟩
      go_wp2
      go_ret
      exact ⟨ret_bool (has_bit n 8 256 rfl hn), rfl⟩
    · go_enter Tryd.func31, Tryd.ntmps31
      go_wp2_with fail
      refine (exists_any _ w).mono ?_
      rintro e w1 ⟨rfl, rfl⟩
      go_wp2
      go_ret
      exact ⟨ret_bool (has_bit n 9 512 rfl hn), rfl⟩
    · go_enter Tryd.func31, Tryd.ntmps31
      go_wp2_with fail
      refine (exists_any _ w).mono ?_
      rintro e w1 ⟨rfl, rfl⟩
      go_wp2
      go_ret
      exact ⟨ret_bool (has_bit n 10 1024 rfl hn), rfl⟩
    · go_enter Tryd.func31, Tryd.ntmps31
      go_wp2_with fail
      refine (exists_any _ w).mono ?_
      rintro e w1 ⟨rfl, rfl⟩
      go_wp2
      go_ret
      exact ⟨ret_bool (has_bit n 11 2048 rfl hn), rfl⟩
  · have hs' : exB s = false := by simpa using hs
    have hX : hasB n s = false := by unfold hasB; rw [hs']; rfl
    rw [hX]
    have hE := exists_any s w
    rw [hs'] at hE
    clear hs hs' hX
    go_enter Tryd.func31, Tryd.ntmps31
    go_wp2_with fail
    refine hE.mono ?_
    rintro e w1 ⟨rfl, rfl⟩
    go_wp2
    go_ret
    exact ⟨rfl, rfl⟩

theorem com8 {c : Int} (h : comB c = true) : c = 0 ∨ c = 1 ∨ c = 2 ∨ c = 3 ∨ c = 4 ∨ c = 5 ∨ c = 6 ∨ c = 7 := by
  unfold comB at h; simp at h; omega
set_option maxRecDepth 100000 in
set_option maxHeartbeats 2000000 in
theorem Next_any (s c : Int) (w : World) (hT : Blk w 0 tgtC) : Calls Tryd.prog 10 #[.int .i64 s, .int .i64 c] w (PPost (nextP s c) w) := by
  by_cases hc : comB c = true
  · rcases com8 hc with rfl | rfl | rfl | rfl | rfl | rfl | rfl | rfl
    · have hH := has_any 1 (by decide) s w
      have c1 := hT.cell 0
      have c2 := hT.cell 1
      simp [tgtC] at c1 c2
      have hX : nextP s 0 = if hasB 1 s = true then (1, true) else (0, false) := rfl
      cases hb : hasB 1 s
      all_goals
        rw [hb] at hX hH
        simp only [if_true, Bool.false_eq_true, if_false] at hX
        rw [hX]
        clear hX hc hT hb
        go_enter Tryd.func10, Tryd.ntmps10
        go_wp2_with fail
        refine (command_any _ w).mono ?_
        rintro e w1 ⟨rfl, rfl⟩
        go_wp2_with fail
        refine hH.mono ?_
        rintro e w1 ⟨rfl, rfl⟩
        go_wp2
        go_ret2
        exact ⟨rfl, rfl⟩
    · have hH := has_any 2 (by decide) s w
      have c1 := hT.cell 2
      have c2 := hT.cell 3
      simp [tgtC] at c1 c2
      have hX : nextP s 1 = if hasB 2 s = true then (2, true) else (0, false) := rfl
      cases hb : hasB 2 s
      all_goals
        rw [hb] at hX hH
        simp only [if_true, Bool.false_eq_true, if_false] at hX
        rw [hX]
        clear hX hc hT hb
        go_enter Tryd.func10, Tryd.ntmps10
        go_wp2_with fail
        refine (command_any _ w).mono ?_
        rintro e w1 ⟨rfl, rfl⟩
        go_wp2_with fail
        refine hH.mono ?_
        rintro e w1 ⟨rfl, rfl⟩
        go_wp2
        go_ret2
        exact ⟨rfl, rfl⟩
    · have hH := has_any 8 (by decide) s w
      have c1 := hT.cell 4
      have c2 := hT.cell 5
      simp [tgtC] at c1 c2
      have hX : nextP s 2 = if hasB 8 s = true then (1, true) else (0, false) := rfl
      cases hb : hasB 8 s
      all_goals
        rw [hb] at hX hH
        simp only [if_true, Bool.false_eq_true, if_false] at hX
        rw [hX]
        clear hX hc hT hb
        go_enter Tryd.func10, Tryd.ntmps10
        go_wp2_with fail
        refine (command_any _ w).mono ?_
        rintro e w1 ⟨rfl, rfl⟩
        go_wp2_with fail
        refine hH.mono ?_
        rintro e w1 ⟨rfl, rfl⟩
        go_wp2
        go_ret2
        exact ⟨rfl, rfl⟩
    · have hH := has_any 78 (by decide) s w
      have c1 := hT.cell 6
      have c2 := hT.cell 7
      simp [tgtC] at c1 c2
      have hX : nextP s 3 = if hasB 78 s = true then (4, true) else (0, false) := rfl
      cases hb : hasB 78 s
      all_goals
        rw [hb] at hX hH
        simp only [if_true, Bool.false_eq_true, if_false] at hX
        rw [hX]
        clear hX hc hT hb
        go_enter Tryd.func10, Tryd.ntmps10
        go_wp2_with fail
        refine (command_any _ w).mono ?_
        rintro e w1 ⟨rfl, rfl⟩
        go_wp2_with fail
        refine hH.mono ?_
        rintro e w1 ⟨rfl, rfl⟩
        go_wp2
        go_ret2
        exact ⟨rfl, rfl⟩
    · have hH := has_any 32 (by decide) s w
      have c1 := hT.cell 8
      have c2 := hT.cell 9
      simp [tgtC] at c1 c2
      have hX : nextP s 4 = if hasB 32 s = true then (6, true) else (0, false) := rfl
      cases hb : hasB 32 s
      all_goals
        rw [hb] at hX hH
        simp only [if_true, Bool.false_eq_true, if_false] at hX
        rw [hX]
        clear hX hc hT hb
        go_enter Tryd.func10, Tryd.ntmps10
        go_wp2_with fail
        refine (command_any _ w).mono ?_
        rintro e w1 ⟨rfl, rfl⟩
        go_wp2_with fail
        refine hH.mono ?_
        rintro e w1 ⟨rfl, rfl⟩
        go_wp2
        go_ret2
        exact ⟨rfl, rfl⟩
    · have hH := has_any 126 (by decide) s w
      have c1 := hT.cell 10
      have c2 := hT.cell 11
      simp [tgtC] at c1 c2
      have hX : nextP s 5 = if hasB 126 s = true then (7, true) else (0, false) := rfl
      cases hb : hasB 126 s
      all_goals
        rw [hb] at hX hH
        simp only [if_true, Bool.false_eq_true, if_false] at hX
        rw [hX]
        clear hX hc hT hb
        go_enter Tryd.func10, Tryd.ntmps10
        go_wp2_with fail
        refine (command_any _ w).mono ?_
        rintro e w1 ⟨rfl, rfl⟩
        go_wp2_with fail
        refine hH.mono ?_
        rintro e w1 ⟨rfl, rfl⟩
        go_wp2
        go_ret2
        exact ⟨rfl, rfl⟩
    · have hH := has_any 254 (by decide) s w
      have c1 := hT.cell 12
      have c2 := hT.cell 13
      simp [tgtC] at c1 c2
      have hX : nextP s 6 = if hasB 254 s = true then (9, true) else (0, false) := rfl
      cases hb : hasB 254 s
      all_goals
        rw [hb] at hX hH
        simp only [if_true, Bool.false_eq_true, if_false] at hX
        rw [hX]
        clear hX hc hT hb
        go_enter Tryd.func10, Tryd.ntmps10
        go_wp2_with fail
        refine (command_any _ w).mono ?_
        rintro e w1 ⟨rfl, rfl⟩
        go_wp2_with fail
        refine hH.mono ?_
        rintro e w1 ⟨rfl, rfl⟩
        go_wp2
        go_ret2
        exact ⟨rfl, rfl⟩
    · have hH := has_any 3328 (by decide) s w
      have c1 := hT.cell 14
      have c2 := hT.cell 15
      simp [tgtC] at c1 c2
      have hX : nextP s 7 = if hasB 3328 s = true then (0, true) else (0, false) := rfl
      cases hb : hasB 3328 s
      all_goals
        rw [hb] at hX hH
        simp only [if_true, Bool.false_eq_true, if_false] at hX
        rw [hX]
        clear hX hc hT hb
        go_enter Tryd.func10, Tryd.ntmps10
        go_wp2_with fail
        refine (command_any _ w).mono ?_
        rintro e w1 ⟨rfl, rfl⟩
        go_wp2_with fail
        refine hH.mono ?_
        rintro e w1 ⟨rfl, rfl⟩
        go_wp2
        go_ret2
        exact ⟨rfl, rfl⟩
  · have hc' : comB c = false := by simpa using hc
    have hX : nextP s c = (0, false) := by unfold nextP; unfold comB at hc'; rw [hc']; rfl
    rw [hX]
    have hE := command_any c w
    rw [hc'] at hE
    clear hc hc' hX
    go_enter Tryd.func10, Tryd.ntmps10
    go_wp2_with fail
    refine hE.mono ?_
    rintro e w1 ⟨rfl, rfl⟩
    go_wp2
    go_ret2
    exact ⟨rfl, rfl⟩

set_option maxRecDepth 100000 in
theorem Acting_any (s : Int) (w : World) : Calls Tryd.prog 14 #[.int .i64 s] w (BPost (actB s) w) := by
  have hH := has_any 726 (by decide) s w
  unfold actB
  go_enter Tryd.func14, Tryd.ntmps14
  go_wp2_with fail
  refine hH.mono ?_
  rintro e w1 ⟨rfl, rfl⟩
  go_wp2
  go_ret
  exact ⟨rfl, rfl⟩
set_option maxRecDepth 100000 in
theorem Quiet_any (s : Int) (w : World) : Calls Tryd.prog 16 #[.int .i64 s] w (BPost (quietB s) w) := by
  have hH := has_any 3329 (by decide) s w
  unfold quietB
  go_enter Tryd.func16, Tryd.ntmps16
  go_wp2_with fail
  refine hH.mono ?_
  rintro e w1 ⟨rfl, rfl⟩
  go_wp2
  go_ret
  exact ⟨rfl, rfl⟩
theorem act_six {s : Int} (h : actB s = true) : s = 1 ∨ s = 2 ∨ s = 4 ∨ s = 6 ∨ s = 7 ∨ s = 9 := by
  have he : exB s = true := by unfold actB hasB at h; exact (Bool.and_eq_true_iff.1 h).1
  rcases in12 he with rfl | rfl | rfl | rfl | rfl | rfl | rfl | rfl | rfl | rfl | rfl | rfl <;> first | omega | (exact absurd h (by decide))
set_option maxRecDepth 100000 in
theorem Done_any (s : Int) (w : World) (hE : Ends w) : Calls Tryd.prog 12 #[.int .i64 s] w (PPost (doneP s) w) := by
  have hA := Acting_any s w
  cases ha : actB s
  · have hX : doneP s = (0, false) := by
      unfold doneP
      rw [if_neg (by rintro rfl; exact absurd ha (by decide)), if_neg (by rintro rfl; exact absurd ha (by decide)), if_neg (by rintro rfl; exact absurd ha (by decide)), if_neg (by rintro rfl; exact absurd ha (by decide)), if_neg (by rintro rfl; exact absurd ha (by decide)), if_neg (by rintro rfl; exact absurd ha (by decide))]
    rw [ha] at hA
    rw [hX]
    clear hX ha
    go_enter Tryd.func12, Tryd.ntmps12
    go_wp2_with fail
    refine hA.mono ?_
    rintro e w1 ⟨rfl, rfl⟩
    go_wp2
    go_ret2
    exact ⟨rfl, rfl⟩
  · rw [ha] at hA
    rcases act_six ha with rfl | rfl | rfl | rfl | rfl | rfl
    all_goals
      have hc := fun i => Blk.cell hE i
      have c1 := hc 1
      have c2 := hc 2
      have c4 := hc 4
      have c6 := hc 6
      have c7 := hc 7
      have c9 := hc 9
      simp [endC, endZ] at c1 c2 c4 c6 c7 c9
      clear hE ha hc
      go_enter Tryd.func12, Tryd.ntmps12
      go_wp2_with fail
      refine hA.mono ?_
      rintro e w1 ⟨rfl, rfl⟩
      go_wp2
      go_ret2
      exact ⟨rfl, rfl⟩
set_option maxRecDepth 100000 in
theorem Cold_any (s : Int) (w : World) : Calls Tryd.prog 18 #[.int .i64 s] w (IPost (coldP s) w) := by
  generalize hX : coldP s = X
  have HX := Lib.hid hX
  clear hX
  go_enter Tryd.func18, Tryd.ntmps18
  go_wp2
  all_goals go_ret
  all_goals
    refine ⟨ret_int ?_, rfl⟩
    rw [← HX.out]
    unfold coldP
    simp_all
    try omega
end Go.Proofs.YtadindhnaidmeaaDoor.Ch
