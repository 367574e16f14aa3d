/-
  The walk of ChartColds.
-/
import Derived.Test.YtadindhnaidmeaaDoorChL
namespace Go.Proofs.YtadindhnaidmeaaDoor.Ch
open Go.RowKit

theorem cold_out (s : Int) (h : exB s = false) : coldP s = s := by
  unfold exB at h
  simp at h
  unfold coldP
  repeat (first | rfl | refine (if_neg (by omega)).trans ?_)

set_option maxRecDepth 100000 in
set_option maxHeartbeats 4000000 in
theorem colds_walk (s : Int) (w : World) (hT : Tabs w) (hE : Ends w) : Calls Tryd.prog 7 #[.int .i64 s] w fun e w' => e = .returned (.bool true) ∧ Below w.heap.size w w' := by
  have HT := Lib.hid hT
  have HE := Lib.hid hE
  clear hT hE
  cases he : exB s
  · have HC := Lib.hid (cold_out s he)
    have ho : s < 0 ∨ (¬ s < 0 ∧ 12 ≤ s) := by unfold exB at he; simp at he; omega
    clear he
    rcases ho with h1 | ⟨h1, h2⟩
    all_goals
      go_enter Tryd.func7, Tryd.ntmps7
      go_wp2_with fail
      refine (awake_any w HT.out).mono ?_
      rintro e w1 ⟨rfl, hb⟩
      have h9 := Cold_any s w1
      rw [HC.out] at h9
      go_wp2_with fail
      refine h9.mono ?_
      rintro e w2 ⟨rfl, rfl⟩
      go_wp2
      go_ret
      exact ⟨ret_bool (by simp), hb⟩
  · rcases in12 he with rfl | rfl | rfl | rfl | rfl | rfl | rfl | rfl | rfl | rfl | rfl | rfl
    · clear he
      go_enter Tryd.func7, Tryd.ntmps7
      go_wp2_with fail
      refine (awake_any w HT.out).mono ?_
      rintro e w1 ⟨rfl, hb⟩
      have HB := Lib.hid hb
      have HT1 := Lib.hid (HT.out.to hb)
      have HE1 := Lib.hid (HE.out.to hb)
      clear HT HE hb
      go_wp2_with fail
      refine (show Calls Tryd.prog 18 #[.int .i64 0] w1 (IPost 0 w1) from Cold_any 0 w1).mono ?_
      rintro e w2 ⟨rfl, rfl⟩
      go_wp2_with fail
      refine (show Calls Tryd.prog 18 #[.int .i64 0] w1 (IPost 0 w1) from Cold_any 0 w1).mono ?_
      rintro e w2 ⟨rfl, rfl⟩
      go_wp2_with fail
      refine (show Calls Tryd.prog 14 #[.int .i64 0] w1 (BPost false w1) from Acting_any 0 w1).mono ?_
      rintro e w2 ⟨rfl, rfl⟩
      go_wp2_with fail
      refine (show Calls Tryd.prog 16 #[.int .i64 0] w1 (BPost true w1) from Quiet_any 0 w1).mono ?_
      rintro e w2 ⟨rfl, rfl⟩
      go_wp2
      go_ret
      exact ⟨rfl, HB.out⟩
    · clear he
      go_enter Tryd.func7, Tryd.ntmps7
      go_wp2_with fail
      refine (awake_any w HT.out).mono ?_
      rintro e w1 ⟨rfl, hb⟩
      have HB := Lib.hid hb
      have HT1 := Lib.hid (HT.out.to hb)
      have HE1 := Lib.hid (HE.out.to hb)
      clear HT HE hb
      go_wp2_with fail
      refine (show Calls Tryd.prog 18 #[.int .i64 1] w1 (IPost 5 w1) from Cold_any 1 w1).mono ?_
      rintro e w2 ⟨rfl, rfl⟩
      go_wp2_with fail
      refine (show Calls Tryd.prog 18 #[.int .i64 5] w1 (IPost 5 w1) from Cold_any 5 w1).mono ?_
      rintro e w2 ⟨rfl, rfl⟩
      go_wp2_with fail
      refine (show Calls Tryd.prog 14 #[.int .i64 5] w1 (BPost false w1) from Acting_any 5 w1).mono ?_
      rintro e w2 ⟨rfl, rfl⟩
      go_wp2_with fail
      refine (show Calls Tryd.prog 20 #[.int .i64 1, .int .i64 5] w1 (BPost true w1) from Edge_any 1 5 w1 HT1.out.tgt HE1.out).mono ?_
      rintro e w2 ⟨rfl, rfl⟩
      go_wp2_with fail
      refine (show Calls Tryd.prog 16 #[.int .i64 1] w1 (BPost false w1) from Quiet_any 1 w1).mono ?_
      rintro e w2 ⟨rfl, rfl⟩
      go_wp2
      go_ret
      exact ⟨rfl, HB.out⟩
    · clear he
      go_enter Tryd.func7, Tryd.ntmps7
      go_wp2_with fail
      refine (awake_any w HT.out).mono ?_
      rintro e w1 ⟨rfl, hb⟩
      have HB := Lib.hid hb
      have HT1 := Lib.hid (HT.out.to hb)
      have HE1 := Lib.hid (HE.out.to hb)
      clear HT HE hb
      go_wp2_with fail
      refine (show Calls Tryd.prog 18 #[.int .i64 2] w1 (IPost 5 w1) from Cold_any 2 w1).mono ?_
      rintro e w2 ⟨rfl, rfl⟩
      go_wp2_with fail
      refine (show Calls Tryd.prog 18 #[.int .i64 5] w1 (IPost 5 w1) from Cold_any 5 w1).mono ?_
      rintro e w2 ⟨rfl, rfl⟩
      go_wp2_with fail
      refine (show Calls Tryd.prog 14 #[.int .i64 5] w1 (BPost false w1) from Acting_any 5 w1).mono ?_
      rintro e w2 ⟨rfl, rfl⟩
      go_wp2_with fail
      refine (show Calls Tryd.prog 20 #[.int .i64 2, .int .i64 5] w1 (BPost true w1) from Edge_any 2 5 w1 HT1.out.tgt HE1.out).mono ?_
      rintro e w2 ⟨rfl, rfl⟩
      go_wp2_with fail
      refine (show Calls Tryd.prog 16 #[.int .i64 2] w1 (BPost false w1) from Quiet_any 2 w1).mono ?_
      rintro e w2 ⟨rfl, rfl⟩
      go_wp2
      go_ret
      exact ⟨rfl, HB.out⟩
    · clear he
      go_enter Tryd.func7, Tryd.ntmps7
      go_wp2_with fail
      refine (awake_any w HT.out).mono ?_
      rintro e w1 ⟨rfl, hb⟩
      have HB := Lib.hid hb
      have HT1 := Lib.hid (HT.out.to hb)
      have HE1 := Lib.hid (HE.out.to hb)
      clear HT HE hb
      go_wp2_with fail
      refine (show Calls Tryd.prog 18 #[.int .i64 3] w1 (IPost 5 w1) from Cold_any 3 w1).mono ?_
      rintro e w2 ⟨rfl, rfl⟩
      go_wp2_with fail
      refine (show Calls Tryd.prog 18 #[.int .i64 5] w1 (IPost 5 w1) from Cold_any 5 w1).mono ?_
      rintro e w2 ⟨rfl, rfl⟩
      go_wp2_with fail
      refine (show Calls Tryd.prog 14 #[.int .i64 5] w1 (BPost false w1) from Acting_any 5 w1).mono ?_
      rintro e w2 ⟨rfl, rfl⟩
      go_wp2_with fail
      refine (show Calls Tryd.prog 20 #[.int .i64 3, .int .i64 5] w1 (BPost true w1) from Edge_any 3 5 w1 HT1.out.tgt HE1.out).mono ?_
      rintro e w2 ⟨rfl, rfl⟩
      go_wp2_with fail
      refine (show Calls Tryd.prog 16 #[.int .i64 3] w1 (BPost false w1) from Quiet_any 3 w1).mono ?_
      rintro e w2 ⟨rfl, rfl⟩
      go_wp2
      go_ret
      exact ⟨rfl, HB.out⟩
    · clear he
      go_enter Tryd.func7, Tryd.ntmps7
      go_wp2_with fail
      refine (awake_any w HT.out).mono ?_
      rintro e w1 ⟨rfl, hb⟩
      have HB := Lib.hid hb
      have HT1 := Lib.hid (HT.out.to hb)
      have HE1 := Lib.hid (HE.out.to hb)
      clear HT HE hb
      go_wp2_with fail
      refine (show Calls Tryd.prog 18 #[.int .i64 4] w1 (IPost 5 w1) from Cold_any 4 w1).mono ?_
      rintro e w2 ⟨rfl, rfl⟩
      go_wp2_with fail
      refine (show Calls Tryd.prog 18 #[.int .i64 5] w1 (IPost 5 w1) from Cold_any 5 w1).mono ?_
      rintro e w2 ⟨rfl, rfl⟩
      go_wp2_with fail
      refine (show Calls Tryd.prog 14 #[.int .i64 5] w1 (BPost false w1) from Acting_any 5 w1).mono ?_
      rintro e w2 ⟨rfl, rfl⟩
      go_wp2_with fail
      refine (show Calls Tryd.prog 20 #[.int .i64 4, .int .i64 5] w1 (BPost true w1) from Edge_any 4 5 w1 HT1.out.tgt HE1.out).mono ?_
      rintro e w2 ⟨rfl, rfl⟩
      go_wp2_with fail
      refine (show Calls Tryd.prog 16 #[.int .i64 4] w1 (BPost false w1) from Quiet_any 4 w1).mono ?_
      rintro e w2 ⟨rfl, rfl⟩
      go_wp2
      go_ret
      exact ⟨rfl, HB.out⟩
    · clear he
      go_enter Tryd.func7, Tryd.ntmps7
      go_wp2_with fail
      refine (awake_any w HT.out).mono ?_
      rintro e w1 ⟨rfl, hb⟩
      have HB := Lib.hid hb
      have HT1 := Lib.hid (HT.out.to hb)
      have HE1 := Lib.hid (HE.out.to hb)
      clear HT HE hb
      go_wp2_with fail
      refine (show Calls Tryd.prog 18 #[.int .i64 5] w1 (IPost 5 w1) from Cold_any 5 w1).mono ?_
      rintro e w2 ⟨rfl, rfl⟩
      go_wp2_with fail
      refine (show Calls Tryd.prog 18 #[.int .i64 5] w1 (IPost 5 w1) from Cold_any 5 w1).mono ?_
      rintro e w2 ⟨rfl, rfl⟩
      go_wp2_with fail
      refine (show Calls Tryd.prog 14 #[.int .i64 5] w1 (BPost false w1) from Acting_any 5 w1).mono ?_
      rintro e w2 ⟨rfl, rfl⟩
      go_wp2_with fail
      refine (show Calls Tryd.prog 16 #[.int .i64 5] w1 (BPost false w1) from Quiet_any 5 w1).mono ?_
      rintro e w2 ⟨rfl, rfl⟩
      go_wp2
      go_ret
      exact ⟨rfl, HB.out⟩
    · clear he
      go_enter Tryd.func7, Tryd.ntmps7
      go_wp2_with fail
      refine (awake_any w HT.out).mono ?_
      rintro e w1 ⟨rfl, hb⟩
      have HB := Lib.hid hb
      have HT1 := Lib.hid (HT.out.to hb)
      have HE1 := Lib.hid (HE.out.to hb)
      clear HT HE hb
      go_wp2_with fail
      refine (show Calls Tryd.prog 18 #[.int .i64 6] w1 (IPost 5 w1) from Cold_any 6 w1).mono ?_
      rintro e w2 ⟨rfl, rfl⟩
      go_wp2_with fail
      refine (show Calls Tryd.prog 18 #[.int .i64 5] w1 (IPost 5 w1) from Cold_any 5 w1).mono ?_
      rintro e w2 ⟨rfl, rfl⟩
      go_wp2_with fail
      refine (show Calls Tryd.prog 14 #[.int .i64 5] w1 (BPost false w1) from Acting_any 5 w1).mono ?_
      rintro e w2 ⟨rfl, rfl⟩
      go_wp2_with fail
      refine (show Calls Tryd.prog 20 #[.int .i64 6, .int .i64 5] w1 (BPost true w1) from Edge_any 6 5 w1 HT1.out.tgt HE1.out).mono ?_
      rintro e w2 ⟨rfl, rfl⟩
      go_wp2_with fail
      refine (show Calls Tryd.prog 16 #[.int .i64 6] w1 (BPost false w1) from Quiet_any 6 w1).mono ?_
      rintro e w2 ⟨rfl, rfl⟩
      go_wp2
      go_ret
      exact ⟨rfl, HB.out⟩
    · clear he
      go_enter Tryd.func7, Tryd.ntmps7
      go_wp2_with fail
      refine (awake_any w HT.out).mono ?_
      rintro e w1 ⟨rfl, hb⟩
      have HB := Lib.hid hb
      have HT1 := Lib.hid (HT.out.to hb)
      have HE1 := Lib.hid (HE.out.to hb)
      clear HT HE hb
      go_wp2_with fail
      refine (show Calls Tryd.prog 18 #[.int .i64 7] w1 (IPost 8 w1) from Cold_any 7 w1).mono ?_
      rintro e w2 ⟨rfl, rfl⟩
      go_wp2_with fail
      refine (show Calls Tryd.prog 18 #[.int .i64 8] w1 (IPost 8 w1) from Cold_any 8 w1).mono ?_
      rintro e w2 ⟨rfl, rfl⟩
      go_wp2_with fail
      refine (show Calls Tryd.prog 14 #[.int .i64 8] w1 (BPost false w1) from Acting_any 8 w1).mono ?_
      rintro e w2 ⟨rfl, rfl⟩
      go_wp2_with fail
      refine (show Calls Tryd.prog 20 #[.int .i64 7, .int .i64 8] w1 (BPost true w1) from Edge_any 7 8 w1 HT1.out.tgt HE1.out).mono ?_
      rintro e w2 ⟨rfl, rfl⟩
      go_wp2_with fail
      refine (show Calls Tryd.prog 16 #[.int .i64 7] w1 (BPost false w1) from Quiet_any 7 w1).mono ?_
      rintro e w2 ⟨rfl, rfl⟩
      go_wp2
      go_ret
      exact ⟨rfl, HB.out⟩
    · clear he
      go_enter Tryd.func7, Tryd.ntmps7
      go_wp2_with fail
      refine (awake_any w HT.out).mono ?_
      rintro e w1 ⟨rfl, hb⟩
      have HB := Lib.hid hb
      have HT1 := Lib.hid (HT.out.to hb)
      have HE1 := Lib.hid (HE.out.to hb)
      clear HT HE hb
      go_wp2_with fail
      refine (show Calls Tryd.prog 18 #[.int .i64 8] w1 (IPost 8 w1) from Cold_any 8 w1).mono ?_
      rintro e w2 ⟨rfl, rfl⟩
      go_wp2_with fail
      refine (show Calls Tryd.prog 18 #[.int .i64 8] w1 (IPost 8 w1) from Cold_any 8 w1).mono ?_
      rintro e w2 ⟨rfl, rfl⟩
      go_wp2_with fail
      refine (show Calls Tryd.prog 14 #[.int .i64 8] w1 (BPost false w1) from Acting_any 8 w1).mono ?_
      rintro e w2 ⟨rfl, rfl⟩
      go_wp2_with fail
      refine (show Calls Tryd.prog 16 #[.int .i64 8] w1 (BPost true w1) from Quiet_any 8 w1).mono ?_
      rintro e w2 ⟨rfl, rfl⟩
      go_wp2
      go_ret
      exact ⟨rfl, HB.out⟩
    · clear he
      go_enter Tryd.func7, Tryd.ntmps7
      go_wp2_with fail
      refine (awake_any w HT.out).mono ?_
      rintro e w1 ⟨rfl, hb⟩
      have HB := Lib.hid hb
      have HT1 := Lib.hid (HT.out.to hb)
      have HE1 := Lib.hid (HE.out.to hb)
      clear HT HE hb
      go_wp2_with fail
      refine (show Calls Tryd.prog 18 #[.int .i64 9] w1 (IPost 10 w1) from Cold_any 9 w1).mono ?_
      rintro e w2 ⟨rfl, rfl⟩
      go_wp2_with fail
      refine (show Calls Tryd.prog 18 #[.int .i64 10] w1 (IPost 10 w1) from Cold_any 10 w1).mono ?_
      rintro e w2 ⟨rfl, rfl⟩
      go_wp2_with fail
      refine (show Calls Tryd.prog 14 #[.int .i64 10] w1 (BPost false w1) from Acting_any 10 w1).mono ?_
      rintro e w2 ⟨rfl, rfl⟩
      go_wp2_with fail
      refine (show Calls Tryd.prog 20 #[.int .i64 9, .int .i64 10] w1 (BPost true w1) from Edge_any 9 10 w1 HT1.out.tgt HE1.out).mono ?_
      rintro e w2 ⟨rfl, rfl⟩
      go_wp2_with fail
      refine (show Calls Tryd.prog 16 #[.int .i64 9] w1 (BPost false w1) from Quiet_any 9 w1).mono ?_
      rintro e w2 ⟨rfl, rfl⟩
      go_wp2
      go_ret
      exact ⟨rfl, HB.out⟩
    · clear he
      go_enter Tryd.func7, Tryd.ntmps7
      go_wp2_with fail
      refine (awake_any w HT.out).mono ?_
      rintro e w1 ⟨rfl, hb⟩
      have HB := Lib.hid hb
      have HT1 := Lib.hid (HT.out.to hb)
      have HE1 := Lib.hid (HE.out.to hb)
      clear HT HE hb
      go_wp2_with fail
      refine (show Calls Tryd.prog 18 #[.int .i64 10] w1 (IPost 10 w1) from Cold_any 10 w1).mono ?_
      rintro e w2 ⟨rfl, rfl⟩
      go_wp2_with fail
      refine (show Calls Tryd.prog 18 #[.int .i64 10] w1 (IPost 10 w1) from Cold_any 10 w1).mono ?_
      rintro e w2 ⟨rfl, rfl⟩
      go_wp2_with fail
      refine (show Calls Tryd.prog 14 #[.int .i64 10] w1 (BPost false w1) from Acting_any 10 w1).mono ?_
      rintro e w2 ⟨rfl, rfl⟩
      go_wp2_with fail
      refine (show Calls Tryd.prog 16 #[.int .i64 10] w1 (BPost true w1) from Quiet_any 10 w1).mono ?_
      rintro e w2 ⟨rfl, rfl⟩
      go_wp2
      go_ret
      exact ⟨rfl, HB.out⟩
    · clear he
      go_enter Tryd.func7, Tryd.ntmps7
      go_wp2_with fail
      refine (awake_any w HT.out).mono ?_
      rintro e w1 ⟨rfl, hb⟩
      have HB := Lib.hid hb
      have HT1 := Lib.hid (HT.out.to hb)
      have HE1 := Lib.hid (HE.out.to hb)
      clear HT HE hb
      go_wp2_with fail
      refine (show Calls Tryd.prog 18 #[.int .i64 11] w1 (IPost 11 w1) from Cold_any 11 w1).mono ?_
      rintro e w2 ⟨rfl, rfl⟩
      go_wp2_with fail
      refine (show Calls Tryd.prog 18 #[.int .i64 11] w1 (IPost 11 w1) from Cold_any 11 w1).mono ?_
      rintro e w2 ⟨rfl, rfl⟩
      go_wp2_with fail
      refine (show Calls Tryd.prog 14 #[.int .i64 11] w1 (BPost false w1) from Acting_any 11 w1).mono ?_
      rintro e w2 ⟨rfl, rfl⟩
      go_wp2_with fail
      refine (show Calls Tryd.prog 16 #[.int .i64 11] w1 (BPost true w1) from Quiet_any 11 w1).mono ?_
      rintro e w2 ⟨rfl, rfl⟩
      go_wp2
      go_ret
      exact ⟨rfl, HB.out⟩
end Go.Proofs.YtadindhnaidmeaaDoor.Ch
