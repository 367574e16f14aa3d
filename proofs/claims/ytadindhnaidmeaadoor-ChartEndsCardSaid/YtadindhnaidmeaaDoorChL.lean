/-
  The laws' awake: the chapter's examples.
-/
import Derived.Test.YtadindhnaidmeaaDoorChW3
namespace Go.Proofs.YtadindhnaidmeaaDoor.Ch
open Go.RowKit

theorem two_nums (w : World) : Nums (w.alloc (.cells #[.int .i64 5, .int .i64 1] 3)) (some ⟨w.heap.size, 0, none⟩) [5, 1] := fun _ => by
  refine ⟨w.heap.size, 0, rfl, by simp, fun j hj => ?_⟩
  rw [Nat.zero_add, (Blk.new w 3 #[.int .i64 5, .int .i64 1]).cell j]
  have : j < 2 := hj
  match j, this with
  | 0, _ => rfl
  | 1, _ => rfl
set_option maxRecDepth 100000 in
set_option maxHeartbeats 4000000 in
theorem awake_any (w : World) (hT : Tabs w) : Calls Tryd.prog 9 #[] w fun e w' => e = .returned (.bool true) ∧ Below w.heap.size w w' := by
  have h1 : Calls Tryd.prog 10 #[.int .i64 5, .int .i64 4] w (PPost (6, true) w) := Next_any 5 4 w hT.tgt
  have h2 : Calls Tryd.prog 10 #[.int .i64 5, .int .i64 3] w (PPost (0, false) w) := Next_any 5 3 w hT.tgt
  have h3 : Calls Tryd.prog 18 #[.int .i64 3] w (IPost 5 w) := Cold_any 3 w
  have hb := (Below.refl w.heap.size w).alloc (Nat.le_refl _) (.cells #[.int .i64 5, .int .i64 1] 3)
  have hTn := hT.to hb
  have h4 := Roll_any [5, 1] (some ⟨w.heap.size, 0, none⟩) 2 (w.alloc (.cells #[.int .i64 5, .int .i64 1] 3)) (by simp) (two_nums w)
  rw [show rollP [5, 1] = 4 from rfl, show (([5, 1] : List Int).length) = 2 from rfl] at h4
  have h5 : Calls Tryd.prog 24 #[.int .i64 3, .int .i64 5] (w.alloc (.cells #[.int .i64 5, .int .i64 1] 3)) (IPost 5 _) := Stronger_any 3 5 _ hTn.pri
  have h6 := Name_any 11 _ hTn.nam
  rw [show nameP 11 = [99, 111, 109, 112, 108, 101, 116, 101] from rfl] at h6
  clear hT hTn
  go_enter Tryd.func9, Tryd.ntmps9
  go_wp2_with fail
  refine h1.mono ?_
  rintro e w1 ⟨rfl, rfl⟩
  go_wp2_with fail
  refine h2.mono ?_
  rintro e w1 ⟨rfl, rfl⟩
  go_wp2_with fail
  refine h3.mono ?_
  rintro e w1 ⟨rfl, rfl⟩
  go_wp2_with fail
  refine h4.mono ?_
  rintro e w1 ⟨rfl, rfl⟩
  go_wp2_with fail
  refine h5.mono ?_
  rintro e w1 ⟨rfl, rfl⟩
  go_wp2_with fail
  refine h6.mono ?_
  rintro e w1 ⟨rfl, rfl⟩
  go_wp2
  go_ret
  exact ⟨rfl, hb⟩
end Go.Proofs.YtadindhnaidmeaaDoor.Ch
