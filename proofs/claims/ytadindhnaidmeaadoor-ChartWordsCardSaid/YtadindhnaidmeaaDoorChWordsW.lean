/-
  The walk of ChartWords.
-/
import Derived.Test.YtadindhnaidmeaaDoorChL
import Derived.Test.YtadindhnaidmeaaDoorChR2
namespace Go.Proofs.YtadindhnaidmeaaDoor.Ch
open Go.RowKit

set_option maxRecDepth 100000 in
set_option maxHeartbeats 4000000 in
theorem words_walk (a b : Int) (w : World) (hT : Tabs w) (hW : Words w) : Calls Tryd.prog 5 #[.int .i64 a, .int .i64 b] w fun e w' => e = .returned (.bool true) ∧ Below w.heap.size w w' := by
  have HT := Lib.hid hT
  have HW := Lib.hid hW
  clear hT hW
  go_enter Tryd.func5, Tryd.ntmps5
  go_wp2_with fail
  refine (awake_any w HT.out).mono ?_
  rintro e w1 ⟨rfl, hb⟩
  have HB := Lib.hid hb
  go_wp2_with fail
  refine (Stronger_any a b w1 (HT.out.to hb).pri).mono ?_
  rintro e w2 ⟨rfl, rfl⟩
  go_wp2_with fail
  refine (refStronger_any a b w1).mono ?_
  rintro e w2 ⟨rfl, hb2⟩
  have hb3 := hb.trans (hb2.mono hb.size)
  have h1 := Name_any a w2 (HT.out.to hb3).nam
  have h2 := refName_any a w2
  have h3 := Word_any a w2 (HW.out.to hb3)
  have h4 := refWord_any a w2
  have HB3 := Lib.hid hb3
  clear HT HW hb hb2 hb3 HB
  generalize nameP a = s1 at *
  generalize wordP a = s2 at *
  go_wp2_with fail
  refine h1.mono ?_
  rintro e w3 ⟨rfl, rfl⟩
  go_wp2_with fail
  refine h2.mono ?_
  rintro e w3 ⟨rfl, rfl⟩
  go_wp2_with fail
  refine h3.mono ?_
  rintro e w3 ⟨rfl, rfl⟩
  go_wp2_with fail
  refine h4.mono ?_
  rintro e w3 ⟨rfl, rfl⟩
  go_wp2
  go_ret
  exact ⟨ret_bool (by simp), HB3.out⟩
end Go.Proofs.YtadindhnaidmeaaDoor.Ch
