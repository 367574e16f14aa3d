/-
  The walk of ChartLeads.
-/
import Derived.Test.YtadindhnaidmeaaDoorChL
import Derived.Test.YtadindhnaidmeaaDoorChR2
namespace Go.Proofs.YtadindhnaidmeaaDoor.Ch
open Go.RowKit

set_option maxRecDepth 100000 in
set_option maxHeartbeats 4000000 in
theorem leads_walk (s c t : Int) (w : World) (hT : Tabs w) (hE : Ends w) : Calls Tryd.prog 3 #[.int .i64 s, .int .i64 c, .int .i64 t] w fun e w' => e = .returned (.bool true) ∧ Below w.heap.size w w' := by
  have HT := Lib.hid hT
  have HE := Lib.hid hE
  clear hT hE
  go_enter Tryd.func3, Tryd.ntmps3
  go_wp2_with fail
  refine (awake_any w HT.out).mono ?_
  rintro e w1 ⟨rfl, hb⟩
  have h1 := Next_any s c w1 (HT.out.to hb).tgt
  have h2 := refNext_any s c w1
  have h3 := Done_any s w1 (HE.out.to hb)
  have h4 := refDone_any s w1
  have h5 := Acting_any s w1
  have h6 := refActing_any s w1
  have h7 := Quiet_any s w1
  have h8 := refQuiet_any s w1
  have h9 := Cold_any s w1
  have ha := refCold_any s w1
  have hd := Edge_any s t w1 (HT.out.to hb).tgt (HE.out.to hb)
  have hf := refEdge_any s t w1
  clear HT HE
  generalize nextP s c = p1 at *
  generalize doneP s = p2 at *
  obtain ⟨a1, b1⟩ := p1
  obtain ⟨a2, b2⟩ := p2
  generalize actB s = b3 at *
  generalize quietB s = b4 at *
  generalize coldP s = b5 at *
  generalize edgeB s t = b6 at *
  go_wp2_with fail
  refine h1.mono ?_
  rintro e w2 ⟨rfl, rfl⟩
  go_wp2_with fail
  refine h2.mono ?_
  rintro e w2 ⟨rfl, rfl⟩
  go_wp2_with fail
  refine h3.mono ?_
  rintro e w2 ⟨rfl, rfl⟩
  go_wp2_with fail
  refine h4.mono ?_
  rintro e w2 ⟨rfl, rfl⟩
  clear h1 h2 h3 h4
  go_wp2_with fail
  refine h5.mono ?_
  rintro e w2 ⟨rfl, rfl⟩
  go_wp2_with fail
  refine h6.mono ?_
  rintro e w2 ⟨rfl, rfl⟩
  go_wp2_with fail
  refine h7.mono ?_
  rintro e w2 ⟨rfl, rfl⟩
  go_wp2_with fail
  refine h8.mono ?_
  rintro e w2 ⟨rfl, rfl⟩
  go_wp2_with fail
  refine h9.mono ?_
  rintro e w2 ⟨rfl, rfl⟩
  go_wp2_with fail
  refine ha.mono ?_
  rintro e w2 ⟨rfl, rfl⟩
  go_wp2_with fail
  refine hd.mono ?_
  rintro e w2 ⟨rfl, rfl⟩
  go_wp2_with fail
  refine hf.mono ?_
  rintro e w2 ⟨rfl, rfl⟩
  go_wp2
  go_ret
  exact ⟨ret_bool (by simp), hb⟩
end Go.Proofs.YtadindhnaidmeaaDoor.Ch
