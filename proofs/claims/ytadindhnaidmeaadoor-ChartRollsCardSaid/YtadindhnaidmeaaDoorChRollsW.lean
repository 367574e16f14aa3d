/-
  The walk of ChartRolls.
-/
import Derived.Test.YtadindhnaidmeaaDoorChL
import Derived.Test.YtadindhnaidmeaaDoorChR3
namespace Go.Proofs.YtadindhnaidmeaaDoor.Ch
open Go.RowKit

set_option maxRecDepth 100000 in
set_option maxHeartbeats 4000000 in
theorem rolls_walk (A : Option Addr) (l : List Int) (cap : Nat) (w : World) (hA : Nums w A l) (hT : Tabs w) : Calls Tryd.prog 4 #[.slice A l.length cap] w fun e w' => e = .returned (.bool true) ∧ Below w.heap.size w w' := by
  have HT := Lib.hid hT
  have HR := Lib.hid (fun (hl : l.length ≤ 1000) w1 (hb : Below w.heap.size w w1) => Roll_any l A cap w1 (by omega) (hA.to hb))
  have HS := Lib.hid (fun (hl : l.length ≤ 1000) w1 (hb : Below w.heap.size w w1) => refRoll_any l A cap w1 (by omega) (hA.to hb))
  clear hT hA
  generalize l.length = len at *
  generalize rollP l = X at *
  go_enter Tryd.func4, Tryd.ntmps4
  go_wp2_with fail
  refine (awake_any w HT.out).mono ?_
  rintro e w1 ⟨rfl, hb⟩
  by_cases hl : 1000 < len
  · have d1 : (1000 : Int) < (len : Int) := by omega
    clear hl
    go_wp2
    go_ret
    exact ⟨rfl, hb⟩
  · have h1 := HR.out (by omega) w1 hb
    have h2 := HS.out (by omega) w1 hb
    have d1 : ¬ (1000 : Int) < (len : Int) := by omega
    have HB := Lib.hid hb
    clear hl HR HS HT hb
    go_wp2_with fail
    refine h1.mono ?_
    rintro e w2 ⟨rfl, rfl⟩
    go_wp2_with fail
    refine h2.mono ?_
    rintro e w2 ⟨rfl, hb2⟩
    have HB2 := Lib.hid (HB.out.trans (hb2.mono HB.out.size))
    go_wp2
    go_ret
    exact ⟨ret_bool (by simp), HB2.out⟩
end Go.Proofs.YtadindhnaidmeaaDoor.Ch
