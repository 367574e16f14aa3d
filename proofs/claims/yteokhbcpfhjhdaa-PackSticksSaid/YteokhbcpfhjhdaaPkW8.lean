/-
  The contract of the laws' own awake.
-/
import Derived.Test.YteokhbcpfhjhdaaPkW7
namespace Go.Proofs.Yteokhbcpfhjhdaa.Pk
open Go.RowKit

def TruePost (w : World) (e : Ending) (w' : World) : Prop := e = .returned (.bool true) ∧ Below w.heap.size w w'

theorem aw1 : (([] : List UInt8) ++ bs (-65)) = [129, 1] := by decide
theorem aw2 : ([129, 1] : List UInt8) ++ bs (((⟨#[97]⟩ : ByteArray).size : Nat) : Int) ++ (⟨#[97]⟩ : ByteArray).data.toList = [129, 1, 2, 97] := by decide
theorem aw3 : ([129, 1, 2, 97] : List UInt8) ++ [if true then 1 else 0] = [129, 1, 2, 97, 1] := by decide
theorem aw4 : rInt [129, 1, 2, 97, 1] false = (-65, [2, 97, 1], false) := by decide
theorem aw5 : rText [2, 97, 1] false 1 = ([97], [1], false) := by decide
theorem aw6 : rBool [1] false = (true, [], false) := by decide

set_option maxRecDepth 100000 in
set_option maxHeartbeats 2000000 in
theorem awake_all (w : World) : Calls Try.prog 9 #[] w (TruePost w) := by
  have hw0 := Wr.new w
  have hb0 : Below w.heap.size w (w.alloc (.cells #[.slice none 0 0] 33)) := (Below.refl _ w).alloc (Nat.le_refl _) _
  go_enter Try.func9, Try.ntmps9
  go_wp2_with fail
  refine (wint_all w.heap.size [] (-65) _ hw0 (by unfold i64; omega) (by simp)).mono ?_
  rintro e w1 ⟨rfl, hw1, hb1⟩
  rw [aw1] at hw1
  have hc1 := hb0.trans hb1
  clear hw0 hb0 hb1
  go_wp2_with fail
  refine (wtext_all w.heap.size [129, 1] ⟨#[97]⟩ _ hw1 (by decide)).mono ?_
  rintro e w2 ⟨rfl, hw2, hb2⟩
  rw [aw2] at hw2
  have hc2 := hc1.trans hb2
  clear hw1 hc1 hb2
  go_wp2_with fail
  refine (wbool_all w.heap.size [129, 1, 2, 97] true _ hw2 (by decide)).mono ?_
  rintro e w3 ⟨rfl, hw3, hb3⟩
  rw [aw3] at hw3
  have hc3 := hc2.trans hb3
  clear hw2 hc2 hb3
  go_wp2_with fail
  refine (wbytes_all w.heap.size [129, 1, 2, 97, 1] _ hw3 (by decide)).mono ?_
  rintro e w4 ⟨A, c, rfl, ho, hb4⟩
  have hc4 := hc3.trans (hb4.mono hc3.size)
  have hL4 := Lie.of_own ho
  clear hw3 hc3 hb4 ho
  go_wp2_with fail
  refine (read_all A [129, 1, 2, 97, 1] c _ hL4 (by decide)).mono ?_
  rintro e w5 ⟨g, rfl, hg, hr5, hb5⟩
  have hc5 := hc4.trans (hb5.mono hc4.size)
  have hS : ∀ b, (w4.heap.size ≤ b ∧ b < g) → b ≠ g := fun b h => by omega
  have hcv : (convert 25 9 (.slice A 5 c)).run Try.prog w5 = .ok (.string ⟨#[129, 1, 2, 97, 1]⟩) w5 := conv_lie c (hL4.below hb5)
  have hgw : w.heap.size ≤ g := Nat.le_trans hc4.size hg
  clear hc4 hb5 hL4 hg
  go_wp2_with fail
  refine (rint_all _ g [129, 1, 2, 97, 1] false _ hr5 hS).mono ?_
  rintro e w6 ⟨rfl, hr6, hg6⟩
  rw [aw4] at hr6 ⊢
  have hc6 := below_gr hc5 hg6 hc5.size hgw
  clear hr5 hc5 hcv hg6
  go_wp2_with fail
  refine (rtext_all _ g [2, 97, 1] false 1 _ hr6 hS (by decide)).mono ?_
  rintro e w7 ⟨rfl, hr7, hg7⟩
  rw [aw5] at hr7 ⊢
  have hc7 := below_gr hc6 hg7 hc6.size hgw
  clear hr6 hc6 hg7
  go_wp2_with fail
  refine (rbool_all _ g [1] false _ hr7 hS).mono ?_
  rintro e w8 ⟨rfl, hr8, hg8⟩
  rw [aw6] at hr8 ⊢
  have hc8 := below_gr hc7 hg8 hc7.size hgw
  clear hr7 hc7 hg8
  go_wp2_with fail
  refine (rleft_all _ g [] false _ hr8).mono ?_
  rintro e w9 ⟨rfl, rfl⟩
  go_wp2_with fail
  refine (rerr_all _ g [] false _ hr8).mono ?_
  rintro e w9 ⟨rfl, rfl⟩
  have he : errV false = 0 := rfl
  rw [he]
  go_wp2
  go_ret
  exact ⟨rfl, hc8⟩
end Go.Proofs.Yteokhbcpfhjhdaa.Pk
