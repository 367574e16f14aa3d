/-
  TagsWithin: for every input the law answers true, and leaves its arguments as they were. Its conditions: none.
-/
import Derived.Test.YtppffmmngomijaaRows
import Derived.Test.YtppffmmngomijaaTgWithinW
import Derived.Test.YtppffmmngomijaaTgO
import Derived.Test.YtppffmmngomijaaTgN1
namespace Go.Proofs.Ytppffmmngomijaa.tagsWithin
open Go.ChangeShapes Go.WideShapes Go.ChangeAt Go.RowKit Tg

theorem own : ownKnob Try.prog.godebug = none := by kernel_rfl
theorem laidOut : laidOutB Try.prog = true := by kernel_rfl

theorem readable_tags : Try.prog.readableRec 22 = true := by kernel_rfl
theorem row_tags : 22 < Try.prog.types.size := of_decide_eq_true (by kernel_rfl)
theorem readable_turns : Try.prog.readableRec 44 = true := by kernel_rfl
theorem row_turns : 44 < Try.prog.types.size := of_decide_eq_true (by kernel_rfl)

set_option maxRecDepth 100000 in
theorem lifted (os : Os) (started : os.Started) (H : Type) (enc : TypeId × Value → H) :
    ReturnsInHanded {} Try.checked os 7 .any (Rows.tagsWithinSpec.pre6 enc Try.prog Try.f7 Rows.tagsWithinRow.domain false) (Rows.tagsWithinSpec.post enc Try.prog Try.f7 false true false false) := by
  refine returnsInHanded_of_change (C := Try.checked) own started (by kernel_rfl) Try.func7
    (ChangeSpec.witness6 (enc := enc) (C := Try.checked) false ⟨#[], #[.slice none 0 0, .slice none 0 0], []⟩ 8 (by kernel_rfl) (by kernel_rfl) (by kernel_rfl) (by kernel_rfl)) ?_
  intro W base args ds gs before hval0 hW hcnd _
  have hval : ∀ (j : Nat) t v, Try.f7.params[j]? = some t → args[j]? = some v → Value.okWide Try.prog W .any base t v := hval0
  have hW' := hW
  obtain ⟨p, q, hA0, hV, rfl, hfz, hnd⟩ := hW
  have hA : DataW.TrodAll enc Try.prog W 0 (fun _ => true) true Try.f7.params.toList args.toList ds p := hA0
  rw [Try.params7] at hA hval
  obtain ⟨v0, vs0, d0, ds0, p0, q0, hargs, rfl, rfl, h0, r0⟩ := trodAll_cons hA
  obtain ⟨v1, vs1, d1, ds1, p1, q1, rfl, rfl, rfl, h1, r1⟩ := trodAll_cons r0
  obtain ⟨rfl, rfl, rfl⟩ := trodAll_nil r1
  obtain rfl : args = #[v0, v1] := by cases args; simp_all
  obtain ⟨rfl, rfl⟩ := trodVars_none hV
  have hlt := hW'.lt
  have k0 := h0
  obtain ⟨A0, l0, c0, rfl, hc0, hm0, hl0, hw0⟩ := open_tags (hval 0 22 v0 rfl rfl) k0
  have k1 := h1
  obtain ⟨A1, l1, c1, rfl, hc1, hm1, hl1, hw1⟩ := open_turns (hval 1 44 v1 rfl rfl) k1
  refine (withinW A0 l0 c0 A1 l1 c1 W hc0 hl0 hw0 hc1 hl1 hw1).mono fun e W' h => ?_
  obtain ⟨rfl, hb⟩ := h
  exact ⟨_, rfl, _, _, _, [], _, [], hW', trodAll_cons_mk (shut_bool Try.underlying4 _) trodAll_mk0, (trodAll_cons_mk (Below.trod laidOut readable_tags row_tags h0 hb (fun x hx => hlt x (by simp [hx]))) (trodAll_cons_mk (Below.trod laidOut readable_turns row_turns h1 hb (fun x hx => hlt x (by simp [hx]))) trodAll_mk0)), rfl, hb.frame _, fun h => by cases h⟩

theorem over : Rows.tagsWithinRow.holds Try.pinned (OpenSpec.ofChange Rows.tagsWithinSpec) :=
  OpenClaim.holds_of_wide 7 Try.f7 rfl rfl rfl rfl rfl rfl rfl ⟨rfl, rfl, rfl, rfl, rfl⟩ rfl rfl rfl rfl rfl (by kernel_rfl) Try.func7 (by kernel_rfl)
    (of_decide_eq_true (by kernel_rfl)) (by unfold Func.isWrapper; first | (rw [if_pos (by decide +kernel)]; kernel_rfl) | (rw [if_neg (by decide +kernel)]; exact ⟨rfl, rfl⟩))
    (fun os started H enc _ => lifted os started H enc)
end Go.Proofs.Ytppffmmngomijaa.tagsWithin
namespace Go.Proofs.Ytppffmmngomijaa
theorem tagsWithin_holds : Rows.TagsWithinSaid := tagsWithin.over
end Go.Proofs.Ytppffmmngomijaa
