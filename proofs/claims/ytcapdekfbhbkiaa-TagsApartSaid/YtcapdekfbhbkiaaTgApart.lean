/-
  TagsApart: for every input the law answers true, and leaves its arguments as they were. Its conditions: none.
-/
import Derived.Test.YtcapdekfbhbkiaaRows
import Derived.Test.YtcapdekfbhbkiaaTgApartW
import Derived.Test.YtcapdekfbhbkiaaTgO
namespace Go.Proofs.Ytcapdekfbhbkiaa.tagsApart
open Go.ChangeShapes Go.WideShapes Go.ChangeAt Go.RowKit Tg

theorem own : ownKnob Try.prog.godebug = none := by kernel_rfl
theorem laidOut : laidOutB Try.prog = true := by kernel_rfl

theorem readable_tags : Try.prog.readableRec 22 = true := by kernel_rfl
theorem row_tags : 22 < Try.prog.types.size := of_decide_eq_true (by kernel_rfl)
theorem readable_im : Try.prog.readableRec 28 = true := by kernel_rfl
theorem row_im : 28 < Try.prog.types.size := of_decide_eq_true (by kernel_rfl)
theorem readable_cell : Try.prog.readableRec 49 = true := by kernel_rfl
theorem row_cell : 49 < Try.prog.types.size := of_decide_eq_true (by kernel_rfl)

set_option maxRecDepth 100000 in
theorem lifted (os : Os) (started : os.Started) (H : Type) (enc : TypeId × Value → H) :
    ReturnsInHanded {} Try.checked os 8 .any (Rows.tagsApartSpec.pre6 enc Try.prog Try.f8 Rows.tagsApartRow.domain false) (Rows.tagsApartSpec.post enc Try.prog Try.f8 false true false false) := by
  refine returnsInHanded_of_change (C := Try.checked) own started (by kernel_rfl) Try.func8
    (ChangeSpec.witness6 (enc := enc) (C := Try.checked) false ⟨#[], #[.slice none 0 0, .agg #[.slice none 0 0, .slice none 0 0], .agg #[.string ⟨#[]⟩, .int .i64 0], .agg #[.string ⟨#[]⟩, .int .i64 0]], []⟩ 8 (by kernel_rfl) (by kernel_rfl) (by kernel_rfl) (by kernel_rfl)) ?_
  intro W base args ds gs before hval0 hW hcnd _
  have hval : ∀ (j : Nat) t v, Try.f8.params[j]? = some t → args[j]? = some v → Value.okWide Try.prog W .any base t v := hval0
  have hW' := hW
  obtain ⟨p, q, hA0, hV, rfl, hfz, hnd⟩ := hW
  have hA : DataW.TrodAll enc Try.prog W 0 (fun _ => true) true Try.f8.params.toList args.toList ds p := hA0
  rw [Try.params8] at hA hval
  obtain ⟨v0, vs0, d0, ds0, p0, q0, hargs, rfl, rfl, h0, r0⟩ := trodAll_cons hA
  obtain ⟨v1, vs1, d1, ds1, p1, q1, rfl, rfl, rfl, h1, r1⟩ := trodAll_cons r0
  obtain ⟨v2, vs2, d2, ds2, p2, q2, rfl, rfl, rfl, h2, r2⟩ := trodAll_cons r1
  obtain ⟨v3, vs3, d3, ds3, p3, q3, rfl, rfl, rfl, h3, r3⟩ := trodAll_cons r2
  obtain ⟨rfl, rfl, rfl⟩ := trodAll_nil r3
  obtain rfl : args = #[v0, v1, v2, v3] := by cases args; simp_all
  obtain ⟨rfl, rfl⟩ := trodVars_none hV
  have hlt := hW'.lt
  have k0 := h0
  obtain ⟨A0, l0, c0, rfl, hc0, hm0, hl0, hw0⟩ := open_tags (hval 0 22 v0 rfl rfl) k0
  have k1 := h1
  obtain ⟨im1, A1, B1, c1, d1', rfl, hV1, hB1⟩ := open_im (hval 1 28 v1 rfl rfl) k1
  have k2 := h2
  obtain ⟨x2, rfl⟩ := open_cell (hval 2 49 v2 rfl rfl) k2
  have k3 := h3
  obtain ⟨x3, rfl⟩ := open_cell (hval 3 49 v3 rfl rfl) k3
  refine (apartW A0 l0 c0 im1 A1 B1 c1 d1' x2 x3 W hc0 hl0 hw0 hV1 hB1).mono fun e W' h => ?_
  obtain ⟨rfl, hb⟩ := h
  exact ⟨_, rfl, _, _, _, [], _, [], hW', trodAll_cons_mk (shut_bool Try.underlying4 _) trodAll_mk0, (trodAll_cons_mk (Below.trod laidOut readable_tags row_tags h0 hb (fun x hx => hlt x (by simp [hx]))) (trodAll_cons_mk (Below.trod laidOut readable_im row_im h1 hb (fun x hx => hlt x (by simp [hx]))) (trodAll_cons_mk (Below.trod laidOut readable_cell row_cell h2 hb (fun x hx => hlt x (by simp [hx]))) (trodAll_cons_mk (Below.trod laidOut readable_cell row_cell h3 hb (fun x hx => hlt x (by simp [hx]))) trodAll_mk0)))), rfl, hb.frame _, fun h => by cases h⟩

theorem over : Rows.tagsApartRow.holds Try.pinned (OpenSpec.ofChange Rows.tagsApartSpec) :=
  OpenClaim.holds_of_wide 8 Try.f8 rfl rfl rfl rfl rfl rfl rfl ⟨rfl, rfl, rfl, rfl, rfl⟩ rfl rfl rfl rfl rfl (by kernel_rfl) Try.func8 (by kernel_rfl)
    (of_decide_eq_true (by kernel_rfl)) (by unfold Func.isWrapper; first | (rw [if_pos (by decide +kernel)]; kernel_rfl) | (rw [if_neg (by decide +kernel)]; exact ⟨rfl, rfl⟩))
    (fun os started H enc _ => lifted os started H enc)
end Go.Proofs.Ytcapdekfbhbkiaa.tagsApart
namespace Go.Proofs.Ytcapdekfbhbkiaa
theorem tagsApart_holds : Rows.TagsApartSaid := tagsApart.over
end Go.Proofs.Ytcapdekfbhbkiaa
