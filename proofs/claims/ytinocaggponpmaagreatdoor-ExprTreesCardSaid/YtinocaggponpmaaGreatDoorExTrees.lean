/-
  The walk of ExprTrees.
  ExprTrees: for every input the law answers true, and leaves its arguments as they were. Its conditions: none but the card's own (the listed tables lie as the program's text lays them, which the card ties).
-/
import Derived.Test.YtinocaggponpmaaGreatDoorExFr
import Derived.Test.YtinocaggponpmaaGreatDoorExNb
import Derived.Test.YtinocaggponpmaaGreatDoorExO
import Derived.Test.YtinocaggponpmaaGreatDoorExFrame
namespace Go.Proofs.YtinocaggponpmaaGreatDoor.Ep
open Go.RowKit Lx

def TrPost (w : World) (e : Ending) (w' : World) : Prop := e = .returned (.bool true) ∧ Below w.heap.size w w'
/-- The cells of the law's own tree. -/
def Four (b : Nat) (z0 z1 : Int) (s : ByteArray) (v : Value) (w : World) : Prop :=
  w.cell? ⟨b, 0, none⟩ = some (.int .i64 z0) ∧ w.cell? ⟨b, 1, none⟩ = some (.int .i64 z1) ∧ w.cell? ⟨b, 2, none⟩ = some (.string s) ∧ w.cell? ⟨b, 3, none⟩ = some v
set_option maxRecDepth 100000 in
set_option maxHeartbeats 8000000 in
theorem trees_walk (v : Value) (t : Ex) (w : World) (hT : TreeV (fun _ => True) w t v) (hN : numsE t) (hTab : Tab w) (hO : Ops w) :
    Calls Tryz.prog 4 #[v] w (TrPost w) := by
  obtain ⟨va, vcap, rfl, hvc, hvk⟩ := hT.open
  unfold exV at hT ⊢
  have hx0 := Box.new w 25 #[.int .i64 t.op, .int .i64 t.n, .string ⟨t.name.toArray⟩, .slice va t.kids.length vcap]
  have hbA : Below w.heap.size w (w.alloc (.cells #[.int .i64 t.op, .int .i64 t.n, .string ⟨t.name.toArray⟩, .slice va t.kids.length vcap] 25)) := (Below.refl _ _).alloc (Nat.le_refl _) _
  have hO0 := hO.below hbA hO.lt
  have hTab0 := Tab.belowB hTab hbA (Tab.lt hTab)
  have hT0 := hT.alloc (.cells #[.int .i64 t.op, .int .i64 t.n, .string ⟨t.name.toArray⟩, .slice va t.kids.length vcap] 25)
  clear hvk hT hO hTab
  go_enter Tryz.func4, Tryz.ntmps4
  go_wp2_with fail
  generalize w.alloc (.cells #[.int .i64 t.op, .int .i64 t.n, .string ⟨t.name.toArray⟩, .slice va t.kids.length vcap] 25) = w0 at *
  refine (awake_any w0 hO0 hTab0).mono ?_
  rintro e w1 ⟨rfl, hb1⟩
  have hx1 := hx0.below hb1 hx0.lt
  have hO1 := hO0.below hb1 hO0.lt
  have hTab1 := Tab.belowB hTab0 hb1 (Tab.lt hTab0)
  have hT1 := hT0.below hb1 (Nat.le_refl _)
  have hB1 := hbA.trans (hb1.mono hbA.size)
  clear hx0 hO0 hTab0 hT0 hb1 hbA
  obtain ⟨a0, a1, a2, a3, _, _, _, _⟩ := hx1.four
  go_wp2_with fail
  refine (light_short t _ _ w1 hT1).mono ?_
  rintro e w2 ⟨lb, rfl, HS, hb2⟩
  have hx2 := hx1.below hb2 hx1.lt
  have hO2 := hO1.below hb2 hO1.lt
  have hTab2 := Tab.belowB hTab1 hb2 (Tab.lt hTab1)
  have hT2 := hT1.below hb2 (Nat.le_refl _)
  have hB2 := hB1.trans (hb2.mono hB1.size)
  clear hx1 hO1 hTab1 hT1 hb2 hB1 a0 a1 a2 a3
  obtain ⟨a0, a1, a2, a3, _, _, _, _⟩ := hx2.four
  cases lb
  · clear HS
    go_wp2
    go_ret
    exact ⟨rfl, hB2⟩
  · have hsh := HS.out rfl
    have HNA : Hid (∀ wx, Below w2.heap.size w2 wx → Calls Tryz.prog 12 #[.agg #[.int .i64 t.op, .int .i64 t.n, .string ⟨t.name.toArray⟩, .slice va t.kids.length vcap]] wx (NsPost (namesP t) wx)) := fun wx hb => Names_any t _ _ wx (hO2.below hb hO2.lt) (hT2.below hb (Nat.le_refl _)) hN
    have HNB : Hid (∀ wx, Below w2.heap.size w2 wx → Calls Tryz.prog 13 #[.agg #[.int .i64 t.op, .int .i64 t.n, .string ⟨t.name.toArray⟩, .slice va t.kids.length vcap]] wx (NsPost (namesP t) wx)) := fun wx hb => refNames_any t _ _ wx (hT2.below hb (Nat.le_refl _)) hN hsh
    have HMA : Hid (∀ wx, Below w2.heap.size w2 wx → Calls Tryz.prog 14 #[.agg #[.int .i64 t.op, .int .i64 t.n, .string ⟨t.name.toArray⟩, .slice va t.kids.length vcap]] wx (BoB (mayB t) wx)) := fun wx hb => May_any t _ _ wx (hO2.below hb hO2.lt) (hT2.below hb (Nat.le_refl _))
    have HMB : Hid (∀ wx, Below w2.heap.size w2 wx → Calls Tryz.prog 15 #[.agg #[.int .i64 t.op, .int .i64 t.n, .string ⟨t.name.toArray⟩, .slice va t.kids.length vcap]] wx (BoB (mayB t) wx)) := fun wx hb => refMay_any t _ _ wx (hT2.below hb (Nat.le_refl _)) hsh
    have HPA : Hid (∀ wx, Below w2.heap.size w2 wx → Calls Tryz.prog 16 #[.agg #[.int .i64 t.op, .int .i64 t.n, .string ⟨t.name.toArray⟩, .slice va t.kids.length vcap]] wx (TxP (printE t) wx)) := fun wx hb => Print_any t _ _ wx (hO2.below hb hO2.lt) (Tab.belowB hTab2 hb (Tab.lt hTab2)) (hT2.below hb (Nat.le_refl _)) hN
    have HPB : Hid (∀ wx, Below w2.heap.size w2 wx → Calls Tryz.prog 17 #[.agg #[.int .i64 t.op, .int .i64 t.n, .string ⟨t.name.toArray⟩, .slice va t.kids.length vcap]] wx (TxP (printE t) wx)) := fun wx hb => refPrint_any t _ _ wx (hT2.below hb (Nat.le_refl _)) hN hsh
    have HRL : Hid ((namesP t).length ≤ 1000000) := by
      unfold Hid namesP
      split
      · rename_i hm
        have h1 := fold_len (namesE t) []
        have h2 := may_names hm hN
        simp at h1
        omega
      · simp
    have HC : Hid (∀ wx, Below w2.heap.size w2 wx → Four w.heap.size t.op t.n ⟨t.name.toArray⟩ (.slice va t.kids.length vcap) wx) := fun wx hb => by
      obtain ⟨q0, q1, q2, q3, _, _, _, _⟩ := (hx2.below hb hx2.lt).four
      exact ⟨q0, q1, q2, q3⟩
    clear hx2 hO2 hTab2 hT2 hN HS hsh
    generalize namesP t = R at *
    generalize printE t = T at *
    generalize mayB t = m at *
    generalize t.op = z0 at *
    generalize t.n = z1 at *
    generalize (⟨t.name.toArray⟩ : ByteArray) = nb at *
    generalize t.kids.length = kl at *
    have hd : Below w2.heap.size w2 w2.drew := (Below.refl _ _).drew
    have cd := HC.out _ hd
    go_wp2_with fail
    unfold Four at cd
    go_region_held (fun w' => w'.cell? ⟨w.heap.size, 0, none⟩ = some (.int .i64 z0) ∧ w'.cell? ⟨w.heap.size, 1, none⟩ = some (.int .i64 z1) ∧ w'.cell? ⟨w.heap.size, 2, none⟩ = some (.string nb) ∧ w'.cell? ⟨w.heap.size, 3, none⟩ = some (.slice va kl vcap)) (first | with_reducible exact cd | with_reducible exact e3 | with_reducible exact e4 | assumption)
      (first
        | (go_at_call 12; refine (HNA.out _ (by first | with_reducible exact hd | with_reducible exact hB4)).mono ?_; rintro e w3 ⟨v3, rfl, hr3, hb3⟩; have hB3 : Below w2.heap.size w2 w3 := (by first | exact hd.trans (hb3.mono hd.size) | exact hB4.trans (hb3.mono hB4.size)); have e3 := HC.out _ hB3; unfold Four at e3)
        | (go_at_call 13; refine (HNB.out _ (by first | with_reducible exact hd | with_reducible exact hB3)).mono ?_; rintro e w4 ⟨v4, rfl, hr4, hb4⟩; have hB4 : Below w2.heap.size w2 w4 := (by first | exact hd.trans (hb4.mono hd.size) | exact hB3.trans (hb4.mono hB3.size)); have e4 := HC.out _ hB4; unfold Four at e4)
        | (go_at_call 11; refine (texts_same R _ _ _ (by first | with_reducible exact hr3 | exact hr3.below hb4 (Nat.le_refl _)) (by first | with_reducible exact hr4 | exact hr4.below hb3 (Nat.le_refl _)) HRL.out).mono ?_; rintro e w5 ⟨rfl, q5, rfl⟩))
    have hq0 : Below w2.heap.size w2 (w4.drewN q5) := hB4.drewN q5
    clear hr3 hr4 hb3 hb4 e3 e4 cd hd HNA HNB HRL hB3 hB4
    generalize w4.drewN q5 = wq at *
    have hd : Below w2.heap.size w2 wq.drew := hq0.drew
    have cd := HC.out _ hd
    unfold Four at cd
    cases m
    all_goals
      go_wp2_with fail
      go_region_held (fun w' => w'.cell? ⟨w.heap.size, 0, none⟩ = some (.int .i64 z0) ∧ w'.cell? ⟨w.heap.size, 1, none⟩ = some (.int .i64 z1) ∧ w'.cell? ⟨w.heap.size, 2, none⟩ = some (.string nb) ∧ w'.cell? ⟨w.heap.size, 3, none⟩ = some (.slice va kl vcap)) (first | with_reducible exact cd | with_reducible exact e3 | with_reducible exact e4 | with_reducible exact e5 | with_reducible exact e6 | assumption)
        (first
          | (go_at_call 14; refine (HMA.out _ (by first | with_reducible exact hd | with_reducible exact hB4)).mono ?_; rintro e w3 ⟨rfl, hb3⟩; have hB3 : Below w2.heap.size w2 w3 := (by first | exact hd.trans (hb3.mono hd.size) | exact hB4.trans (hb3.mono hB4.size)); have e3 := HC.out _ hB3; unfold Four at e3)
          | (go_at_call 15; refine (HMB.out _ (by first | with_reducible exact hd | with_reducible exact hB3)).mono ?_; rintro e w4 ⟨rfl, hb4⟩; have hB4 : Below w2.heap.size w2 w4 := (by first | exact hd.trans (hb4.mono hd.size) | exact hB3.trans (hb4.mono hB3.size)); have e4 := HC.out _ hB4; unfold Four at e4)
          | (go_at_call 16; refine (HPA.out _ (by first | with_reducible exact hB3 | with_reducible exact hB4 | with_reducible exact hB6)).mono ?_; rintro e w5 ⟨rfl, hb5⟩; have hB5 : Below w2.heap.size w2 w5 := (by first | exact hB3.trans (hb5.mono hB3.size) | exact hB4.trans (hb5.mono hB4.size) | exact hB6.trans (hb5.mono hB6.size)); have e5 := HC.out _ hB5; unfold Four at e5)
          | (go_at_call 17; refine (HPB.out _ (by first | with_reducible exact hB3 | with_reducible exact hB4 | with_reducible exact hB5)).mono ?_; rintro e w6 ⟨rfl, hb6⟩; have hB6 : Below w2.heap.size w2 w6 := (by first | exact hB3.trans (hb6.mono hB3.size) | exact hB4.trans (hb6.mono hB4.size) | exact hB5.trans (hb6.mono hB5.size)); have e6 := HC.out _ hB6; unfold Four at e6))
      all_goals go_wp2
      all_goals go_ret
      all_goals exact ⟨by simp, hB2.trans (hB6.mono hB2.size)⟩
end Go.Proofs.YtinocaggponpmaaGreatDoor.Ep

namespace Go.Proofs.YtinocaggponpmaaGreatDoor.ExprTrees
open Go.ChangeShapes Go.WideShapes Go.ChangeAt Go.RowKit Ep

theorem laidOut : laidOutB Tryz.prog = true := by kernel_rfl
theorem readable_e : Tryz.prog.readableRec 25 = true := by kernel_rfl
theorem row_e : 25 < Tryz.prog.types.size := of_decide_eq_true (by kernel_rfl)

set_option maxRecDepth 100000 in
theorem contract (H : Type) (enc : TypeId × Value → H) (W : World) (base : Nat) (args : Array Value) (ds gs : List (DataW H)) (before : List MemPlace)
    (hval : ∀ (j : Nat) t v, Tryz.f4.params[j]? = some t → args[j]? = some v → Value.okWide Tryz.prog W .any base t v)
    (hW : DataW.Whole enc Tryz.prog Tryz.f4.params.toList Rows.exprTreesSpec.vars false W args.toList ds gs before) (hL : laidMetH Tryz.prog Rows.exprTreesRow.laid W) :
    Calls Tryz.prog 4 args W fun e W' => ∃ v, e = .returned v ∧ Rows.exprTreesSpec.post enc Tryz.prog Tryz.f4 false true false false W args v W' := by
  have hW' := hW
  obtain ⟨p, q, hA0, hV, rfl, hfz, hnd⟩ := hW
  have hA : DataW.TrodAll enc Tryz.prog W 0 (fun _ => true) true Tryz.f4.params.toList args.toList ds p := hA0
  rw [Tryz.params4] at hA hval
  obtain ⟨v0, vs0, d0, ds0, p0, q0, hargs, rfl, rfl, h0, r0⟩ := trodAll_cons hA
  obtain ⟨rfl, rfl, rfl⟩ := trodAll_nil r0
  obtain rfl : args = #[v0] := by cases args; simp_all
  obtain ⟨rfl, rfl⟩ := trodVars_none hV
  have hlt := hW'.lt
  have k0 := h0
  obtain ⟨t0, hT0, hN0⟩ := open_tree (hval 0 25 v0 rfl rfl) k0
  clear hA0
  refine (trees_walk v0 t0 W hT0 hN0 (table hL) (opsTable hL)).mono fun e W' h => ?_
  obtain ⟨rfl, hb⟩ := h
  exact ⟨_, rfl, _, _, _, [], _, [], hW', trodAll_cons_mk (shut_bool Tryz.underlying4 _) trodAll_mk0, (trodAll_cons_mk (Below.trod laidOut readable_e row_e h0 hb (fun x hx => hlt x (by simp [hx]))) trodAll_mk0), rfl, hb.frame _, fun h => by cases h⟩

set_option maxRecDepth 100000 in
theorem laid_met (os : Os) : laidMet Tryz.prog Rows.exprTreesRow.laid ((laidWorld os).forCall (fun _ _ => 0) ⟨#[], #[.agg #[.int .i64 0, .int .i64 0, .string ⟨#[]⟩, .slice none 0 0]], []⟩).memory :=
  laidMet_of_run' 8 (by kernel_rfl) (by kernel_rfl)
set_option maxRecDepth 100000 in
theorem reads (os : Os) {H : Type} (enc : TypeId × Value → H) : ∃ places, DataW.whole enc Tryz.prog ((laidWorld os).forCall (fun _ _ => 0) ⟨#[], #[.agg #[.int .i64 0, .int .i64 0, .string ⟨#[]⟩, .slice none 0 0]], []⟩).memory Tryz.f4.params.toList Rows.exprTreesSpec.vars false #[Value.agg #[.int .i64 0, .int .i64 0, .string ⟨#[]⟩, .slice none 0 0]].toList 8 = some ([.agg [.lit (.int .i64 0), .lit (.int .i64 0), .lit (.string []), .nil]], [], places) :=
  ⟨[], by kernel_rfl⟩

set_option maxRecDepth 100000 in
theorem lifted (os : Os) (started : os.Started) (H : Type) (enc : TypeId × Value → H) (F : Stop.Interp) :
    ReturnsInHanded {} Tryz.checked os 4 .any ((OpenSpec.ofChange Rows.exprTreesSpec).preRow enc Tryz.prog Tryz.f4 Rows.exprTreesRow.domain false Rows.exprTreesRow.laid) (((OpenSpec.ofChange Rows.exprTreesSpec).at F).post enc Tryz.prog Tryz.f4 false true false false) := by
  obtain ⟨places, hx⟩ := reads os enc
  refine returnsInHanded_of_row (C := Tryz.checked) (s := OpenSpec.ofChange Rows.exprTreesSpec) own started (by kernel_rfl) Tryz.func4
    (witness_row_at (enc := enc) (C := Tryz.checked) false (laidWorld os) #[.agg #[.int .i64 0, .int .i64 0, .string ⟨#[]⟩, .slice none 0 0]] rfl (by kernel_rfl) (by kernel_rfl) (by kernel_rfl)
      (OpenSpec.preRow_of_cond 8 hx (by kernel_rfl) (fun k hk => by cases hk) (by kernel_rfl) (laid_met os))) ?_
  intro W base args ds gs before hval hW _ _ _ hL _ _
  exact contract H enc W base args ds gs before hval hW hL

theorem said : Rows.ExprTreesSaid :=
  OpenClaim.holds_of_cond 4 Tryz.f4 rfl rfl rfl rfl rfl rfl rfl ⟨rfl, rfl, rfl, rfl, rfl⟩ rfl rfl rfl rfl rfl (by kernel_rfl) Tryz.func4 (by kernel_rfl)
    (of_decide_eq_true (by kernel_rfl)) (by unfold Func.isWrapper; first | (rw [if_pos (by decide +kernel)]; kernel_rfl) | (rw [if_neg (by decide +kernel)]; exact ⟨rfl, rfl⟩))
    (fun os started H enc _ F => by rw [OpenClaim.pre_eq_preRow]; exact lifted os started H enc F)

theorem plain (f : FuncId) (fn : Func) (hf : Tryz.pinned.checked.prog.funcNamed "malthouse/malthouselaw02.ExprTrees" = some f) (hfn : Tryz.pinned.checked.prog.funcs[f]? = some fn) :
    false = Tryz.pinned.checked.prog.looks [] ∧ ∀ (j : Nat) t, fn.params[j]? = some t → Tryz.pinned.checked.prog.wantsStandIn t = false := by
  obtain rfl : f = 4 := Option.some.inj ((show Tryz.prog.funcNamed "malthouse/malthouselaw02.ExprTrees" = some 4 by kernel_rfl).symm.trans hf) |>.symm
  obtain rfl : fn = Tryz.f4 := (Option.some.inj (Tryz.func4.symm.trans hfn)).symm
  refine ⟨by kernel_rfl, fun j t ht => ?_⟩
  rw [Tryz.params4] at ht
  have hm : t ∈ [25] := by simpa using Array.mem_of_getElem? ht
  have h0 : Tryz.prog.wantsStandIn 25 = false := by kernel_rfl
  simp only [List.mem_cons, List.not_mem_nil, or_false] at hm
  subst hm
  exact h0

theorem card : Rows.ExprTreesCardSaid :=
  Claim7.holds_tied_plain_at .later [] _ _ _ _ said (fun _ h => by cases h) (by kernel_rfl) (fun _ h => by cases h) exprTrees_row_tie rfl ⟨rfl, rfl⟩ (by kernel_rfl) rfl plain (by kernel_rfl)
end Go.Proofs.YtinocaggponpmaaGreatDoor.ExprTrees
namespace Go.Proofs.YtinocaggponpmaaGreatDoor
theorem exprTrees_holds : Rows.ExprTreesCardSaid := ExprTrees.card
end Go.Proofs.YtinocaggponpmaaGreatDoor
