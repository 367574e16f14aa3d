/-
  The walk of ExprTexts.
  ExprTexts: for every input the law answers true, and leaves its arguments as they were. Its conditions: none but the card's own (the listed tables lie as the program's text lays them, which the card ties).
-/
import Derived.Test.YtinocaggponpmaaGreatDoorExFr
import Derived.Test.YtinocaggponpmaaGreatDoorExSame
import Derived.Test.YtinocaggponpmaaGreatDoorExUb
import Derived.Test.YtinocaggponpmaaGreatDoorExFrame
namespace Go.Proofs.YtinocaggponpmaaGreatDoor.Ep
open Go.RowKit Lx

/-- What either Parse hands back: a tree that may be none. -/
theorem ppost_got {r : Option Ex × Int × Int} {w w' : World} {e : Ending} (h : PPost r w e w') :
    ∃ a cp, e = .returned (.tuple #[exV ((r.1.getD (.mk 0 0 [] [])).op) ((r.1.getD (.mk 0 0 [] [])).n) ((r.1.getD (.mk 0 0 [] [])).name) a (r.1.getD (.mk 0 0 [] [])).kids.length cp, .int .i64 r.2.1, .int .i64 r.2.2]) ∧
      TreeV (fun k => w.heap.size ≤ k) w' (r.1.getD (.mk 0 0 [] [])) (exV ((r.1.getD (.mk 0 0 [] [])).op) ((r.1.getD (.mk 0 0 [] [])).n) ((r.1.getD (.mk 0 0 [] [])).name) a (r.1.getD (.mk 0 0 [] [])).kids.length cp) ∧ Below w.heap.size w w' := by
  obtain ⟨t, f, a⟩ := r
  cases t with
  | none =>
    obtain ⟨rfl, hb⟩ := h
    exact ⟨none, 0, rfl, tree_leaf _ _ _ _ _, hb⟩
  | some t =>
    obtain ⟨v, rfl, hT, hb⟩ := h
    obtain ⟨x, cp, rfl, -, -⟩ := hT.open
    exact ⟨x, cp, rfl, hT, hb⟩
theorem parse_k2' (s : List UInt8) : k2E ((parseP s).1.getD (.mk 0 0 [] [])) := by
  cases h : parseP s with
  | mk t r =>
    obtain ⟨f, a⟩ := r
    cases t with
    | none => simp [k2E, k2L]
    | some t => exact (parse_k2 h).1

def TxPost (w : World) (e : Ending) (w' : World) : Prop := e = .returned (.bool true) ∧ Below w.heap.size w w'
set_option maxRecDepth 100000 in
set_option maxHeartbeats 4000000 in
theorem texts_walk (s : ByteArray) (w : World) (hs : s.size ≤ 9223372036854775807) (hTab : Tab w) (hO : Ops w) :
    Calls Tryz.prog 3 #[.string s] w (TxPost w) := by
  by_cases hbig : 5000 < s.size
  · have d0 : decide ((5000 : Int) < s.size) = true := decide_eq_true (by omega)
    go_enter Tryz.func3, Tryz.ntmps3
    go_wp2_with fail
    refine (awake_any w hO hTab).mono ?_
    rintro e w1 ⟨rfl, hb1⟩
    go_wp2
    go_ret
    exact ⟨rfl, hb1⟩
  · have d0 : decide ((5000 : Int) < s.size) = false := decide_eq_false (by omega)
    have HP1 := Lib.hid (fun wx h => Parse_any s wx hs h)
    have HP2 := Lib.hid (fun wx => refParse_any s wx (by omega))
    have HK := Lib.hid (parse_k2' s.data.toList)
    clear hbig hs
    generalize parseP s.data.toList = r at *
    go_enter Tryz.func3, Tryz.ntmps3
    go_wp2_with fail
    refine (awake_any w hO hTab).mono ?_
    rintro e w1 ⟨rfl, hb1⟩
    have hO1 := hO.below hb1 hO.lt
    clear hO hTab
    go_wp2_with fail
    refine (HP1.out _ hO1).mono ?_
    intro e w2 hpost
    obtain ⟨a, cp, rfl, hT, hb2⟩ := ppost_got hpost
    clear hpost hO1
    have hB2 := hb1.trans (hb2.mono hb1.size)
    clear hb1 hb2
    have HKT : Hid (k2E (r.1.getD (.mk 0 0 [] []))) := HK.out
    have HG : Hid (∀ wx wy e, PPost r wx e wy → ∃ a cp, e = .returned (.tuple #[exV ((r.1.getD (.mk 0 0 [] [])).op) ((r.1.getD (.mk 0 0 [] [])).n) ((r.1.getD (.mk 0 0 [] [])).name) a (r.1.getD (.mk 0 0 [] [])).kids.length cp, .int .i64 r.2.1, .int .i64 r.2.2]) ∧ TreeV (fun k => wx.heap.size ≤ k) wy (r.1.getD (.mk 0 0 [] [])) (exV ((r.1.getD (.mk 0 0 [] [])).op) ((r.1.getD (.mk 0 0 [] [])).n) ((r.1.getD (.mk 0 0 [] [])).name) a (r.1.getD (.mk 0 0 [] [])).kids.length cp) ∧ Below wx.heap.size wx wy) := fun _ _ _ h => ppost_got h
    clear HK
    generalize r.1.getD (.mk 0 0 [] []) = t at *
    have hx1 := Box.new w2 25 #[.int .i64 t.op, .int .i64 t.n, .string ⟨t.name.toArray⟩, .slice a t.kids.length cp]
    have hT1 := hT.alloc (.cells #[.int .i64 t.op, .int .i64 t.n, .string ⟨t.name.toArray⟩, .slice a t.kids.length cp] 25)
    have hB3 := hB2.alloc hB2.size (.cells #[.int .i64 t.op, .int .i64 t.n, .string ⟨t.name.toArray⟩, .slice a t.kids.length cp] 25)
    clear hT hB2
    unfold exV
    go_wp2_with fail
    refine (HP2.out _).mono ?_
    intro e w3 hpost
    obtain ⟨a', cp', rfl, hT', hb3⟩ := HG.out _ _ _ hpost
    clear hpost HG HP1 HP2
    have hx2 := (hx1.below hb3 hx1.lt).alloc (.cells #[.int .i64 t.op, .int .i64 t.n, .string ⟨t.name.toArray⟩, .slice a' t.kids.length cp'] 25)
    have hy2 := Box.new w3 25 #[.int .i64 t.op, .int .i64 t.n, .string ⟨t.name.toArray⟩, .slice a' t.kids.length cp']
    have hT2 := (hT1.below hb3 (Nat.le_refl _)).alloc (.cells #[.int .i64 t.op, .int .i64 t.n, .string ⟨t.name.toArray⟩, .slice a' t.kids.length cp'] 25)
    have hT2' := hT'.alloc (.cells #[.int .i64 t.op, .int .i64 t.n, .string ⟨t.name.toArray⟩, .slice a' t.kids.length cp'] 25)
    have hB4 := (hB3.trans (hb3.mono hB3.size)).alloc (hB3.trans (hb3.mono hB3.size)).size (.cells #[.int .i64 t.op, .int .i64 t.n, .string ⟨t.name.toArray⟩, .slice a' t.kids.length cp'] 25)
    clear hT1 hT' hx1 hb3 hB3
    obtain ⟨x0, x1, x2, x3, -, -, -, -⟩ := hx2.four
    obtain ⟨y0, y1, y2, y3, -, -, -, -⟩ := hy2.four
    have HS := Lib.hid (same_any t _ _ _ _ _ HKT.out hT2 hT2')
    have hB4s := hB4.size
    generalize r.2.1 = f at *
    generalize r.2.2 = k at *
    have df : (f == f) = true := by simp
    have dk : (k == k) = true := by simp
    unfold exV
    go_wp2_with fail
    refine HS.out.mono ?_
    rintro e w5 ⟨rfl, hb5⟩
    go_wp2
    go_ret
    exact ⟨rfl, hB4.trans (hb5.mono hB4s)⟩
end Go.Proofs.YtinocaggponpmaaGreatDoor.Ep

namespace Go.Proofs.YtinocaggponpmaaGreatDoor.ExprTexts
open Go.ChangeShapes Go.WideShapes Go.ChangeAt Go.RowKit Ep

set_option maxRecDepth 100000 in
theorem contract (H : Type) (enc : TypeId × Value → H) (W : World) (base : Nat) (args : Array Value) (ds gs : List (DataW H)) (before : List MemPlace)
    (hval : ∀ (j : Nat) t v, Tryz.f3.params[j]? = some t → args[j]? = some v → Value.okWide Tryz.prog W .any base t v)
    (hW : DataW.Whole enc Tryz.prog Tryz.f3.params.toList Rows.exprTextsSpec.vars false W args.toList ds gs before) (hL : laidMetH Tryz.prog Rows.exprTextsRow.laid W) :
    Calls Tryz.prog 3 args W fun e W' => ∃ v, e = .returned v ∧ Rows.exprTextsSpec.post enc Tryz.prog Tryz.f3 false true false false W args v W' := by
  have hW' := hW
  obtain ⟨p, q, hA0, hV, rfl, hfz, hnd⟩ := hW
  have hA : DataW.TrodAll enc Tryz.prog W 0 (fun _ => true) true Tryz.f3.params.toList args.toList ds p := hA0
  rw [Tryz.params3] at hA hval
  obtain ⟨v0, vs0, d0, ds0, p0, q0, hargs, rfl, rfl, h0, r0⟩ := trodAll_cons hA
  obtain ⟨rfl, rfl, rfl⟩ := trodAll_nil r0
  obtain rfl : args = #[v0] := by cases args; simp_all
  obtain ⟨rfl, rfl⟩ := trodVars_none hV
  obtain ⟨x0, rfl, rfl, rfl, w0⟩ := Go.ChangeMaps.open_string Tryz.underlying9 (hval 0 9 v0 rfl rfl) h0
  clear hA0
  refine (texts_walk x0 W (by unfold maxLen at w0; exact w0) (table hL) (opsTable hL)).mono fun e W' h => ?_
  obtain ⟨rfl, hb⟩ := h
  exact ⟨_, rfl, _, _, _, [], [], [], hW', trodAll_cons_mk (shut_bool Tryz.underlying4 _) trodAll_mk0, (trodAll_cons_mk (Go.ChangeMaps.shut_string Tryz.underlying9 w0) trodAll_mk0), rfl, hb.frame _, fun h => by cases h⟩

set_option maxRecDepth 100000 in
theorem laid_met (os : Os) : laidMet Tryz.prog Rows.exprTextsRow.laid ((laidWorld os).forCall (fun _ _ => 0) ⟨#[], #[.string ⟨#[]⟩], []⟩).memory :=
  laidMet_of_run' 8 (by kernel_rfl) (by kernel_rfl)
set_option maxRecDepth 100000 in
theorem reads (os : Os) {H : Type} (enc : TypeId × Value → H) : ∃ places, DataW.whole enc Tryz.prog ((laidWorld os).forCall (fun _ _ => 0) ⟨#[], #[.string ⟨#[]⟩], []⟩).memory Tryz.f3.params.toList Rows.exprTextsSpec.vars false #[Value.string ⟨#[]⟩].toList 8 = some ([.lit (.string [])], [], places) :=
  ⟨[], by kernel_rfl⟩

set_option maxRecDepth 100000 in
theorem lifted (os : Os) (started : os.Started) (H : Type) (enc : TypeId × Value → H) (F : Stop.Interp) :
    ReturnsInHanded {} Tryz.checked os 3 .any ((OpenSpec.ofChange Rows.exprTextsSpec).preRow enc Tryz.prog Tryz.f3 Rows.exprTextsRow.domain false Rows.exprTextsRow.laid) (((OpenSpec.ofChange Rows.exprTextsSpec).at F).post enc Tryz.prog Tryz.f3 false true false false) := by
  obtain ⟨places, hx⟩ := reads os enc
  refine returnsInHanded_of_row (C := Tryz.checked) (s := OpenSpec.ofChange Rows.exprTextsSpec) own started (by kernel_rfl) Tryz.func3
    (witness_row_at (enc := enc) (C := Tryz.checked) false (laidWorld os) #[.string ⟨#[]⟩] rfl (by kernel_rfl) (by kernel_rfl) (by kernel_rfl)
      (OpenSpec.preRow_of_cond 8 hx (by kernel_rfl) (fun k hk => by cases hk) (by kernel_rfl) (laid_met os))) ?_
  intro W base args ds gs before hval hW _ _ _ hL _ _
  exact contract H enc W base args ds gs before hval hW hL

theorem said : Rows.ExprTextsSaid :=
  OpenClaim.holds_of_cond 3 Tryz.f3 rfl rfl rfl rfl rfl rfl rfl ⟨rfl, rfl, rfl, rfl, rfl⟩ rfl rfl rfl rfl rfl (by kernel_rfl) Tryz.func3 (by kernel_rfl)
    (of_decide_eq_true (by kernel_rfl)) (by unfold Func.isWrapper; first | (rw [if_pos (by decide +kernel)]; kernel_rfl) | (rw [if_neg (by decide +kernel)]; exact ⟨rfl, rfl⟩))
    (fun os started H enc _ F => by rw [OpenClaim.pre_eq_preRow]; exact lifted os started H enc F)

theorem plain (f : FuncId) (fn : Func) (hf : Tryz.pinned.checked.prog.funcNamed "malthouse/malthouselaw02.ExprTexts" = some f) (hfn : Tryz.pinned.checked.prog.funcs[f]? = some fn) :
    false = Tryz.pinned.checked.prog.looks [] ∧ ∀ (j : Nat) t, fn.params[j]? = some t → Tryz.pinned.checked.prog.wantsStandIn t = false := by
  obtain rfl : f = 3 := Option.some.inj ((show Tryz.prog.funcNamed "malthouse/malthouselaw02.ExprTexts" = some 3 by kernel_rfl).symm.trans hf) |>.symm
  obtain rfl : fn = Tryz.f3 := (Option.some.inj (Tryz.func3.symm.trans hfn)).symm
  refine ⟨by kernel_rfl, fun j t ht => ?_⟩
  rw [Tryz.params3] at ht
  have hm : t ∈ [9] := by simpa using Array.mem_of_getElem? ht
  have h0 : Tryz.prog.wantsStandIn 9 = false := by kernel_rfl
  simp only [List.mem_cons, List.not_mem_nil, or_false] at hm
  subst hm
  exact h0

theorem card : Rows.ExprTextsCardSaid :=
  Claim7.holds_tied_plain_at .later [] _ _ _ _ said (fun _ h => by cases h) (by kernel_rfl) (fun _ h => by cases h) exprTexts_row_tie rfl ⟨rfl, rfl⟩ (by kernel_rfl) rfl plain (by kernel_rfl)
end Go.Proofs.YtinocaggponpmaaGreatDoor.ExprTexts
namespace Go.Proofs.YtinocaggponpmaaGreatDoor
theorem exprTexts_holds : Rows.ExprTextsCardSaid := ExprTexts.card
end Go.Proofs.YtinocaggponpmaaGreatDoor
