/-
  LexBack: what was cut, written with blanks between its tokens, is cut to the same tokens, but for places. For every input (texts of more than 3000 bytes: the law asks nothing of them); the library's tables as the program's text lays them.
-/
import Derived.Test.YtbbebnbofalmlaaDoorLexFrame
import Derived.Test.YtbbebnbofalmlaaDoorLexK
import Derived.BigQuiet
import Derived.Deep.QuietTactic
namespace Go.Proofs.YtbbebnbofalmlaaDoor.Lx
open Go.RowKit

theorem Likes.get {ts : List Tok} : ∀ {us : List Tok}, Likes ts us → ∀ k, k < ts.length → Like (ts.getD k zTok) (us.getD k zTok) := by
  induction ts with
  | nil => intro us _ k hk; simp at hk
  | cons t ts ih =>
    intro us h k hk
    cases us with
    | nil => cases h
    | cons u us =>
      cases k with
      | zero => exact h.1
      | succ k => exact ih h.2 k (by simp at hk; omega)

set_option maxRecDepth 100000 in
set_option maxHeartbeats 8000000 in
theorem back_walk (s : ByteArray) (w : World) (hs : s.size ≤ 9223372036854775807) (hT : Tab w) :
    Calls Tryd.prog 8 #[.string s] w fun e w' => e = .returned (.bool true) ∧ Below w.heap.size w w' := by
  by_cases hbig : 3000 < s.size
  · go_enter Tryd.func8, Tryd.ntmps8
    go_wp2_with fail
    refine (awake_any _ hT).mono ?_
    rintro e w1 ⟨rfl, hb⟩
    go_wp2_with fail
    go_ret
    exact ⟨rfl, hb⟩
  · have hsm : s.size ≤ 3000 := by omega
    have hll : s.data.toList.length = s.size := Array.length_toList
    have hrl := rn_len s.data.toList
    have hrun := cut_run s.data.toList (by omega)
    rw [hll] at hrun hrl
    clear hll
    have d0 : decide ((3000 : Int) < s.size) = false := by simp; omega
    clear hbig hs
    rcases hrun with ⟨e0, p, q1, q2, q3, q4⟩ | ⟨ts, q1, q2, q3, q4, q5, q6⟩
    · have HQ := Lib.hid q1
      have be : (e0 != 0) = true := by simp [q2]
      clear q1 q2
      go_enter Tryd.func8, Tryd.ntmps8
      go_wp2_with fail
      refine (awake_any _ hT).mono ?_
      rintro e w1 ⟨rfl, hb1⟩
      clear hT
      go_wp2_with fail
      refine (Cut_any _ _ (by omega)).mono ?_
      rintro e w2 ⟨v, rfl, hown, hb2⟩
      rw [HQ.out] at hown ⊢
      simp only at hown ⊢
      obtain ⟨A, c, rfl⟩ := ownsRow_slice hown
      clear hown
      have hb12 := hb1.trans (hb2.mono hb1.size)
      clear hb1 hb2
      go_wp2_with fail
      go_ret
      exact ⟨rfl, hb12⟩
    · obtain ⟨us, b, r1, r2⟩ := cut_again ts _ q2 q3 (by omega)
      have hul := r2.length
      have hjl := joined_len ts
      have HQ := Lib.hid q1
      have HR := Lib.hid r1
      have hlike : ∀ k, k < ts.length + 1 → Like ((ts ++ ([⟨0, [], 0, ((rn s.data.toList).length : Int)⟩] : List Tok)).getD k zTok) ((us ++ ([⟨0, [], 0, b⟩] : List Tok)).getD k zTok) := by
        have h := r2.append (ts' := [⟨0, [], 0, ((rn s.data.toList).length : Int)⟩]) (us' := [⟨0, [], 0, b⟩]) ⟨⟨rfl, rfl, rfl⟩, trivial⟩
        intro k hk
        exact h.get k (by simp; omega)
      have HK := Lib.hid hlike
      have HJ : Hid (joinedL (ts ++ ([⟨0, [], 0, ((rn s.data.toList).length : Int)⟩] : List Tok)) = joinedL ts ++ [32]) := by
        unfold Hid joinedL; rw [List.flatMap_append]; rfl
      have hjl2 : (joinedL (ts ++ ([⟨0, [], 0, ((rn s.data.toList).length : Int)⟩] : List Tok))).length ≤ 100000 := by
        rw [HJ.out, List.length_append, hjl]; simp; omega
      have hlen : (ts ++ ([⟨0, [], 0, ((rn s.data.toList).length : Int)⟩] : List Tok)).length = ts.length + 1 := by simp
      have hlen2 : (us ++ ([⟨0, [], 0, b⟩] : List Tok)).length = ts.length + 1 := by simp [hul]
      have HJL := Lib.hid hjl2
      have HL1 := Lib.hid hlen
      have HL2 := Lib.hid hlen2
      clear q1 q2 q4 q6 r1 r2 hlike hul hjl hjl2 hlen hlen2
      generalize (rn s.data.toList).length = hi at *
      generalize ts ++ ([⟨0, [], 0, (hi : Int)⟩] : List Tok) = L at *
      generalize us ++ ([⟨0, [], 0, b⟩] : List Tok) = M at *
      go_enter Tryd.func8, Tryd.ntmps8
      go_wp2_with fail
      refine (awake_any _ hT).mono ?_
      rintro e w1 ⟨rfl, hb1⟩
      clear hT
      go_wp2_with fail
      refine (Cut_any _ _ (by omega)).mono ?_
      rintro e w2 ⟨v, rfl, hown, hb2⟩
      rw [HQ.out] at hown ⊢
      simp only at hown ⊢
      obtain ⟨A, c, rfl⟩ := ownsRow_slice hown
      obtain ⟨_, hcap, hrow⟩ := own_toks hown
      obtain ⟨g, rfl, hgl, hcells⟩ := hrow (by rw [HL1.out]; omega)
      clear hown hrow
      have hb12 := hb1.trans (hb2.mono hb1.size)
      clear hb1 hb2
      have HC := Lib.hid hcells
      clear hcells
      go_wp2_with fail
      refine (Joined_any g c L w2 hcap (by rw [HL1.out]; omega) HJL.out (fun k hk => ⟨(HC.out k hk).1, (HC.out k hk).2.1⟩)).mono ?_
      rintro e w' ⟨rfl, rfl⟩
      rw [HJ.out]
      go_wp2_with fail
      refine (Cut_any _ _ (by
        show (joinedL ts ++ [32]).toArray.size ≤ _
        have := HJL.out
        rw [HJ.out] at this
        rw [List.size_toArray]; omega)).mono ?_
      rintro e w3 ⟨v, rfl, hown, hb3⟩
      have HR' : cutL (⟨(joinedL ts ++ ([32] : List UInt8)).toArray⟩ : ByteArray).data.toList = (M, 0, 0) := HR.out
      rw [HR'] at hown ⊢
      clear HR'
      simp only at hown ⊢
      obtain ⟨A', c', rfl⟩ := ownsRow_slice hown
      obtain ⟨_, hcap', hrow⟩ := own_toks hown
      obtain ⟨g', rfl, hgl', hcells'⟩ := hrow (by rw [HL2.out]; omega)
      clear hown hrow
      have hb13 := hb12.trans (hb3.mono hb12.size)
      have HC3 : Hid (∀ k (_hk : k < L.length), w3.cell? ⟨g, k * 4, none⟩ = some (.int .i64 (L.getD k zTok).kind) ∧ w3.cell? ⟨g, k * 4 + 1, none⟩ = some (.string ⟨(L.getD k zTok).text.toArray⟩) ∧
          w3.cell? ⟨g, k * 4 + 2, none⟩ = some (.int .i64 (L.getD k zTok).n)) := fun k hk => by
        obtain ⟨x0, x1, x2, _⟩ := HC.out k hk
        exact ⟨(hb3.cell (p := ⟨g, k * 4, none⟩) hgl).trans x0, (hb3.cell (p := ⟨g, k * 4 + 1, none⟩) hgl).trans x1, (hb3.cell (p := ⟨g, k * 4 + 2, none⟩) hgl).trans x2⟩
      have HC4 := Lib.hid hcells'
      clear hcells' HC hb12 hb3 HJ HJL HQ HR
      rw [HL1.out] at hcap HC3 ⊢
      rw [HL2.out] at hcap' HC4 ⊢
      go_wp2_with fail
      go_loopw [10] (fun i wr => ∃ k : Nat, k ≤ ts.length + 1 ∧ i = .int .i64 k ∧ ∃ n, wr = w3.drewN n) (fun i _ => ts.length + 1 - (intOf i).toNat)
      case atStart => exact ⟨0, by omega, rfl, 0, rfl⟩
      case round =>
        obtain ⟨k, hk, rfl, nd, rfl⟩ := hrel
        by_cases hlt : k < ts.length + 1
        · obtain ⟨x0, x1, x2⟩ := HC3.out k hlt
          obtain ⟨y0, y1, y2, _⟩ := HC4.out k hlt
          obtain ⟨l0, l1, l2⟩ := HK.out k hlt
          rw [← l0] at y0
          rw [← l1] at y1
          rw [← l2] at y2
          clear l0 l1 l2 HC3 HC4 HK
          generalize L.getD k zTok = x at *
          obtain ⟨xk, xt, xn, xa⟩ := x
          simp only at *
          have t1 : (xk != xk) = false := by simp
          have t2 : (xn != xn) = false := by simp
          go_wp2_with fail
          go_quiet (fail)
          clear t1 t2
          go_wp2_with fail
          go_roundw
          case rel => exact ⟨k + 1, by omega, by go_num, _, rfl⟩
          case measure => simp [intOf]; omega
        · go_wp2_with fail
          go_ret
          exact ⟨rfl, below_drewN hb13 _⟩
end Go.Proofs.YtbbebnbofalmlaaDoor.Lx
namespace Go.Proofs.YtbbebnbofalmlaaDoor.LexBack
open Go.ChangeShapes Go.WideShapes Go.ChangeAt Go.RowKit Lx

theorem contract (H : Type) (enc : TypeId × Value → H) (W : World) (base : Nat) (args : Array Value) (ds gs : List (DataW H)) (before : List MemPlace)
    (hval : ∀ (j : Nat) t v, Tryd.f8.params[j]? = some t → args[j]? = some v → Value.okWide Tryd.prog W .any base t v)
    (hW : DataW.Whole enc Tryd.prog Tryd.f8.params.toList Rows.lexBackSpec.vars false W args.toList ds gs before) (hL : laidMetH Tryd.prog Rows.lexBackRow.laid W) :
    Calls Tryd.prog 8 args W fun e W' => ∃ v, e = .returned v ∧ Rows.lexBackSpec.post enc Tryd.prog Tryd.f8 false true false false W args v W' := by
  have hW' := hW
  obtain ⟨p, q, hA0, hV, rfl, hfz, hnd⟩ := hW
  have hA : DataW.TrodAll enc Tryd.prog W 0 (fun _ => true) true Tryd.f8.params.toList args.toList ds p := hA0
  rw [Tryd.params8] at hA hval
  obtain ⟨v0, vs0, d0, ds0, p0, q0, hargs, rfl, rfl, h0, r0⟩ := trodAll_cons hA
  obtain ⟨rfl, rfl, rfl⟩ := trodAll_nil r0
  obtain rfl : args = #[v0] := by cases args; simp_all
  obtain ⟨rfl, rfl⟩ := trodVars_none hV
  obtain ⟨x0, rfl, rfl, rfl, w0⟩ := Go.ChangeMaps.open_string Tryd.underlying9 (hval 0 9 v0 rfl rfl) h0
  clear hA0
  refine (back_walk x0 W (by unfold maxLen at w0; exact w0) (table hL)).mono fun e W' h => ?_
  obtain ⟨rfl, hb⟩ := h
  exact ⟨_, rfl, _, _, _, [], [], [], hW', trodAll_cons_mk (shut_bool Tryd.underlying4 _) trodAll_mk0, (trodAll_cons_mk (Go.ChangeMaps.shut_string Tryd.underlying9 w0) trodAll_mk0), rfl, hb.frame _, fun h => by cases h⟩

theorem laid_met (os : Os) : laidMet Tryd.prog Rows.lexBackRow.laid ((laidWorld os).forCall (fun _ _ => 0) ⟨#[], #[.string ⟨#[]⟩], []⟩).memory :=
  laidMet_of_run' 8 (by kernel_rfl) (by kernel_rfl)
theorem reads (os : Os) {H : Type} (enc : TypeId × Value → H) : ∃ places, DataW.whole enc Tryd.prog ((laidWorld os).forCall (fun _ _ => 0) ⟨#[], #[.string ⟨#[]⟩], []⟩).memory Tryd.f8.params.toList Rows.lexBackSpec.vars false #[Value.string ⟨#[]⟩].toList 8 = some ([.lit (.string [])], [], places) :=
  ⟨[], by kernel_rfl⟩

set_option maxRecDepth 100000 in
theorem lifted (os : Os) (started : os.Started) (H : Type) (enc : TypeId × Value → H) (F : Stop.Interp) :
    ReturnsInHanded {} Tryd.checked os 8 .any ((OpenSpec.ofChange Rows.lexBackSpec).preRow enc Tryd.prog Tryd.f8 Rows.lexBackRow.domain false Rows.lexBackRow.laid) (((OpenSpec.ofChange Rows.lexBackSpec).at F).post enc Tryd.prog Tryd.f8 false true false false) := by
  obtain ⟨places, hx⟩ := reads os enc
  refine returnsInHanded_of_row (C := Tryd.checked) (s := OpenSpec.ofChange Rows.lexBackSpec) own started (by kernel_rfl) Tryd.func8
    (witness_row_at (enc := enc) (C := Tryd.checked) false (laidWorld os) #[.string ⟨#[]⟩] rfl (by kernel_rfl) (by kernel_rfl) (by kernel_rfl)
      (OpenSpec.preRow_of_cond 8 hx (by kernel_rfl) (fun k hk => by cases hk) (by kernel_rfl) (laid_met os))) ?_
  intro W base args ds gs before hval hW _ _ _ hL _ _
  exact contract H enc W base args ds gs before hval hW hL

theorem said : Rows.LexBackSaid :=
  OpenClaim.holds_of_cond 8 Tryd.f8 rfl rfl rfl rfl rfl rfl rfl ⟨rfl, rfl, rfl, rfl, rfl⟩ rfl rfl rfl rfl rfl (by kernel_rfl) Tryd.func8 (by kernel_rfl)
    (of_decide_eq_true (by kernel_rfl)) (by unfold Func.isWrapper; first | (rw [if_pos (by decide +kernel)]; kernel_rfl) | (rw [if_neg (by decide +kernel)]; exact ⟨rfl, rfl⟩))
    (fun os started H enc _ F => by rw [OpenClaim.pre_eq_preRow]; exact lifted os started H enc F)

theorem plain (f : FuncId) (fn : Func) (hf : Tryd.pinned.checked.prog.funcNamed "malthouse/malthouselaw01.LexBack" = some f) (hfn : Tryd.pinned.checked.prog.funcs[f]? = some fn) :
    false = Tryd.pinned.checked.prog.looks [] ∧ ∀ (j : Nat) t, fn.params[j]? = some t → Tryd.pinned.checked.prog.wantsStandIn t = false := by
  obtain rfl : f = 8 := Option.some.inj ((show Tryd.prog.funcNamed "malthouse/malthouselaw01.LexBack" = some 8 by kernel_rfl).symm.trans hf) |>.symm
  obtain rfl : fn = Tryd.f8 := (Option.some.inj (Tryd.func8.symm.trans hfn)).symm
  refine ⟨by kernel_rfl, fun j t ht => ?_⟩
  rw [Tryd.params8] at ht
  have hm : t ∈ [9] := by simpa using Array.mem_of_getElem? ht
  have h0 : Tryd.prog.wantsStandIn 9 = false := by kernel_rfl
  simp only [List.mem_cons, List.not_mem_nil, or_false] at hm
  subst hm
  exact h0

theorem card : Rows.LexBackCardSaid :=
  Claim7.holds_tied_plain_at .later [] _ _ _ _ said (fun _ h => by cases h) (by kernel_rfl) (fun _ h => by cases h) lexBack_row_tie rfl ⟨rfl, rfl⟩ (by kernel_rfl) rfl plain (by kernel_rfl)
end Go.Proofs.YtbbebnbofalmlaaDoor.LexBack
namespace Go.Proofs.YtbbebnbofalmlaaDoor
theorem lexBack_holds : Rows.LexBackCardSaid := LexBack.card
end Go.Proofs.YtbbebnbofalmlaaDoor
