/-
  LexPlaces: tokens' places rise, each lies within the text, the last one is behind all; a token's text is not empty, but a text's and the last one's. For every input (texts of more than 3000 bytes: the law asks nothing of them); the library's tables as the program's text lays them.
-/
import Derived.Test.YtbbebnbofalmlaaDoorLexFrame
import Derived.Test.YtbbebnbofalmlaaDoorLexU
import Derived.Test.YtbbebnbofalmlaaDoorLexK
import Derived.BigQuiet
import Derived.Deep.QuietTactic
namespace Go.Proofs.YtbbebnbofalmlaaDoor.Lx
open Go.RowKit

set_option maxRecDepth 100000 in
set_option maxHeartbeats 8000000 in
theorem places_walk (s : ByteArray) (w : World) (hs : s.size ≤ 9223372036854775807) (hT : Tab w) :
    Calls Tryd.prog 9 #[.string s] w fun e w' => e = .returned (.bool true) ∧ Below w.heap.size w w' := by
  by_cases hbig : 3000 < s.size
  · go_enter Tryd.func9, Tryd.ntmps9
    go_wp2_with fail
    refine (awake_any _ hT).mono ?_
    rintro e w1 ⟨rfl, hb⟩
    go_wp2_with fail
    go_ret
    exact ⟨rfl, hb⟩
  · have hsm : s.size ≤ 3000 := by omega
    have hll : s.data.toList.length = s.size := Array.length_toList
    have hrl := rn_len s.data.toList
    have hrun := cut_run s.data.toList (by omega)
    rw [hll] at hrun hrl
    clear hll
    have d0 : decide ((3000 : Int) < s.size) = false := by simp; omega
    clear hbig hs
    rcases hrun with ⟨e0, p, q1, q2, q3, q4⟩ | ⟨ts, q1, q2, q3, q4, q5, q6⟩
    · have HQ := Lib.hid q1
      have be : (e0 != 0) = true := by simp [q2]
      clear q1 q2
      go_enter Tryd.func9, Tryd.ntmps9
      go_wp2_with fail
      refine (awake_any _ hT).mono ?_
      rintro e w1 ⟨rfl, hb1⟩
      clear hT
      go_wp2_with fail
      refine (Cut_any _ _ (by omega)).mono ?_
      rintro e w2 ⟨v, rfl, hown, hb2⟩
      rw [HQ.out] at hown ⊢
      simp only at hown ⊢
      obtain ⟨A, c, rfl⟩ := ownsRow_slice hown
      clear hown
      have hb12 := hb1.trans (hb2.mono hb1.size)
      clear hb1 hb2
      go_wp2_with fail
      go_ret
      exact ⟨ret_bool (by simp), hb12⟩
    · have HQ := Lib.hid q1
      have HP := Lib.hid (places_at ts _ q2)
      clear q1 q2 q4 q6
      generalize (rn s.data.toList).length = hi at *
      go_enter Tryd.func9, Tryd.ntmps9
      go_wp2_with fail
      refine (awake_any _ hT).mono ?_
      rintro e w1 ⟨rfl, hb1⟩
      clear hT
      go_wp2_with fail
      refine (Cut_any _ _ (by omega)).mono ?_
      rintro e w2 ⟨v, rfl, hown, hb2⟩
      rw [HQ.out] at hown ⊢
      simp only at hown ⊢
      obtain ⟨A, c, rfl⟩ := ownsRow_slice hown
      obtain ⟨_, hcap, hrow⟩ := own_toks hown
      have hlen : (ts ++ ([⟨0, [], 0, (hi : Int)⟩] : List Tok)).length = ts.length + 1 := by simp
      rw [hlen] at hcap hrow ⊢
      obtain ⟨g, rfl, hgl, hcells⟩ := hrow (by omega)
      clear hown hrow hlen
      have hb12 := hb1.trans (hb2.mono hb1.size)
      clear hb1 hb2
      generalize ts ++ ([⟨0, [], 0, (hi : Int)⟩] : List Tok) = L at *
      have HC := Lib.hid hcells
      clear hcells HQ
      go_wp2_with fail
      go_loopw [7] (fun i wr => ∃ k : Nat, k ≤ ts.length + 1 ∧ i = .int .i64 k ∧ ∃ n, wr = w2.drewN n) (fun i _ => ts.length + 1 - (intOf i).toNat)
      case atStart => exact ⟨0, by omega, rfl, 0, rfl⟩
      case round =>
        obtain ⟨k, hk, rfl, nd, rfl⟩ := hrel
        by_cases hlt : k < ts.length + 1
        · obtain ⟨c0, c1, _, c3⟩ := HC.out k hlt
          obtain ⟨p1, p2, p3, p4⟩ := HP.out k hlt
          obtain ⟨_, _, _, c3'⟩ := HC.out (k - 1) (by omega)
          by_cases h0 : 0 < k
          · have p3' := p3 h0
            clear p3 HC HP
            generalize hx : L.getD k zTok = x at *
            generalize hy : L.getD (k - 1) zTok = y at *
            clear hx hy
            obtain ⟨xk, xt, xn, xa⟩ := x
            obtain ⟨yk, yt, yn, ya⟩ := y
            simp only at *
            have t1 : decide (xa < 0) = false := by simp; omega
            have t2 : decide ((s.size : Int) < xa) = false := by simp; omega
            have t3 : decide ((0 : Int) < (k : Int)) = true := by simp; omega
            have t4 : decide (xa ≤ ya) = false := by simp; omega
            have z1 : IntKind.i64.wrap ((k : Int) - 1) = (k : Int) - 1 := by rw [IntKind.wrap_i64]; omega
            have z2 : ((k : Int) - 1).toNat = k - 1 := by omega
            rcases p4 with ⟨e1, e2, e3⟩ | ⟨e1, e2, e3⟩
            · subst e2 e3
              have t5 : ((k : Int) == (ts.length : Int)) = true := beq_iff_eq.2 (by omega)
              clear e1
              go_wp2_with fail
              go_quiet (fail)
              clear t1 t2 t3 t4 z1 z2
              go_wp2_with fail
              go_roundw
              case rel => exact ⟨k + 1, by omega, by go_num, _, rfl⟩
              case measure => simp [intOf]; omega
            · rcases hq : xt with _ | ⟨b, xt⟩
              · have ht := hq
                obtain rfl := e3 ht
                subst ht
                have t5 : ((k : Int) == (ts.length : Int)) = false := beq_eq_false_iff_ne.2 (by omega)
                clear e1 e2 e3
                go_wp2_with fail
                go_quiet (fail)
                clear t1 t2 t3 t4 z1 z2
                go_wp2_with fail
                go_roundw
                case rel => exact ⟨k + 1, by omega, by go_num, _, rfl⟩
                case measure => simp [intOf]; omega
              · subst hq
                have t5 : ((k : Int) == (ts.length : Int)) = false := beq_eq_false_iff_ne.2 (by omega)
                have t6 : (xk == 0) = false := beq_eq_false_iff_ne.2 (by omega)
                have hne : (⟨(b :: xt).toArray⟩ : ByteArray).toList.isEmpty = false := by rw [Lib.toList_data]; rfl
                have hne' : ¬ (⟨(b :: xt).toArray⟩ : ByteArray).toList = [] := by rw [Lib.toList_data]; simp
                clear e1 e2 e3
                go_wp2_with fail
                go_quiet (fail)
                clear t1 t2 t3 t4 z1 z2
                go_wp2_with fail
                go_roundw
                case rel => exact ⟨k + 1, by omega, by go_num, _, rfl⟩
                case measure => simp [intOf]; omega
          · clear p3 HC HP
            generalize hx : L.getD k zTok = x at *
            generalize hy : L.getD (k - 1) zTok = y at *
            clear hx hy
            obtain ⟨xk, xt, xn, xa⟩ := x
            obtain ⟨yk, yt, yn, ya⟩ := y
            simp only at *
            have t1 : decide (xa < 0) = false := by simp; omega
            have t2 : decide ((s.size : Int) < xa) = false := by simp; omega
            have t3 : decide ((0 : Int) < (k : Int)) = false := by simp; omega
            have t4 : True := trivial
            have z1 : True := trivial
            have z2 : True := trivial
            rcases p4 with ⟨e1, e2, e3⟩ | ⟨e1, e2, e3⟩
            · subst e2 e3
              have t5 : ((k : Int) == (ts.length : Int)) = true := beq_iff_eq.2 (by omega)
              clear e1
              go_wp2_with fail
              go_quiet (fail)
              clear t1 t2 t3 t4 z1 z2
              go_wp2_with fail
              go_roundw
              case rel => exact ⟨k + 1, by omega, by go_num, _, rfl⟩
              case measure => simp [intOf]; omega
            · rcases hq : xt with _ | ⟨b, xt⟩
              · have ht := hq
                obtain rfl := e3 ht
                subst ht
                have t5 : ((k : Int) == (ts.length : Int)) = false := beq_eq_false_iff_ne.2 (by omega)
                clear e1 e2 e3
                go_wp2_with fail
                go_quiet (fail)
                clear t1 t2 t3 t4 z1 z2
                go_wp2_with fail
                go_roundw
                case rel => exact ⟨k + 1, by omega, by go_num, _, rfl⟩
                case measure => simp [intOf]; omega
              · subst hq
                have t5 : ((k : Int) == (ts.length : Int)) = false := beq_eq_false_iff_ne.2 (by omega)
                have t6 : (xk == 0) = false := beq_eq_false_iff_ne.2 (by omega)
                have hne : (⟨(b :: xt).toArray⟩ : ByteArray).toList.isEmpty = false := by rw [Lib.toList_data]; rfl
                have hne' : ¬ (⟨(b :: xt).toArray⟩ : ByteArray).toList = [] := by rw [Lib.toList_data]; simp
                clear e1 e2 e3
                go_wp2_with fail
                go_quiet (fail)
                clear t1 t2 t3 t4 z1 z2
                go_wp2_with fail
                go_roundw
                case rel => exact ⟨k + 1, by omega, by go_num, _, rfl⟩
                case measure => simp [intOf]; omega
        · go_wp2_with fail
          go_ret
          exact ⟨ret_bool (by simp), below_drewN hb12 _⟩
end Go.Proofs.YtbbebnbofalmlaaDoor.Lx
namespace Go.Proofs.YtbbebnbofalmlaaDoor.LexPlaces
open Go.ChangeShapes Go.WideShapes Go.ChangeAt Go.RowKit Lx

theorem contract (H : Type) (enc : TypeId × Value → H) (W : World) (base : Nat) (args : Array Value) (ds gs : List (DataW H)) (before : List MemPlace)
    (hval : ∀ (j : Nat) t v, Tryd.f9.params[j]? = some t → args[j]? = some v → Value.okWide Tryd.prog W .any base t v)
    (hW : DataW.Whole enc Tryd.prog Tryd.f9.params.toList Rows.lexPlacesSpec.vars false W args.toList ds gs before) (hL : laidMetH Tryd.prog Rows.lexPlacesRow.laid W) :
    Calls Tryd.prog 9 args W fun e W' => ∃ v, e = .returned v ∧ Rows.lexPlacesSpec.post enc Tryd.prog Tryd.f9 false true false false W args v W' := by
  have hW' := hW
  obtain ⟨p, q, hA0, hV, rfl, hfz, hnd⟩ := hW
  have hA : DataW.TrodAll enc Tryd.prog W 0 (fun _ => true) true Tryd.f9.params.toList args.toList ds p := hA0
  rw [Tryd.params9] at hA hval
  obtain ⟨v0, vs0, d0, ds0, p0, q0, hargs, rfl, rfl, h0, r0⟩ := trodAll_cons hA
  obtain ⟨rfl, rfl, rfl⟩ := trodAll_nil r0
  obtain rfl : args = #[v0] := by cases args; simp_all
  obtain ⟨rfl, rfl⟩ := trodVars_none hV
  obtain ⟨x0, rfl, rfl, rfl, w0⟩ := Go.ChangeMaps.open_string Tryd.underlying9 (hval 0 9 v0 rfl rfl) h0
  clear hA0
  refine (places_walk x0 W (by unfold maxLen at w0; exact w0) (table hL)).mono fun e W' h => ?_
  obtain ⟨rfl, hb⟩ := h
  exact ⟨_, rfl, _, _, _, [], [], [], hW', trodAll_cons_mk (shut_bool Tryd.underlying4 _) trodAll_mk0, (trodAll_cons_mk (Go.ChangeMaps.shut_string Tryd.underlying9 w0) trodAll_mk0), rfl, hb.frame _, fun h => by cases h⟩

theorem laid_met (os : Os) : laidMet Tryd.prog Rows.lexPlacesRow.laid ((laidWorld os).forCall (fun _ _ => 0) ⟨#[], #[.string ⟨#[]⟩], []⟩).memory :=
  laidMet_of_run' 8 (by kernel_rfl) (by kernel_rfl)
theorem reads (os : Os) {H : Type} (enc : TypeId × Value → H) : ∃ places, DataW.whole enc Tryd.prog ((laidWorld os).forCall (fun _ _ => 0) ⟨#[], #[.string ⟨#[]⟩], []⟩).memory Tryd.f9.params.toList Rows.lexPlacesSpec.vars false #[Value.string ⟨#[]⟩].toList 8 = some ([.lit (.string [])], [], places) :=
  ⟨[], by kernel_rfl⟩

set_option maxRecDepth 100000 in
theorem lifted (os : Os) (started : os.Started) (H : Type) (enc : TypeId × Value → H) (F : Stop.Interp) :
    ReturnsInHanded {} Tryd.checked os 9 .any ((OpenSpec.ofChange Rows.lexPlacesSpec).preRow enc Tryd.prog Tryd.f9 Rows.lexPlacesRow.domain false Rows.lexPlacesRow.laid) (((OpenSpec.ofChange Rows.lexPlacesSpec).at F).post enc Tryd.prog Tryd.f9 false true false false) := by
  obtain ⟨places, hx⟩ := reads os enc
  refine returnsInHanded_of_row (C := Tryd.checked) (s := OpenSpec.ofChange Rows.lexPlacesSpec) own started (by kernel_rfl) Tryd.func9
    (witness_row_at (enc := enc) (C := Tryd.checked) false (laidWorld os) #[.string ⟨#[]⟩] rfl (by kernel_rfl) (by kernel_rfl) (by kernel_rfl)
      (OpenSpec.preRow_of_cond 8 hx (by kernel_rfl) (fun k hk => by cases hk) (by kernel_rfl) (laid_met os))) ?_
  intro W base args ds gs before hval hW _ _ _ hL _ _
  exact contract H enc W base args ds gs before hval hW hL

theorem said : Rows.LexPlacesSaid :=
  OpenClaim.holds_of_cond 9 Tryd.f9 rfl rfl rfl rfl rfl rfl rfl ⟨rfl, rfl, rfl, rfl, rfl⟩ rfl rfl rfl rfl rfl (by kernel_rfl) Tryd.func9 (by kernel_rfl)
    (of_decide_eq_true (by kernel_rfl)) (by unfold Func.isWrapper; first | (rw [if_pos (by decide +kernel)]; kernel_rfl) | (rw [if_neg (by decide +kernel)]; exact ⟨rfl, rfl⟩))
    (fun os started H enc _ F => by rw [OpenClaim.pre_eq_preRow]; exact lifted os started H enc F)

theorem plain (f : FuncId) (fn : Func) (hf : Tryd.pinned.checked.prog.funcNamed "malthouse/malthouselaw01.LexPlaces" = some f) (hfn : Tryd.pinned.checked.prog.funcs[f]? = some fn) :
    false = Tryd.pinned.checked.prog.looks [] ∧ ∀ (j : Nat) t, fn.params[j]? = some t → Tryd.pinned.checked.prog.wantsStandIn t = false := by
  obtain rfl : f = 9 := Option.some.inj ((show Tryd.prog.funcNamed "malthouse/malthouselaw01.LexPlaces" = some 9 by kernel_rfl).symm.trans hf) |>.symm
  obtain rfl : fn = Tryd.f9 := (Option.some.inj (Tryd.func9.symm.trans hfn)).symm
  refine ⟨by kernel_rfl, fun j t ht => ?_⟩
  rw [Tryd.params9] at ht
  have hm : t ∈ [9] := by simpa using Array.mem_of_getElem? ht
  have h0 : Tryd.prog.wantsStandIn 9 = false := by kernel_rfl
  simp only [List.mem_cons, List.not_mem_nil, or_false] at hm
  subst hm
  exact h0

theorem card : Rows.LexPlacesCardSaid :=
  Claim7.holds_tied_plain_at .later [] _ _ _ _ said (fun _ h => by cases h) (by kernel_rfl) (fun _ h => by cases h) lexPlaces_row_tie rfl ⟨rfl, rfl⟩ (by kernel_rfl) rfl plain (by kernel_rfl)
end Go.Proofs.YtbbebnbofalmlaaDoor.LexPlaces
namespace Go.Proofs.YtbbebnbofalmlaaDoor
theorem lexPlaces_holds : Rows.LexPlacesCardSaid := LexPlaces.card
end Go.Proofs.YtbbebnbofalmlaaDoor
