/-
  LexFolds: a text is folded byte by byte, to one of as many bytes; a second time nothing changes; two texts together are folded to both together. For every input (texts of more than 5000 bytes: the law asks nothing of them); the library's tables as the program's text lays them.
-/
import Derived.Test.YtbbebnbofalmlaaDoorLexFrame
import Derived.Test.YtbbebnbofalmlaaDoorLexFold
import Derived.BigQuiet
import Derived.Deep.QuietTactic
namespace Go.Proofs.YtbbebnbofalmlaaDoor.Lx
open Go.RowKit

theorem foldB_twice (b : UInt8) : foldB (foldB b) = foldB b := by
  by_cases h : 65 ≤ b.toNat ∧ b.toNat ≤ 90
  · apply foldB_not
    rw [foldB_of b h.1 h.2]; omega
  · rw [foldB_not b (by omega), foldB_not b (by omega)]
theorem foldL_twice (l : List UInt8) : foldL (foldL l) = foldL l := by
  unfold foldL
  rw [List.map_map]
  exact List.map_congr_left fun b _ => foldB_twice b

theorem fold_cat (s t : ByteArray) : (⟨(foldL (s ++ t).data.toList).toArray⟩ : ByteArray) = ⟨(foldL s.data.toList).toArray⟩ ++ ⟨(foldL t.data.toList).toArray⟩ := by
  apply ByteArray.ext
  apply Array.toList_inj.1
  simp [foldL]

set_option maxHeartbeats 4000000 in
theorem folds_walk (s t : ByteArray) (w : World) (hs : s.size ≤ 9223372036854775807) (ht : t.size ≤ 9223372036854775807) (hT : Tab w) :
    Calls Tryd.prog 7 #[.string s, .string t] w fun e w' => e = .returned (.bool true) ∧ Below w.heap.size w w' := by
  by_cases hbig : 5000 < s.size ∨ 5000 < t.size
  · have hc : 5000 < s.size ∨ (s.size ≤ 5000 ∧ 5000 < t.size) := by omega
    clear hbig
    rcases hc with h | ⟨h, h'⟩
    all_goals
      go_enter Tryd.func7, Tryd.ntmps7
      go_wp2_with fail
      refine (awake_any _ hT).mono ?_
      rintro e w1 ⟨rfl, hb⟩
      go_wp2_with fail
      go_ret
      exact ⟨rfl, hb⟩
  · have h1 : s.size ≤ 5000 := by omega
    have h2 : t.size ≤ 5000 := by omega
    clear hbig hs ht
    have hls : s.data.toList.length = s.size := Array.length_toList
    have hfl : (foldL s.data.toList).length = s.size := by unfold foldL; rw [List.length_map, hls]
    have HLS := Lib.hid hls
    clear hls
    go_enter Tryd.func7, Tryd.ntmps7
    go_wp2_with fail
    refine (awake_any _ hT).mono ?_
    rintro e w1 ⟨rfl, hb1⟩
    go_wp2_with fail
    refine (Fold_any s _ (by omega)).mono ?_
    rintro e w2 ⟨rfl, hb2⟩
    have hb12 := hb1.trans (hb2.mono hb1.size)
    clear hb1 hb2
    have hsz : (⟨(foldL s.data.toList).toArray⟩ : ByteArray).size = s.size := by show (foldL s.data.toList).toArray.size = _; rw [List.size_toArray]; exact hfl
    have d1 : decide ((5000 : Int) < s.size) = false := by simp; omega
    have d2 : decide ((5000 : Int) < t.size) = false := by simp; omega
    go_wp2_with fail
    refine (Fold_any _ _ (by rw [hsz]; omega)).mono ?_
    rintro e w3 ⟨rfl, hb3⟩
    rw [show (foldL (⟨(foldL s.data.toList).toArray⟩ : ByteArray).data.toList) = foldL s.data.toList from foldL_twice _]
    have hb13 := hb12.trans (hb3.mono hb12.size)
    clear hb12 hb3
    have hsz' := Lib.hid hsz
    clear hsz
    have hfl' := Lib.hid hfl
    clear hfl
    go_wp2_with fail
    refine (Fold_any _ _ (by rw [ByteArray.size_append]; omega)).mono ?_
    rintro e w4 ⟨rfl, hb4⟩
    rw [fold_cat]
    have hb14 := hb13.trans (hb4.mono hb13.size)
    clear hb13 hb4
    go_wp2_with fail
    refine (Fold_any t _ (by omega)).mono ?_
    rintro e w5 ⟨rfl, hb5⟩
    have hb15 := hb14.trans (hb5.mono hb14.size)
    clear hb14 hb5
    have hla : (foldL s.data.toList).length ≤ 5000 := by rw [hfl'.out]; exact h1
    have hlb : (foldL t.data.toList).length ≤ 5000 := by
      have hlt : t.data.toList.length = t.size := Array.length_toList
      unfold foldL; rw [List.length_map, hlt]; exact h2
    go_wp2_with fail
    go_loopw [7] (fun i wr => ∃ k : Nat, k ≤ s.size ∧ i = .int .i64 k ∧ Below w.heap.size w wr) (fun i _ => s.size - (intOf i).toNat)
    case atStart => exact ⟨0, by omega, rfl, hb15⟩
    case round =>
      clear hb15
      obtain ⟨k, hk, rfl, hbw⟩ := hrel
      by_cases hlt : k < s.size
      · have hix := str_index s k hlt
        have hia := str_index ⟨(foldL s.data.toList).toArray⟩ k (by rw [hsz'.out]; exact hlt)
        have hk' : k < s.data.toList.length := by rw [HLS.out]; exact hlt
        have ea : (⟨(foldL s.data.toList).toArray⟩ : ByteArray).data.toList.getD k 0 = foldB (s.data.toList.getD k 0) := by
          show (foldL s.data.toList).getD k 0 = _
          unfold foldL
          rw [List.getD_eq_getElem?_getD, List.getD_eq_getElem?_getD, List.getElem?_map, List.getElem?_eq_getElem hk']
          rfl
        rw [ea] at hia
        clear ea hk'
        have hb255 := (s.data.toList.getD k 0).toNat_lt
        by_cases hup : 65 ≤ (s.data.toList.getD k 0).toNat ∧ (s.data.toList.getD k 0).toNat ≤ 90
        · rw [foldB_of _ hup.1 hup.2] at hia
          generalize (s.data.toList.getD k 0).toNat = b at *
          obtain ⟨hu1, hu2⟩ := hup
          simp only [Int.natCast_add, Int.cast_ofNat_Int] at hia
          have t1 : ((b : Int) + 32 != (b : Int)) = true := by simp; omega
          have t2 : decide ((b : Int) < 65) = false := by simp; omega
          have t3 : decide ((90 : Int) < (b : Int)) = false := by simp; omega
          have t4 : IntKind.u8.wrap ((b : Int) + 32) = (b : Int) + 32 := by rw [IntKind.wrap_u8]; omega
          have t5 : ((b : Int) + 32 != (b : Int) + 32) = false := by simp
          have t6 : decide ((65 : Int) ≤ (b : Int) + 32) = true := by simp; omega
          have t7 : decide ((b : Int) + 32 ≤ (90 : Int)) = false := by simp; omega
          go_wp2_with fail
          go_quiet (fail)
          clear t1 t2 t3 t4 t5 t6 t7
          go_wp2_with fail
          go_roundw
          case rel => exact ⟨k + 1, by omega, by go_num, below_drewN hbw _⟩
          case measure => simp [intOf]; omega
        · rw [foldB_not _ (by omega)] at hia
          generalize (s.data.toList.getD k 0).toNat = b at *
          have t1 : ((b : Int) != (b : Int)) = false := by simp
          rcases (show b < 65 ∨ 90 < b from by omega) with hu | hu
          · have t6 : decide ((65 : Int) ≤ (b : Int)) = false := by simp; omega
            clear hup
            go_wp2_with fail
            go_quiet (fail)
            go_wp2_with fail
            go_roundw
            case rel => exact ⟨k + 1, by omega, by go_num, below_drewN hbw _⟩
            case measure => simp [intOf]; omega
          · have t6 : decide ((65 : Int) ≤ (b : Int)) = true := by simp; omega
            have t7 : decide ((b : Int) ≤ (90 : Int)) = false := by simp; omega
            clear hup
            go_wp2_with fail
            go_quiet (fail)
            go_wp2_with fail
            go_roundw
            case rel => exact ⟨k + 1, by omega, by go_num, below_drewN hbw _⟩
            case measure => simp [intOf]; omega
      · go_wp2_with fail
        go_ret
        exact ⟨rfl, hbw⟩
end Go.Proofs.YtbbebnbofalmlaaDoor.Lx
namespace Go.Proofs.YtbbebnbofalmlaaDoor.LexFolds
open Go.ChangeShapes Go.WideShapes Go.ChangeAt Go.RowKit Lx

theorem contract (H : Type) (enc : TypeId × Value → H) (W : World) (base : Nat) (args : Array Value) (ds gs : List (DataW H)) (before : List MemPlace)
    (hval : ∀ (j : Nat) t v, Tryd.f7.params[j]? = some t → args[j]? = some v → Value.okWide Tryd.prog W .any base t v)
    (hW : DataW.Whole enc Tryd.prog Tryd.f7.params.toList Rows.lexFoldsSpec.vars false W args.toList ds gs before) (hL : laidMetH Tryd.prog Rows.lexFoldsRow.laid W) :
    Calls Tryd.prog 7 args W fun e W' => ∃ v, e = .returned v ∧ Rows.lexFoldsSpec.post enc Tryd.prog Tryd.f7 false true false false W args v W' := by
  have hW' := hW
  obtain ⟨p, q, hA0, hV, rfl, hfz, hnd⟩ := hW
  have hA : DataW.TrodAll enc Tryd.prog W 0 (fun _ => true) true Tryd.f7.params.toList args.toList ds p := hA0
  rw [Tryd.params7] at hA hval
  obtain ⟨v0, vs0, d0, ds0, p0, q0, hargs, rfl, rfl, h0, r0⟩ := trodAll_cons hA
  obtain ⟨v1, vs1, d1, ds1, p1, q1, rfl, rfl, rfl, h1, r1⟩ := trodAll_cons r0
  obtain ⟨rfl, rfl, rfl⟩ := trodAll_nil r1
  obtain rfl : args = #[v0, v1] := by cases args; simp_all
  obtain ⟨rfl, rfl⟩ := trodVars_none hV
  obtain ⟨x0, rfl, rfl, rfl, w0⟩ := Go.ChangeMaps.open_string Tryd.underlying9 (hval 0 9 v0 rfl rfl) h0
  obtain ⟨x1, rfl, rfl, rfl, w1⟩ := Go.ChangeMaps.open_string Tryd.underlying9 (hval 1 9 v1 rfl rfl) h1
  clear hA0
  refine (folds_walk x0 x1 W (by unfold maxLen at w0; exact w0) (by unfold maxLen at w1; exact w1) (table hL)).mono fun e W' h => ?_
  obtain ⟨rfl, hb⟩ := h
  exact ⟨_, rfl, _, _, _, [], [], [], hW', trodAll_cons_mk (shut_bool Tryd.underlying4 _) trodAll_mk0, (trodAll_cons_mk (Go.ChangeMaps.shut_string Tryd.underlying9 w0) (trodAll_cons_mk (Go.ChangeMaps.shut_string Tryd.underlying9 w1) trodAll_mk0)), rfl, hb.frame _, fun h => by cases h⟩

theorem laid_met (os : Os) : laidMet Tryd.prog Rows.lexFoldsRow.laid ((laidWorld os).forCall (fun _ _ => 0) ⟨#[], #[.string ⟨#[]⟩, .string ⟨#[]⟩], []⟩).memory :=
  laidMet_of_run' 8 (by kernel_rfl) (by kernel_rfl)
theorem reads (os : Os) {H : Type} (enc : TypeId × Value → H) : ∃ places, DataW.whole enc Tryd.prog ((laidWorld os).forCall (fun _ _ => 0) ⟨#[], #[.string ⟨#[]⟩, .string ⟨#[]⟩], []⟩).memory Tryd.f7.params.toList Rows.lexFoldsSpec.vars false #[Value.string ⟨#[]⟩, Value.string ⟨#[]⟩].toList 8 = some ([.lit (.string []), .lit (.string [])], [], places) :=
  ⟨[], by kernel_rfl⟩

set_option maxRecDepth 100000 in
theorem lifted (os : Os) (started : os.Started) (H : Type) (enc : TypeId × Value → H) (F : Stop.Interp) :
    ReturnsInHanded {} Tryd.checked os 7 .any ((OpenSpec.ofChange Rows.lexFoldsSpec).preRow enc Tryd.prog Tryd.f7 Rows.lexFoldsRow.domain false Rows.lexFoldsRow.laid) (((OpenSpec.ofChange Rows.lexFoldsSpec).at F).post enc Tryd.prog Tryd.f7 false true false false) := by
  obtain ⟨places, hx⟩ := reads os enc
  refine returnsInHanded_of_row (C := Tryd.checked) (s := OpenSpec.ofChange Rows.lexFoldsSpec) own started (by kernel_rfl) Tryd.func7
    (witness_row_at (enc := enc) (C := Tryd.checked) false (laidWorld os) #[.string ⟨#[]⟩, .string ⟨#[]⟩] rfl (by kernel_rfl) (by kernel_rfl) (by kernel_rfl)
      (OpenSpec.preRow_of_cond 8 hx (by kernel_rfl) (fun k hk => by cases hk) (by kernel_rfl) (laid_met os))) ?_
  intro W base args ds gs before hval hW _ _ _ hL _ _
  exact contract H enc W base args ds gs before hval hW hL

theorem said : Rows.LexFoldsSaid :=
  OpenClaim.holds_of_cond 7 Tryd.f7 rfl rfl rfl rfl rfl rfl rfl ⟨rfl, rfl, rfl, rfl, rfl⟩ rfl rfl rfl rfl rfl (by kernel_rfl) Tryd.func7 (by kernel_rfl)
    (of_decide_eq_true (by kernel_rfl)) (by unfold Func.isWrapper; first | (rw [if_pos (by decide +kernel)]; kernel_rfl) | (rw [if_neg (by decide +kernel)]; exact ⟨rfl, rfl⟩))
    (fun os started H enc _ F => by rw [OpenClaim.pre_eq_preRow]; exact lifted os started H enc F)

theorem plain (f : FuncId) (fn : Func) (hf : Tryd.pinned.checked.prog.funcNamed "malthouse/malthouselaw01.LexFolds" = some f) (hfn : Tryd.pinned.checked.prog.funcs[f]? = some fn) :
    false = Tryd.pinned.checked.prog.looks [] ∧ ∀ (j : Nat) t, fn.params[j]? = some t → Tryd.pinned.checked.prog.wantsStandIn t = false := by
  obtain rfl : f = 7 := Option.some.inj ((show Tryd.prog.funcNamed "malthouse/malthouselaw01.LexFolds" = some 7 by kernel_rfl).symm.trans hf) |>.symm
  obtain rfl : fn = Tryd.f7 := (Option.some.inj (Tryd.func7.symm.trans hfn)).symm
  refine ⟨by kernel_rfl, fun j t ht => ?_⟩
  rw [Tryd.params7] at ht
  have hm : t ∈ [9, 9] := by simpa using Array.mem_of_getElem? ht
  have h0 : Tryd.prog.wantsStandIn 9 = false := by kernel_rfl
  simp only [List.mem_cons, List.not_mem_nil, or_false, or_self] at hm
  subst hm
  exact h0

theorem card : Rows.LexFoldsCardSaid :=
  Claim7.holds_tied_plain_at .later [] _ _ _ _ said (fun _ h => by cases h) (by kernel_rfl) (fun _ h => by cases h) lexFolds_row_tie rfl ⟨rfl, rfl⟩ (by kernel_rfl) rfl plain (by kernel_rfl)
end Go.Proofs.YtbbebnbofalmlaaDoor.LexFolds
namespace Go.Proofs.YtbbebnbofalmlaaDoor
theorem lexFolds_holds : Rows.LexFoldsCardSaid := LexFolds.card
end Go.Proofs.YtbbebnbofalmlaaDoor
