/-
  The contract of the document's own Cut: the same as the program's.
-/
import Derived.Test.YtbbebnbofalmlaaDoorLexQ4
import Derived.Test.YtbbebnbofalmlaaDoorLexW9
import Derived.BigQuiet
import Derived.Deep.QuietTactic
namespace Go.Proofs.YtbbebnbofalmlaaDoor.Lx
open Go.RowKit

theorem runesGo_bad : ∀ (cs : List Ch) (p k : Nat), (runesGo cs p).2.2 = false → badAt k cs = some (k + (runesGo cs p).1.length)
  | [], _, _, h => by simp [runesGo] at h
  | c :: cs, p, k, h => by
    unfold runesGo at h ⊢
    unfold badAt
    by_cases hb : badC c = true
    · rw [if_pos hb, if_pos hb]; simp
    · rw [if_neg hb] at h ⊢
      rw [if_neg hb, runesGo_bad cs _ (k + 1) h]
      simp; omega
theorem cut_T (l : List UInt8) (hl : l.length ≤ 8192) (hg : Good (rn l)) : cutL l = T (rn l) 0 [] := by
  unfold cutL; rw [if_neg (by omega), (badAt_none _ _).2 hg]; rfl
theorem past_cs (s : ByteArray) (A1 A2 : Option Addr) (cs : List Ch) (c1 n2 c2 i : Nat) (a : Int) (w : World) (ha : a = (i : Int)) (hR : cs.length ≤ 20000) (hi : i ≤ cs.length) (hrd : Rd w A1 (cs.map (·.1))) :
    Calls Tryd.prog 31 #[.agg #[.string s, .slice A1 cs.length c1, .slice A2 n2 c2], .int .i64 a] w fun e w' => e = .returned (.int .i64 ((i + pastR false ((cs.drop i).map (·.1)) : Nat) : Int)) ∧ Below w.heap.size w w' := by
  subst ha
  have := past_ref s A1 A2 (cs.map (·.1)) c1 n2 c2 i w (by rw [List.length_map]; exact hR) (by rw [List.length_map]; exact hi) hrd
  rw [List.length_map, ← List.map_drop] at this
  exact this
theorem token_cs (s : ByteArray) (cs : List Ch) (hg : Good cs) (hcn : Can cs) (hs : s.data.toList = flat cs) (A1 A2 : Option Addr) (c1 c2 i : Nat) (w : World) (hss : s.size ≤ 20000) (hR : cs.length ≤ 20000) (hrd : Rd w A1 (cs.map (·.1))) (hrp : Rd w A2 (runesGo cs 0).2.1) (c : Ch) (ds : List Ch) (hd : cs.drop i = c :: ds) :
    Calls Tryd.prog 32 #[.agg #[.string s, .slice A1 cs.length c1, .slice A2 (cs.length + 1) c2], .int .i64 i] w fun e w' => TkOK c ds i e ∧ Below w.heap.size w w' := by
  have := token_ref s cs hg hcn hs A1 A2 c1 c2 i w hss hR hrd hrp c ds hd
  rw [List.length_map, (runesGo_at cs hg 0).1] at this
  exact this

def CutRel (X : List Tok × Int × Int) (cs : List Ch) (W1 : World) (v i : Value) (wr : World) : Prop :=
  ∃ (k : Nat) (acc : List Tok) (A : Option Addr) (cap : Nat), k ≤ cs.length ∧ i = .int .i64 k ∧ v = .slice A acc.length cap ∧
    wr.ownsRow W1.heap.size 42 4 v acc.length (toksC acc) ∧ Below W1.heap.size W1 wr ∧ acc.length ≤ 2000 ∧
    (∀ c ds, cs.drop k = c :: ds → clsI c.1 ≠ 1 ∧ clsI c.1 ≠ 6) ∧ T (cs.drop k) k acc = X
theorem past_step (cs : List Ch) (hcn : Can cs) (k : Nat) (acc : List Tok) (hk : k ≤ cs.length) :
    k + pastR false ((cs.drop k).map (·.1)) ≤ cs.length ∧ (∀ c ds, cs.drop (k + pastR false ((cs.drop k).map (·.1))) = c :: ds → clsI c.1 ≠ 1 ∧ clsI c.1 ≠ 6) ∧
    T (cs.drop (k + pastR false ((cs.drop k).map (·.1)))) (k + pastR false ((cs.drop k).map (·.1))) acc = T (cs.drop k) k acc := by
  have hc : Can (cs.drop k) := by
    have := hcn
    rw [← List.take_append_drop k cs] at this
    exact can_drop this
  have h1 := pastR_le false ((cs.drop k).map (·.1))
  rw [List.length_map, List.length_drop] at h1
  refine ⟨by omega, fun c ds h => ?_, ?_⟩
  · rw [← List.drop_drop] at h
    exact past_head false _ c ds h
  · rw [← List.drop_drop]
    exact ((past_T _ hc k acc).1).symm

set_option maxRecDepth 100000 in
set_option maxHeartbeats 8000000 in
theorem refCut_any (s : ByteArray) (w : World) (hs : s.size ≤ 20000) :
    Calls Tryd.prog 14 #[.string s] w (TokPost (cutL s.data.toList) w) := by
  have hll : s.data.toList.length = s.size := Array.length_toList
  by_cases hbig : 8192 < s.size
  · have HX : Hid (cutL s.data.toList = ([], 2, 0)) := cutL_long _ (by rw [hll]; exact hbig)
    clear hll
    go_enter Tryd.func14, Tryd.ntmps14
    go_wp2_with fail
    go_ret3
    exact ⟨.slice none 0 0, by rw [HX.out]; rfl, by rw [HX.out]; exact World.ownsRow_nil _ _ _ _, Below.refl _ _⟩
  · have hsm : s.size ≤ 8192 := by omega
    have HSh := Lib.hid (cutL_short s.data.toList (by rw [hll]; exact hbig))
    have HLL := Lib.hid hll
    clear hbig hll
    go_enter Tryd.func14, Tryd.ntmps14
    go_wp2_with fail
    refine (Runes_any s w hs).mono ?_
    rintro e w1 ⟨A1, n1, k1, A2, n2, k2, rfl, ho1, ho2, hb1⟩
    obtain ⟨hn1, hcp1, hrow1⟩ := own_ints ho1
    obtain ⟨hn2, hcp2, hrow2⟩ := own_ints ho2
    have hrd1 : Rd w1 A1 (runesGo (rn s.data.toList) 0).1 := hrow1
    have hrd2 : Rd w1 A2 (runesGo (rn s.data.toList) 0).2.1 := hrow2
    have hle := runes_le s.data.toList
    rw [HLL.out] at hle
    clear hrow1 hrow2 ho1 ho2
    cases hok : (runesGo (rn s.data.toList) 0).2.2 with
    | false =>
      have HX : Hid (cutL s.data.toList = ([], 10, ((runesGo (rn s.data.toList) 0).1.length : Int))) := by
        unfold Hid; rw [HSh.out, runesGo_bad _ _ 0 hok]; simp
      clear hok hn2 hrd1 hrd2 hcp2 hcp1
      generalize (runesGo (rn s.data.toList) 0).1.length = n at *
      subst hn1
      have hbf : Below w.heap.size w (w1.alloc (.cells #[.string s, .slice A1 n1 k1, .slice A2 n2 k2] 47)) := hb1.alloc hb1.size _
      go_wp2_with fail
      go_quiet (fail)
      go_wp2_with fail
      go_ret3
      exact ⟨.slice none 0 0, by rw [HX.out]; rfl, by rw [HX.out]; exact World.ownsRow_nil _ _ _ _, below_drewN hbf _⟩
    | true =>
      obtain ⟨hR, hgd⟩ := runesGo_true _ _ hok
      have HGd : Hid (Good (rn s.data.toList)) := hgd
      rw [hR] at hn1 hrd1 hle
      rw [List.length_map] at hn1 hle
      rw [(runesGo_at _ hgd 0).1] at hn2
      have HX : Hid (T (rn s.data.toList) 0 [] = cutL s.data.toList) := (cut_T _ (by rw [HLL.out]; exact hsm) hgd).symm
      have HF : Hid (s.data.toList = flat (rn s.data.toList)) := (flat_rn _).symm
      have HCn : Hid (Can (rn s.data.toList)) := can_rn _
      clear hok hR hgd hcp1 hcp2 HSh HLL
      subst hn1
      subst hn2
      generalize rn s.data.toList = cs at *
      generalize hcx : cutL s.data.toList = X at *
      clear hcx
      have hb0 : Below w.heap.size w (w1.alloc (.cells #[.string s, .slice A1 cs.length k1, .slice A2 (cs.length + 1) k2] 47)) := hb1.alloc hb1.size _
      have hbx := Box.new w1 47 #[.string s, .slice A1 cs.length k1, .slice A2 (cs.length + 1) k2]
      have HR := Lib.hid (hrd1.alloc (.cells #[.string s, .slice A1 cs.length k1, .slice A2 (cs.length + 1) k2] 47))
      have HP := Lib.hid (hrd2.alloc (.cells #[.string s, .slice A1 cs.length k1, .slice A2 (cs.length + 1) k2] 47))
      have hsz : w.heap.size ≤ w1.heap.size := hb1.size
      have hszW : (w1.alloc (.cells #[.string s, .slice A1 cs.length k1, .slice A2 (cs.length + 1) k2] 47)).heap.size > w1.heap.size := by simp
      clear hrd1 hrd2 hb1
      have HSt := Lib.hid (past_step cs HCn.out)
      obtain ⟨inf, hinf, hz0, hz1, hz2⟩ := info_parts info_tok
      go_wp2_with fail
      generalize w1.alloc (.cells #[.string s, .slice A1 cs.length k1, .slice A2 (cs.length + 1) k2] 47) = W1 at *
      obtain ⟨st1, st2, st3⟩ := HSt.out 0 [] (by omega)
      with_reducible refine (past_cs s A1 A2 cs k1 (cs.length + 1) k2 0 0 W1 rfl (by omega) (by omega) HR.out).mono ?_
      rintro e w2 ⟨rfl, hb2⟩
      have HT0 : Hid (T (cs.drop (0 + pastR false ((cs.drop 0).map (·.1)))) (0 + pastR false ((cs.drop 0).map (·.1))) [] = X) := by
        unfold Hid; rw [st3, List.drop_zero]; exact HX.out
      have HH0 := Lib.hid st2
      clear st2 st3
      generalize 0 + pastR false ((cs.drop 0).map (·.1)) = i0 at *
      go_wp2_with fail
      go_loopw [7, 8] (CutRel X cs W1) (fun _ i _ => cs.length - (intOf i).toNat)
      case atStart => exact ⟨i0, [], none, 0, st1, rfl, rfl, World.ownsRow_nil _ _ _ _, hb2, by simp, HH0.out, HT0.out⟩
      case round =>
        obtain ⟨k, acc, A, cap, hk, rfl, rfl, hown, hbr, hacc, hhd, hT⟩ := hrel
        have HT := Lib.hid hT
        have HH := Lib.hid hhd
        clear hT hhd
        obtain ⟨p0, p1, p2, _, _, _⟩ := (hbx.below hbr (by omega)).three
        have hszr : W1.heap.size ≤ wr.heap.size := hbr.size
        by_cases hlt : k < cs.length
        · obtain ⟨c, ds, hd⟩ : ∃ c ds, cs.drop k = c :: ds := ⟨_, _, List.drop_eq_getElem_cons hlt⟩
          obtain ⟨k1', k6'⟩ := HH.out c ds hd
          have HD := Lib.hid hd
          by_cases h2000 : acc.length = 2000
          · have HR2 : Hid (X = ([], 2, (k : Int))) := by unfold Hid; rw [← HT.out, hd, T_tok c ds k acc k1' k6', if_pos h2000]
            have b2 : ((acc.length : Int) == 2000) = true := by rw [h2000]; rfl
            clear h2000 hd k1' k6'
            generalize acc.length = na at *
            go_wp2_with fail
            go_ret3
            exact ⟨.slice none 0 0, by rw [HR2.out]; rfl, by rw [HR2.out]; exact World.ownsRow_nil _ _ _ _, hb0.trans (hbr.mono hb0.size)⟩
          · have b2 : ((acc.length : Int) == 2000) = false := beq_eq_false_iff_ne.2 (by omega)
            have hacc' : acc.length ≤ 1999 := by omega
            have H2000 := Lib.hid h2000
            clear hd h2000
            go_wp2_with fail
            with_reducible refine (token_cs s cs HGd.out HCn.out HF.out A1 A2 k1 k2 k wr hs (by omega) (HR.out.below hbr) (HP.out.below hbr) c ds HD.out).mono ?_
            rintro e w3 ⟨hte, hb3⟩
            have hbr3 := hbr.trans (hb3.mono hbr.size)
            have hown3 := ownsRow_below hown hb3
            have hsz3 : W1.heap.size ≤ w3.heap.size := hbr3.size
            clear hb3 hown
            rcases hte with ⟨er, hne, rfl, her⟩ | ⟨t, xs, ys, hds, rfl, htk⟩
            · have HR2 : Hid (X = ([], er, (k : Int))) := by
                unfold Hid; rw [← HT.out, HD.out, T_err c ds k acc k1' k6' (by rw [her]; exact hne), if_neg H2000.out, her]
              have be : (er != 0) = true := bne_iff_ne.2 hne
              clear hne her k1' k6'
              unfold zE
              go_wp2_with fail
              go_ret3
              exact ⟨.slice none 0 0, by rw [HR2.out]; rfl, by rw [HR2.out]; exact World.ownsRow_nil _ _ _ _, (hb0.trans (hbr3.mono hb0.size)).alloc (by omega) _⟩
            · have hkx : k + 1 + xs.length ≤ cs.length := by
                have h := congrArg List.length HD.out
                rw [List.length_drop, hds] at h
                simp at h
                omega
              have hT2 : T (cs.drop (k + 1 + xs.length)) (k + 1 + xs.length) (acc ++ [⟨t.kind, t.text, t.n, (k : Int)⟩]) = X := by
                rw [← HT.out, HD.out, T_ok c ds xs ys k acc (by
                  rw [← HD.out]
                  have := HCn.out
                  rw [← List.take_append_drop k cs] at this
                  exact can_drop this) k1' k6' hds (by rw [htk]) (by rw [htk]), if_neg H2000.out, htk]
                have hdy : cs.drop (k + 1 + xs.length) = ys := by
                  rw [show k + 1 + xs.length = k + (1 + xs.length) from by omega, ← List.drop_drop, HD.out, Nat.add_comm 1, List.drop_succ_cons, hds, List.drop_left]
                rw [hdy]
              have HT2 := Lib.hid hT2
              clear hT2 htk k1' k6' hds
              obtain ⟨tk, tt, tn, ta⟩ := t
              simp only at *
              unfold tE
              generalize xs.length = nx at *
              go_wp2_with (at_builtin; refine wpList_append_own _ rfl _ _ 23 rfl W1.heap.size 42 inf (.agg #[.int .i64 0, .string ⟨#[]⟩, .int .i64 0, .int .i64 0]) 4 40 Tryd.underlying23 hinf hz0 hz1 hz2 rfl (by decide) _ _ _ rfl ((hown3.alloc _).alloc _) ⟨w3.heap.size + 1, 0, none⟩ 1 1 (tokC ⟨tk, tt, tn, k⟩) rfl rfl ?c1 ?c2 ?c3 ?c4 ?c5 ?_)
              case c1 => exact new_cells w3 _ _ (tokC ⟨tk, tt, tn, k⟩)
              case c2 => exact tokC_one _
              case c3 => unfold maxLen; omega
              case c4 => omega
              case c5 => simp; omega
              intro v' w4 hown4 hgr _
              have hbr4 : Below W1.heap.size W1 w4 :=
                ((hbr3.alloc hsz3 _).alloc (by simp; omega) _).grown hgr (by simp; omega) (fun g hg => (hown3.lt _ hg).1)
              obtain ⟨A', cap', rfl⟩ := ownsRow_slice hown4
              have hlen : (acc ++ [(⟨tk, tt, tn, k⟩ : Tok)]).length = acc.length + 1 := by simp
              have hown5 : w4.ownsRow W1.heap.size 42 4 (.slice A' (acc.length + 1) cap') (acc ++ [(⟨tk, tt, tn, k⟩ : Tok)]).length (toksC (acc ++ [⟨tk, tt, tn, k⟩])) := by
                rw [hlen, toksC_append, toksC_one]; exact hown4
              have HL := Lib.hid hlen
              have HO5 := Lib.hid hown5
              clear hlen hown4 hown3 hown5 hgr p0 p1 p2
              obtain ⟨p0, p1, p2, _, _, _⟩ := (hbx.below hbr4 (by omega)).three
              have HSt4 := Lib.hid (HSt.out (k + 1 + nx) (acc ++ [⟨tk, tt, tn, k⟩]) hkx)
              go_wp2_with fail
              with_reducible refine (past_cs s A1 A2 cs k1 (cs.length + 1) k2 (k + 1 + nx) ((k : Int) + 1 + nx) w4 (by omega) (by omega) hkx (HR.out.below hbr4)).mono ?_
              rintro e w5 ⟨rfl, hb5⟩
              have hbr5 := hbr4.trans (hb5.mono hbr4.size)
              have HO6 := Lib.hid (ownsRow_below HO5.out hb5)
              obtain ⟨st1, st2, st3⟩ := HSt4.out
              have HT3 := Lib.hid (st3.trans HT2.out)
              have HH3 := Lib.hid st2
              have hge : k + 1 ≤ k + 1 + nx + pastR false ((cs.drop (k + 1 + nx)).map (·.1)) := by omega
              clear st2 st3 HSt4
              generalize k + 1 + nx + pastR false ((cs.drop (k + 1 + nx)).map (·.1)) = kk at *
              go_wp2_with fail
              go_roundw
              case rel => exact ⟨kk, acc ++ [⟨tk, tt, tn, k⟩], A', cap', st1, rfl, by rw [HL.out], HO6.out, hbr5, by rw [HL.out]; omega, HH3.out, HT3.out⟩
              case measure => simp [intOf]; omega
        · have HR2 : Hid (X = (acc ++ [⟨0, [], 0, (k : Int)⟩], 0, 0)) := by
            unfold Hid; rw [← HT.out, List.drop_of_length_le (by omega), T_nil]
          clear HT HH
          go_wp2_with (at_builtin; refine wpList_append_own _ rfl _ _ 23 rfl W1.heap.size 42 inf (.agg #[.int .i64 0, .string ⟨#[]⟩, .int .i64 0, .int .i64 0]) 4 40 Tryd.underlying23 hinf hz0 hz1 hz2 rfl (by decide) _ _ _ rfl (hown.alloc _) ⟨wr.heap.size, 0, none⟩ 1 1 (tokC ⟨0, [], 0, k⟩) rfl rfl ?d1 ?d2 ?d3 ?d4 ?d5 ?_)
          case d1 => exact new_cells0 wr _ (tokC ⟨0, [], 0, k⟩)
          case d2 => exact tokC_one _
          case d3 => unfold maxLen; omega
          case d4 => omega
          case d5 => simp; omega
          intro v' w4 hown4 hgr _
          have hbr4 : Below W1.heap.size W1 w4 :=
            (hbr.alloc hszr _).grown hgr (by simp; omega) (fun g hg => (hown.lt _ hg).1)
          have hown5 : w4.ownsRow w.heap.size 42 4 v' (acc ++ [(⟨0, [], 0, k⟩ : Tok)]).length (toksC (acc ++ [⟨0, [], 0, k⟩])) := by
            rw [toksC_append, toksC_one, List.length_append]; exact ownsRow_less hown4 (by omega)
          have HO := Lib.hid hown5
          clear hown4 hown hgr hown5
          go_wp2_with fail
          go_ret3
          exact ⟨v', by rw [HR2.out]; rfl, by rw [HR2.out]; exact HO.out, hb0.trans (hbr4.mono hb0.size)⟩
end Go.Proofs.YtbbebnbofalmlaaDoor.Lx
