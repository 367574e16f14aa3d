/-
  The contract of the document's Lay, walked.
-/
import Derived.Test.YthgoapcafjijfaaPgR2
namespace Go.Proofs.Ythgoapcafjijfaa.Pg
open Go.RowKit

theorem layS_no {l : List Rec} (h : ¬ okP l) : layS l = ⟨#[]⟩ := if_neg h
theorem layS_ok {l : List Rec} (h : okP l) : layS l = ⟨(layB l).toArray⟩ := if_pos h
theorem lay_full {l : List Rec} (_h : allP l ∧ incP l) (k : 7 < sumP l) : layS l = ⟨#[]⟩ := layS_no fun o => by have := o.2.2; omega
theorem pad_at (F : List UInt8) : F ++ List.replicate (256 - F.length) 0 = padB F := rfl

set_option maxRecDepth 100000 in
set_option maxHeartbeats 4000000 in
theorem refLay_all (X : Nat → Prop) (A : Option Addr) (l : List Rec) (c : Nat) (w : World) (h : Recs X w A l) (hs : l.length ≤ 1000000) :
    Calls Try.prog 12 #[.slice A l.length c] w (Val (.tuple #[.string (layS l), .int .i64 (layE l)]) w) := by
  have HU := Lib.hid (refSum_all X A l c w h hs)
  have HH := Lib.hid h
  go_enter Try.func12, Try.ntmps12
  go_wp2_with fail
  with_reducible refine HU.out.mono ?_
  rintro e w1 ⟨n, rfl, hn, hb1⟩
  have HN := Lib.hid hn
  clear HU hn
  go_wp2
  go_loopw [5] (RIncRel l w) (fun i _ => l.length - (intOf i).toNat)
  case atStart => exact ⟨0, rfl, .inl rfl, fun i _ h => by omega, hb1⟩
  case round =>
    obtain ⟨k, rfl, hk, hto, hw⟩ := hrel
    have h := h.below hw
    by_cases hlt : k + 1 < l.length
    · obtain ⟨ad, B, c', rfl, hlt2, g1, _, _, _, _, s1⟩ := h.at_ (i := k) (by omega)
      obtain ⟨ad', B', c'', e, _, g2, _, _, _, _, s2⟩ := h.at_ (i := k + 1) hlt
      injection e with e
      subst e
      have hk0 : (0 : Int) ≤ (k : Int) := Int.natCast_nonneg _
      have hto' := Lib.hid (incTo_succ hto hlt)
      have hno : Hid (less l[k].1 l[k + 1].1 = false → ¬ incP l) := fun hf hi => by rw [inc_at hi hlt] at hf; cases hf
      clear hto h
      have hi1 : ((k : Int) + 1) < (l.length : Int) := by omega
      generalize l[k].1 = s at *
      generalize l[k + 1].1 = t at *
      have hq := less_leq s t
      cases hL : less s t with
      | true =>
        rw [hL] at hq
        have hq2 : (Op.bytesLess t.toList s.toList || (t.toList == s.toList)) = false := hq
        have ha := Lib.hid (hto'.out hL)
        clear hto' hno hq hL
        go_wp2_with fail
        go_quiet (fail)
        go_wp2
        all_goals first | (exfalso; simp_all; done) | skip
        go_roundw
        case rel => exact ⟨k + 1, by go_num, .inr hlt, ha.out, below_drewN hw _⟩
        case measure => simp [intOf]; omega
      | false =>
        rw [hL] at hq
        have hq2 : (Op.bytesLess t.toList s.toList || (t.toList == s.toList)) = true := hq
        have ha := hno.out hL
        have HE := Lib.hid (layE_arg fun o => ha o.2)
        have HS := Lib.hid (layS_no fun o => ha o.2.1)
        clear hto' hno hq hL ha
        go_wp2_with fail
        go_quiet (fail)
        go_wp2
        all_goals first | (exfalso; simp_all; done) | skip
        go_ret2
        exact ⟨by rw [HE.out, HS.out]; rfl, below_drewN hw _⟩
    · have hinc : incP l := inc_of fun i hi => hto i hi (by omega)
      have hi1 : ¬ ((k : Int) + 1) < (l.length : Int) := by omega
      rcases HN.out with ⟨ha, n0, n1, n2, n3⟩ | ⟨ha, rfl⟩
      · by_cases h7 : 7 < n
        · have HE := Lib.hid (layE_full ⟨ha, hinc⟩ (n3 h7))
          have HS := Lib.hid (lay_full ⟨ha, hinc⟩ (n3 h7))
          clear h hto HN n2 n3 ha hinc HH
          go_wp2
          all_goals first | (exfalso; omega) | skip
          go_ret2
          exact ⟨by rw [HE.out, HS.out]; rfl, hw⟩
        · have hok : okP l := ⟨ha, hinc, by have := n2 (by omega); omega⟩
          have HE := Lib.hid (layE_ok hok)
          have HS := Lib.hid (layS_ok hok)
          have HK := Lib.hid hok
          have hcn : l.length ≤ 7 := by have := count_le ha; have := hok.2.2; omega
          clear h hto HN n2 n3 ha hinc hok
          have hx0 : OwnB w.heap.size (wr.alloc (.cells #[.int .u8 (l.length : Int)] 5)) (some ⟨wr.heap.size, 0, none⟩) 1 1 (headP l 0) := by
            refine ⟨rfl, ?_⟩
            have e : u8C (headP l 0) = [.int .u8 (l.length : Int)] := by
              rw [nat_u8 (show l.length < 256 by omega)]
              rfl
            rw [e]
            exact ⟨rfl, .inr ⟨wr.heap.size, 1, #[.int .u8 (l.length : Int)], rfl, hw.size, heap_alloc_new wr _, Nat.le_refl _, by unfold maxLen; omega, rfl, rfl⟩⟩
          have hbx := hw.alloc hw.size (.cells #[.int .u8 (l.length : Int)] 5)
          go_wp2
          all_goals first | (exfalso; omega) | skip
          go_loopw [6, 7] (RLayRel l w) (fun _ i _ => l.length - (intOf i).toNat)
          case atStart => exact ⟨0, 1, _, 1, rfl, rfl, by omega, by omega, hx0, hbx⟩
          case round =>
            clear hx0 hbx
            obtain ⟨j, n9, A0, c0, rfl, rfl, hj, hn9, ho0, hb0⟩ := hrel
            by_cases hlt : j < l.length
            · obtain ⟨ad, D, d, rfl, had, g1, g2, g3, g4, g5, g6⟩ := HH.out.at_ hlt
              have hfit := enc_fits HK.out hlt
              have hl9 : (headP l j).length = n9 := ho0.1
              rw [hl9] at hfit
              have HST := Lib.hid (head_step hlt)
              clear hl9
              generalize headP l j = P at *
              generalize hr : l[j] = p at *
              clear hr
              rename_i wr
              have cc : ∀ wx, Below w.heap.size w wx → wx.cell? (ad.add (j * 2)) = some (.string p.1) ∧ wx.cell? ⟨(ad.add (j * 2)).block, (ad.add (j * 2)).off + 1, none⟩ = some (.slice D p.2.length d) := fun wx hb =>
                ⟨(hb.cell (p := ad.add (j * 2)) (by rw [blk_add]; exact had)).trans g1, (hb.cell (p := ⟨(ad.add (j * 2)).block, (ad.add (j * 2)).off + 1, none⟩) (by show (ad.add (j * 2)).block < _; rw [blk_add]; exact had)).trans g2⟩
              have hsz0 := hb0.size
              have e0 : (p.1.size : Int) < 256 := by omega
              have e1 : (p.2.length : Int) < 256 := by omega
              obtain ⟨n3, hn3⟩ : ∃ n3, n9 + 2 + p.1.size = n3 := ⟨_, rfl⟩
              obtain ⟨n4, hn4⟩ : ∃ n4, n3 + p.2.length = n4 := ⟨_, rfl⟩
              obtain ⟨A1, c1, w1, hr1, ho1, hb1⟩ := run_app1 (x := p.1.size) ho0 (m := n9 + 1) rfl (by omega) (by omega) hsz0 hb0
              obtain ⟨A2, c2, w2, hr2, ho2, hb2⟩ := run_app1 (x := p.2.length) ho1 (m := n9 + 2) rfl (by omega) (by omega) hb1.size hb1
              obtain ⟨A3, c3, w3, hr3, ho3, hb3⟩ := run_appS (s := p.1) ho2 (m := n3) hn3 (by omega) hb2.size hb2
              obtain ⟨A4, c4, w4, hr4, ho4, hb4⟩ := run_appL ho3 (m := n4) hn4 d (g5.lie.below hb3) (by omega) hb3.size hb3
              rw [HST.out] at ho4
              have q1 := (cc _ hb0).1
              have q2 := (cc _ hb1).2
              have q3 := (cc _ hb2).1
              have q4 := (cc _ hb3).2
              have HO4 := Lib.hid ho4
              clear ho0 ho1 ho2 ho3 ho4 hb0 hb1 hb2 hb3 cc g1 g2 g5 HST
              have hn5 : n4 ≤ 225 := by omega
              clear hn3 hn4
              go_wp2_with (at_builtin; first | refine wpList_append_run rfl (.tmp 42) (.tmp 50) _ _ rfl rfl rfl hr1 ?_ | refine wpList_append_run rfl (.tmp 52) (.tmp 60) _ _ rfl rfl rfl hr2 ?_ | refine wpList_append_run rfl (.tmp 62) (.tmp 67) _ _ rfl rfl rfl hr3 ?_ | refine wpList_append_run rfl (.tmp 69) (.tmp 74) _ _ rfl rfl rfl hr4 ?_)
              go_roundw
              case rel => exact ⟨j + 1, n4, A4, c4, by go_num, rfl, by omega, hn5, HO4.out, hb4⟩
              case measure => simp [intOf]; omega
            · obtain rfl : j = l.length := by omega
              have HF : Hid (OwnB w.heap.size wr A0 n9 c0 (UInt8.ofNat l.length :: encP l ++ List.replicate (n9 - (UInt8.ofNat l.length :: encP l).length) 0)) := by
                show OwnB _ _ _ _ _ _
                have e : UInt8.ofNat l.length :: encP l ++ List.replicate (n9 - (UInt8.ofNat l.length :: encP l).length) 0 = headP l l.length := by
                  have hl9 : (headP l l.length).length = n9 := ho0.1
                  have e2 : headP l l.length = UInt8.ofNat l.length :: encP l := by unfold headP; rw [List.take_length]
                  rw [e2] at hl9 ⊢
                  rw [hl9, Nat.sub_self, List.replicate_zero, List.append_nil]
                rw [e]
                exact ho0
              have hlF : (UInt8.ofNat l.length :: encP l).length = n9 := by
                have hl9 : (headP l l.length).length = n9 := ho0.1
                have e2 : headP l l.length = UInt8.ofNat l.length :: encP l := by unfold headP; rw [List.take_length]
                rw [e2] at hl9
                exact hl9
              have HLF := Lib.hid hlF
              have HLB : Hid (layB l = padB (UInt8.ofNat l.length :: encP l)) := rfl
              clear HH ho0 hlF
              generalize UInt8.ofNat l.length :: encP l = F at *
              go_wp2
              all_goals first | (exfalso; omega) | skip
              go_loopw [6] (RPadRel F w) (fun v _ => 256 - lenOf v)
              case atStart => exact ⟨n9, A0, c0, rfl, by omega, by have := HLF.out; omega, HF.out, hb0⟩
              case round =>
                clear HF hb0
                obtain ⟨m, A5, c5, rfl, hm, hFm, ho5, hb5⟩ := hrel
                by_cases hlt : m < 256
                · obtain ⟨A6, c6, w6, hr6, ho6, hb6⟩ := run_app1 (x := 0) ho5 (m := m + 1) rfl (by omega) (by omega) hb5.size hb5
                  have HO6 : Hid (OwnB w.heap.size w6 A6 (m + 1) c6 (F ++ List.replicate (m + 1 - F.length) 0)) := by
                    show OwnB _ _ _ _ _ _
                    rw [show m + 1 - F.length = (m - F.length) + 1 by omega, List.replicate_succ', ← List.append_assoc]
                    exact ho6
                  clear ho5 ho6
                  go_wp2_with (at_builtin; refine wpList_append_run rfl (.tmp 79) (.tmp 80) _ _ rfl rfl rfl hr6 ?_)
                  all_goals first | (exfalso; omega) | skip
                  go_roundw
                  case rel => exact ⟨m + 1, A6, c6, rfl, by omega, by omega, HO6.out, hb6⟩
                  case measure => simp [lenOf]; omega
                · obtain rfl : m = 256 := by omega
                  have hcv := ho5.conv
                  rw [pad_at] at hcv
                  clear ho5
                  rw [← HLB.out] at hcv
                  go_wp2
                  go_ret2
                  exact ⟨by rw [HE.out, HS.out]; rfl, hb5⟩
      · have HE := Lib.hid (layE_arg fun o => ha o.1)
        have HS := Lib.hid (layS_no fun o => ha o.1)
        clear h hto HN ha hinc HH
        go_wp2
        all_goals first | (exfalso; omega) | skip
        go_ret2
        exact ⟨by rw [HE.out, HS.out]; rfl, hw⟩
end Go.Proofs.Ythgoapcafjijfaa.Pg
