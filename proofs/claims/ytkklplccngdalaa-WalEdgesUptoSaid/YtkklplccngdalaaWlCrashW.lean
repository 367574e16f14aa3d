/-
  WalCrash, walked.
-/
import Derived.Test.YtkklplccngdalaaWlAgainW
namespace Go.Proofs.Ytkklplccngdalaa.Dk
open Go.RowKit

set_option maxRecDepth 100000 in
set_option maxHeartbeats 1000000 in
/-- The law asks nothing. -/
theorem crash_out (A A2 A3 : Option Addr) (l : List Gp) (c : Nat) (m2 c2 : Nat) (cuts : List Int) (c3 : Nat) (w : World) (hc : l.length ≤ c) (hm : c ≤ maxLen) (hl : Gps w.heap.size w A l) (hno : ¬ smallP l 8 ∨ 10 < cuts.length) :
    Calls Try.prog 4 #[.slice A l.length c, .slice A2 m2 c2, .slice A3 cuts.length c3] w (TruePost w) := by
  have HA := Lib.hid (awake_all w)
  have HS : Hid (∀ w', Below w.heap.size w w' → Calls Try.prog 11 #[.slice A l.length c, .int .i64 8] w' (Same (.bool (decide (smallP l 8))) w')) := fun w' hb => small_all _ A l c 8 w' (hl.below hb) hc hm (by omega)
  have HO : Hid (∀ w, Calls Try.prog 12 #[.int .i64 80] w (OpenedPost 80 w)) := fun w => opened_all 80 80 w rfl (by omega) (by omega)
  clear hl
  by_cases hs : smallP l 8
  · have h6 : 10 < cuts.length := hno.resolve_left fun h => h hs
    rw [decide_eq_true hs] at HS
    have b1 : decide ((10 : Int) < (cuts.length : Int)) = true := by simp; omega
    clear hno
    go_enter Try.func4, Try.ntmps4
    go_wp2_with fail
    refine HA.out.mono ?_
    rintro e w1 ⟨rfl, hb1⟩
    go_wp2_with fail
    refine (HS.out _ hb1).mono ?_
    rintro e w' ⟨rfl, rfl⟩
    go_wp2_with fail
    refine (HO.out _).mono ?_
    rintro e w2 ⟨g, s, q, rfl, _, _, _, _, hb2⟩
    have hb3 := hb1.trans (hb2.mono hb1.size)
    clear hb1 hb2 HA HS HO
    go_wp2
    all_goals first | (exfalso; omega) | skip
    go_ret
    exact ⟨rfl, hb3⟩
  · rw [decide_eq_false hs] at HS
    clear hno
    go_enter Try.func4, Try.ntmps4
    go_wp2_with fail
    refine HA.out.mono ?_
    rintro e w1 ⟨rfl, hb1⟩
    go_wp2_with fail
    refine (HS.out _ hb1).mono ?_
    rintro e w' ⟨rfl, rfl⟩
    go_wp2_with fail
    refine (HO.out _).mono ?_
    rintro e w2 ⟨g, s, q, rfl, _, _, _, _, hb2⟩
    have hb3 := hb1.trans (hb2.mono hb1.size)
    clear hb1 hb2 HA HS HO
    go_wp2
    go_ret
    exact ⟨rfl, hb3⟩

/-- Behind each group: a log in use, and the document's, alike. -/
def CrRel (len g s : Nat) (w : World) (x m i : Value) (wr : World) : Prop :=
  ∃ (k q gm sm : Nat) (D : Dsk) (M : List (List UInt8)), x = .pointer (some ⟨q, 0, none⟩) ∧ m = .pointer (some ⟨gm, 0, none⟩) ∧ i = .int .i64 (k : Int) ∧ k ≤ len ∧ Lg wr q g s D false ∧ D.on = true ∧ D.L.length = 80 ∧ St 80 D.L M ∧ i64 D.left ∧ 0 ≤ D.wr ∧ D.wr ≤ 110000 * k ∧
    Md wr gm sm M ∧ ¬ Tri q g s gm ∧ ¬ Tri q g s sm ∧ w.heap.size ≤ q ∧ w.heap.size ≤ gm ∧ w.heap.size ≤ sm ∧ Below w.heap.size w wr
theorem tri_b {w w1 w2 : World} {q g s : Nat} (hb : Below w.heap.size w w1) (f : Fr (Tri q g s) w1 w2) (hq : w.heap.size ≤ q) (hg : w.heap.size ≤ g) (hs : w.heap.size ≤ s) : Below w.heap.size w w2 :=
  hb.trans (f.below hb.size (fun b h => by rcases h with rfl | rfl | rfl <;> assumption))
theorem two_b {w w1 w2 : World} {g s : Nat} (hb : Below w.heap.size w w1) (f : Fr (Two g s) w1 w2) (hg : w.heap.size ≤ g) (hs : w.heap.size ≤ s) : Below w.heap.size w w2 :=
  hb.trans (f.below hb.size (fun b h => by rcases h with rfl | rfl <;> assumption))
theorem two_tri {w1 w2 : World} {q g s : Nat} (f : Fr (Two g s) w1 w2) : Fr (Tri q g s) w1 w2 := f.mono fun _ => Tri.two
theorem Gps.out {B : Nat} {w : World} {A : Option Addr} {l : List Gp} (h : Gps B w A l) {i : Nat} (hi : i < l.length) : ∃ ad v0 v1 v2, A = some ad ∧ w.cell? (ad.add (i * 3)) = some v0 ∧ w.cell? ⟨(ad.add (i * 3)).block, (ad.add (i * 3)).off + 1, none⟩ = some v1 ∧ w.cell? ⟨(ad.add (i * 3)).block, (ad.add (i * 3)).off + 2, none⟩ = some v2 ∧ GpVal B w v0 v1 v2 l[i] := h.at_ hi

set_option maxRecDepth 100000 in
set_option maxHeartbeats 8000000 in
theorem crash_in (A A2 A3 : Option Addr) (l : List Gp) (c : Nat) (after : List Int) (c2 : Nat) (cuts : List Int) (c3 : Nat) (w : World) (hc : l.length ≤ c) (hm : c ≤ maxLen) (hl : Gps w.heap.size w A l) (haf : Nums w A2 after) (hcu : Nums w A3 cuts) (hs : smallP l 8) (h10 : cuts.length ≤ 10) :
    Calls Try.prog 4 #[.slice A l.length c, .slice A2 after.length c2, .slice A3 cuts.length c3] w (TruePost w) := by
  have HA := Lib.hid (awake_all w)
  have HS : Hid (∀ w', Below w.heap.size w w' → Calls Try.prog 11 #[.slice A l.length c, .int .i64 8] w' (Same (.bool true) w')) := fun w' hb => by
    have := small_all _ A l c 8 w' (hl.below hb) hc hm (by omega)
    rw [decide_eq_true hs] at this
    exact this
  have HO : Hid (∀ w, Calls Try.prog 12 #[.int .i64 80] w (OpenedPost 80 w)) := fun w => opened_all 80 80 w rfl (by omega) (by omega)
  have HN : Hid (∀ w, Calls Try.prog 13 #[.int .i64 80] w (MdPost (List.replicate (room 80) (full 0)) w)) := fun w => rnew_all 80 w (by omega) (by omega)
  have b1 : decide ((10 : Int) < (cuts.length : Int)) = false := by simp; omega
  have hl8 := hs.1
  have hS0 : St 80 (new 80).L (List.replicate (room 80) (full 0)) := St.new (by omega)
  have HS0 := Lib.hid hS0
  clear hS0
  have hcuB : ∀ ad, A3 = some ad → 0 < cuts.length → ad.block < w.heap.size := fun ad e hp => by
    obtain ⟨ad', e', hlt, _⟩ := hcu.2 hp
    rw [e] at e'
    injection e' with e'
    rw [e']
    exact hlt
  have hafB : ∀ ad, A2 = some ad → 0 < after.length → ad.block < w.heap.size := fun ad e hp => by
    obtain ⟨ad', e', hlt, _⟩ := haf.2 hp
    rw [e] at e'
    injection e' with e'
    rw [e']
    exact hlt
  have HCU : Hid (∀ w', Below w.heap.size w w' → Nums w' A3 cuts) := fun w' hb => hcu.below hb hcuB
  have HAF : Hid (∀ w', Below w.heap.size w w' → Nums w' A2 after) := fun w' hb => haf.below hb hafB
  have HCB := Lib.hid hcuB
  have HGP : Hid (∀ w', Below w.heap.size w w' → Gps w.heap.size w' A l) := fun w' hb => hl.below hb
  have HSM := Lib.hid hs.2
  clear hcu haf hcuB hafB hl hs
  go_enter Try.func4, Try.ntmps4
  go_wp2_with fail
  refine HA.out.mono ?_
  rintro e w1 ⟨rfl, hb1⟩
  go_wp2_with fail
  refine (HS.out _ hb1).mono ?_
  rintro e w' ⟨rfl, rfl⟩
  go_wp2_with fail
  refine (HO.out _).mono ?_
  rintro e w2 ⟨g, s, q, rfl, hg, hs2, hq, hL2, hb2⟩
  have hb3 := hb1.trans (hb2.mono hb1.size)
  have hsz1 := hb1.size
  clear hb1 hb2 HA HS HO
  have HL2 := Lib.hid hL2
  have hlt2 := hL2.lt
  clear hL2
  go_wp2_with fail
  all_goals first | (exfalso; omega) | skip
  refine (HN.out _).mono ?_
  rintro e w3 ⟨gm, sm, rfl, hgm, hsm, hMd, hb4⟩
  have hb5 := hb3.trans (hb4.mono hb3.size)
  have hsz3 := hb3.size
  have HR0 : Hid (CrRel l.length g s w (.pointer (some ⟨q, 0, none⟩)) (.pointer (some ⟨gm, 0, none⟩)) (.int .i64 0) w3) :=
    ⟨0, q, gm, sm, new 80, _, rfl, rfl, rfl, by omega, HL2.out.below hb4, rfl, new_len 80, HS0.out, by unfold i64; show -9223372036854775808 ≤ (-1 : Int) ∧ (-1 : Int) ≤ 9223372036854775807; omega, by show (0 : Int) ≤ 0; omega, by show (0 : Int) ≤ 110000 * 0; omega, hMd, fun t => by rcases t with t | t | t <;> omega, fun t => by rcases t with t | t | t <;> omega, by omega, by omega, by omega, hb5⟩
  have hg0 : w.heap.size ≤ g := by omega
  have hs0 : w.heap.size ≤ s := by omega
  clear hb3 hb4 hb5 hMd HL2 HS0 HN hlt2 hsz3 hgm hsm hg hs2 hq hsz1
  go_wp2
  go_loopw [10, 12, 13] (CrRel l.length g s w) (fun _ _ i _ => l.length - (intOf i).toNat)
  case atStart => exact HR0.out
  case round =>
    clear HR0
    obtain ⟨k, q, gm, sm, D, M, rfl, rfl, rfl, hk, hLg, hon, hDL, hSt, hi6, hw0, hw1, hMd, hng, hns, hq0, hgm0, hsm0, hbl⟩ := hrel
    have hMl : M.length = room 80 := hSt.2.2.1
    have hM39 : M.length ≤ 39 ∧ 39 ≤ M.length := by rw [hMl]; decide
    have HML := Lib.hid hMl
    clear hMl
    have HSt := Lib.hid hSt
    clear hSt
    by_cases hlt : k < l.length
    · obtain ⟨ad, v0, v1, v2, rfl, g0, g1, g2, hgv⟩ := (HGP.out _ hbl).out hlt
      have hsm := HSM.out _ (List.getElem_mem hlt)
      have hk0 : (0 : Int) ≤ (k : Int) := Int.natCast_nonneg _
      have hkl : (k : Int) < (l.length : Int) := by omega
      have hlt3 := hLg.lt
      have HMa := Lib.hid (made_gp (X := Tri q g s) hgv (fun b hb => by rcases hb with rfl | rfl | rfl <;> omega) (by omega))
      have hGl : l[k].made.length ≤ 100 := by rw [made_len]; omega
      have HLg := Lib.hid hLg
      have HB := Lib.hid hbl
      have HMd := Lib.hid hMd
      clear hgv hLg hbl hlt3 hMd hsm
      generalize l[k].made = G at *
      go_wp2_with fail
      refine HMa.out.mono ?_
      rintro e w4 ⟨A4, c4, rfl, hc4, hm4, hG4, hb4⟩
      have HLg4 := Lib.hid (HLg.out.below hb4)
      have HMd4 := Lib.hid (HMd.out.below hb4)
      have HB4 := Lib.hid (HB.out.trans (hb4.mono HB.out.size))
      have HRi := Lib.hid (right_all A4 G c4 (Tri q g s) HMd4.out hG4 hc4 hm4 (by omega) (by omega))
      have HG4 := Lib.hid hG4
      clear HMa HLg HMd HB hb4 hG4
      go_wp2_with fail
      refine HRi.out.mono ?_
      rintro e w5 ⟨rfl, hb5⟩
      have HLg5 := Lib.hid (HLg4.out.below hb5)
      have HMd5 := Lib.hid (HMd4.out.below hb5)
      have HB5 := Lib.hid (HB4.out.trans (hb5.mono HB4.out.size))
      have HG5 := Lib.hid (HG4.out.below hb5)
      clear HRi HLg4 HMd4 HB4 HG4 hb5
      by_cases haf1 : k < after.length
      · obtain ⟨ad2, rfl, had2, hcell, h64⟩ := (HAF.out _ HB5.out).at_ haf1
        have ba : decide ((k : Int) < (after.length : Int)) = true := by simp; omega
        have hka : (k : Int) < (after.length : Int) := by omega
        generalize after[k] = z at *
        go_wp2_with fail
        all_goals first | (exfalso; omega) | skip
        refine (cut_all z HLg5.out.2.1).mono ?_
        rintro e w6 ⟨rfl, k6, f6⟩
        obtain ⟨L6, f6'⟩ := HLg5.out.disk k6 f6 rfl
        have HLg6 := Lib.hid L6
        have HMd6 := Lib.hid (HMd5.out.fr f6' hng hns)
        have HB6 := Lib.hid (tri_b HB5.out f6' hq0 hg0 hs0)
        have HG6 := Lib.hid (HG5.out.fr f6')
        have HSt6 : Hid (St 80 (D.cut z).L M) := HSt.out
        have hon6 : (D.cut z).on = true := hon
        have hDL6 : (D.cut z).L.length = 80 := hDL
        have hi66 : i64 (D.cut z).left := cut_i64 h64 D
        have hw60 : 0 ≤ (D.cut z).wr := hw0
        have hw61 : (D.cut z).wr ≤ 110000 * k := hw1
        clear HLg5 HMd5 HB5 HG5 k6 f6 L6 f6' HSt hon hDL hi6 hw0 hw1 hcell h64 ba
        generalize D.cut z = D6 at *
        by_cases hok : okG M.length G
        · have hok8 : okG (room 80) G := by rw [← HML.out]; exact hok
          have HC := Lib.hid (commit_inv c4 HLg6.out hon6 hDL6 (by omega) (by omega) HSt6.out HG6.out hok8 hc4 hm4 hi66 (by omega))
          rw [decide_eq_true hok]
          go_wp2_with fail
          all_goals first | (exfalso; omega) | skip
          refine HC.out.mono ?_
          rintro e w7 ⟨D7, a1, a2, a3, a4, f7, a6⟩
          rcases a6 with ⟨o7, S7, rfl, L7, _, _⟩ | ⟨o7, _, _, rfl, L7, I7⟩
          · have HMd7 := Lib.hid (HMd6.out.fr f7 hng hns)
            have HB7 := Lib.hid (tri_b HB6.out f7 hq0 hg0 hs0)
            have HG7 := Lib.hid (HG6.out.fr f7)
            have HBe := Lib.hid (behind_all A4 G c4 (Tri q g s) HMd7.out HG7.out hc4 hm4 hok (by omega) (by omega))
            have HL7 := Lib.hid L7
            have HS7 := Lib.hid S7
            have hlt7 := L7.lt
            clear HC HLg6 HMd6 HB6 HG6 f7 L7 S7
            go_wp2_with fail
            refine HBe.out.mono ?_
            rintro e w8 ⟨gm8, sm8, rfl, hgm8, hsm8, hMd8, hb8⟩
            have HL8 := Lib.hid (HL7.out.below hb8)
            have HMd8 := Lib.hid hMd8
            have HB8 := Lib.hid (HB7.out.trans (hb8.mono HB7.out.size))
            have hsz7 := HB7.out.size
            clear HBe HMd7 HG7 HL7 hMd8 hb8 HB7
            go_wp2_with fail
            refine (cut_all (-1) HL8.out.2.1).mono ?_
            rintro e w9 ⟨rfl, k9, f9⟩
            obtain ⟨L9, f9'⟩ := HL8.out.disk k9 f9 rfl
            have hng8 : ¬ Tri q g s gm8 := fun t => by rcases t with t | t | t <;> omega
            have hns8 : ¬ Tri q g s sm8 := fun t => by rcases t with t | t | t <;> omega
            have hrel9 : CrRel l.length g s w (.pointer (some ⟨q, 0, none⟩)) (.pointer (some ⟨gm8, 0, none⟩)) (.int .i64 ((k + 1 : Nat) : Int)) w9 :=
              ⟨k + 1, q, gm8, sm8, _, behind M G, rfl, rfl, rfl, by omega, L9, o7, a1, HS7.out, cut_i64 (by unfold i64; omega) _, by show 0 ≤ D7.wr; omega, by show D7.wr ≤ _; omega, HMd8.out.fr f9' hng8 hns8, hng8, hns8, hq0, by omega, by omega, tri_b HB8.out f9' hq0 hg0 hs0⟩
            have HR9 := Lib.hid hrel9
            clear HL8 k9 f9 f9' L9 HMd8 HB8 hrel9
            go_wp2
            go_roundw
            case rel => exact HR9.out
            case measure => simp [intOf]; omega
          · have HMd7 := Lib.hid (HMd6.out.fr f7 hng hns)
            have HB7 := Lib.hid (tri_b HB6.out f7 hq0 hg0 hs0)
            have HG7 := Lib.hid (HG6.out.fr f7)
            have hor : ∃ M7, (M7 = M ∨ M7 = behind M G) ∧ Inv 80 D7.L M7 := by
              by_cases hif : ((G.length + nIx G + 1 : Nat) : Int) ≤ D6.left
              · rw [if_pos hif] at I7
                exact ⟨_, .inr rfl, I7⟩
              · rw [if_neg hif] at I7
                exact ⟨_, .inl rfl, I7⟩
            obtain ⟨M7, hor, hI7⟩ := hor
            have HOR := Lib.hid hor
            have HI7 := Lib.hid hI7
            clear HC HLg6 HMd6 HB6 HG6 f7 I7 hor hI7
            go_wp2_with fail
            refine (lread_dead 0 L7 rfl).mono ?_
            rintro e w8 ⟨rfl, L8, f8⟩
            have HMd8 := Lib.hid (HMd7.out.fr f8 hng hns)
            have HB8 := Lib.hid (tri_b HB7.out f8 hq0 hg0 hs0)
            have HG8 := Lib.hid (HG7.out.fr f8)
            clear L7 HMd7 HB7 HG7 f8
            go_wp2_with fail
            refine (up_all L8.2.1).mono ?_
            rintro e w9 ⟨rfl, k9, f9⟩
            obtain ⟨L9, f9'⟩ := L8.disk k9 f9 rfl
            have HMd9 := Lib.hid (HMd8.out.fr f9' hng hns)
            have HB9 := Lib.hid (tri_b HB8.out f9' hq0 hg0 hs0)
            have HG9 := Lib.hid (HG8.out.fr f9')
            have HI9 : Hid (Inv 80 D7.up.L M7) := HI7.out
            have n9 : D7.up.L.length = 80 := a1
            have w9a : D7.up.wr = D7.wr := rfl
            have l9 : i64 D7.up.left := by unfold i64; show -9223372036854775808 ≤ (-1 : Int) ∧ (-1 : Int) ≤ 9223372036854775807; omega
            clear L8 HMd8 HB8 HG8 f9 f9' k9 HI7
            generalize D7.up = D9 at *
            go_wp2_with fail
            refine (lread_dead 0 L9 rfl).mono ?_
            rintro e w10 ⟨rfl, La, fa⟩
            have HMda := Lib.hid (HMd9.out.fr fa hng hns)
            have HBa := Lib.hid (tri_b HB9.out fa hq0 hg0 hs0)
            have HGa := Lib.hid (HG9.out.fr fa)
            clear L9 HMd9 HB9 HG9 fa
            go_wp2_with fail
            refine (commit_dead 0 0 La rfl).mono ?_
            rintro e w11 ⟨rfl, Lb, fb⟩
            have HMdb := Lib.hid (HMda.out.fr fb hng hns)
            have HBb := Lib.hid (tri_b HBa.out fb hq0 hg0 hs0)
            have HGb := Lib.hid (HGa.out.fr fb)
            have HRC := Lib.hid (recovered_all (A := A3) cuts c3 Lb.2.1 n9 (by omega) (by omega) HI9.out l9 (by omega) (HCU.out _ HBb.out) (fun ad e hp h => by have := HCB.out ad e hp; rcases h with h | h <;> omega) (by omega))
            have hltb := HMdb.out.lt
            clear La HMda HBa HGa fb Lb HI9
            go_wp2_with fail
            refine HRC.out.mono ?_
            rintro e w12 ⟨Dc, qc, rfl, hqc, Lc, oc, nc, Sc, ic, wc1, wc2, fc⟩
            have HMdc := Lib.hid (HMdb.out.fr (two_tri (q := q) fc) hng hns)
            have HBc := Lib.hid (two_b HBb.out fc hg0 hs0)
            have HGc : Hid (Grp (Tri qc g s) w12 A4 G) := Lib.hid (((HGb.out.mono (Y := fun b => Tri q g s b ∨ w11.heap.size ≤ b) (fun b hb hy => hy.elim id (fun h => absurd hb (by omega)))).fr (fc.mono (fun b h => .inl (Tri.two h)))).mono (fun b _ h => by
              rcases h with h | h
              · exact .inr (by omega)
              · exact .inl (.inr h)))
            have hqc0 := Nat.le_trans HBb.out.size hqc
            have hngc : ¬ Tri qc g s gm := fun t => by
              rcases t with t | t
              · omega
              · exact hng (.inr t)
            have hnsc : ¬ Tri qc g s sm := fun t => by
              rcases t with t | t
              · omega
              · exact hns (.inr t)
            have HAl := Lib.hid (alike_all (m := M) Lc oc nc (by omega) (by omega) Sc HMdc.out hngc hnsc HML.out)
            have HSc := Lib.hid Sc
            clear HRC HMdb HBb HGb fc Lc Sc
            by_cases hold : M7 = M
            · rw [decide_eq_true hold] at HAl
              go_wp2_with fail
              refine HAl.out.mono ?_
              rintro e w13 ⟨rfl, Ld, fd⟩
              have HMdd := Lib.hid (HMdc.out.fr fd hngc hnsc)
              have HBd := Lib.hid (tri_b HBc.out fd hqc0 hg0 hs0)
              have HGd := Lib.hid (HGc.out.fr fd)
              have HBe := Lib.hid (behind_all A4 G c4 (Tri qc g s) HMdd.out HGd.out hc4 hm4 hok (by omega) (by omega))
              have HLd := Lib.hid Ld
              have hltd := Ld.lt
              clear HAl HMdc HBc HGc fd Ld
              go_wp2_with fail
              refine HBe.out.mono ?_
              rintro e w14 ⟨gmE, smE, rfl, hgmE, hsmE, hMdE, hbE⟩
              have HLe := Lib.hid (HLd.out.below hbE)
              have HMde := Lib.hid (HMdd.out.below hbE)
              have HBee := Lib.hid (HBd.out.trans (hbE.mono HBd.out.size))
              have HGe := Lib.hid (HGd.out.below hbE)
              have hngE : ¬ Tri qc g s gmE := fun t => by rcases t with t | t | t <;> omega
              have hnsE : ¬ Tri qc g s smE := fun t => by rcases t with t | t | t <;> omega
              have HA2 := Lib.hid (alike_all (m := behind M G) HLe.out oc nc (by omega) (by omega) HSc.out hMdE hngE hnsE (by rw [behind_len]; exact HML.out))
              clear HBe HLd HMdd HBd HGd hMdE hbE
              generalize decide (M7 = behind M G) = bb at *
              go_wp2_with fail
              refine HA2.out.mono ?_
              rintro e w15 ⟨rfl, Lf, ff⟩
              have hrel9 : CrRel l.length g s w (.pointer (some ⟨qc, 0, none⟩)) (.pointer (some ⟨gm, 0, none⟩)) (.int .i64 ((k + 1 : Nat) : Int)) w15 :=
                ⟨k + 1, qc, gm, sm, Dc, M, rfl, rfl, rfl, by omega, Lf, oc, nc, by have := HSc.out; rw [hold] at this; exact this, ic, by omega, by omega, HMde.out.fr ff hngc hnsc, hngc, hnsc, hqc0, hgm0, hsm0, tri_b HBee.out ff hqc0 hg0 hs0⟩
              have HR9 := Lib.hid hrel9
              clear HA2 HLe HMde HBee HGe Lf ff hrel9
              go_wp2
              go_roundw
              case rel => exact HR9.out
              case measure => simp [intOf]; omega
            · rw [decide_eq_false hold] at HAl
              go_wp2_with fail
              refine HAl.out.mono ?_
              rintro e w13 ⟨rfl, Ld, fd⟩
              have HMdd := Lib.hid (HMdc.out.fr fd hngc hnsc)
              have HBd := Lib.hid (tri_b HBc.out fd hqc0 hg0 hs0)
              have HGd := Lib.hid (HGc.out.fr fd)
              have HBe := Lib.hid (behind_all A4 G c4 (Tri qc g s) HMdd.out HGd.out hc4 hm4 hok (by omega) (by omega))
              have HLd := Lib.hid Ld
              have hltd := Ld.lt
              clear HAl HMdc HBc HGc fd Ld
              go_wp2_with fail
              refine HBe.out.mono ?_
              rintro e w14 ⟨gmE, smE, rfl, hgmE, hsmE, hMdE, hbE⟩
              have HLe := Lib.hid (HLd.out.below hbE)
              have HMde := Lib.hid (HMdd.out.below hbE)
              have HBee := Lib.hid (HBd.out.trans (hbE.mono HBd.out.size))
              have HGe := Lib.hid (HGd.out.below hbE)
              have hngE : ¬ Tri qc g s gmE := fun t => by rcases t with t | t | t <;> omega
              have hnsE : ¬ Tri qc g s smE := fun t => by rcases t with t | t | t <;> omega
              have HA2 := Lib.hid (alike_all (m := behind M G) HLe.out oc nc (by omega) (by omega) HSc.out hMdE hngE hnsE (by rw [behind_len]; exact HML.out))
              clear HBe HLd HMdd HBd HGd hMdE hbE
              have hM7 : M7 = behind M G := HOR.out.resolve_left hold
              rw [decide_eq_true hM7] at HA2
              go_wp2_with fail
              refine HA2.out.mono ?_
              rintro e w15 ⟨rfl, Lf, ff⟩
              have HMdf := Lib.hid (HMde.out.fr ff hngc hnsc)
              have HBf := Lib.hid (tri_b HBee.out ff hqc0 hg0 hs0)
              have HGf := Lib.hid (HGe.out.fr ff)
              have HBe2 := Lib.hid (behind_all A4 G c4 (Tri qc g s) HMdf.out HGf.out hc4 hm4 hok (by omega) (by omega))
              have HLf := Lib.hid Lf
              have hltf := Lf.lt
              clear HA2 HLe HMde HBee HGe ff Lf
              go_wp2_with fail
              refine HBe2.out.mono ?_
              rintro e w16 ⟨gmG, smG, rfl, hgmG, hsmG, hMdG, hbG⟩
              have hszf := HBf.out.size
              have hrel9 : CrRel l.length g s w (.pointer (some ⟨qc, 0, none⟩)) (.pointer (some ⟨gmG, 0, none⟩)) (.int .i64 ((k + 1 : Nat) : Int)) w16 :=
                ⟨k + 1, qc, gmG, smG, Dc, behind M G, rfl, rfl, rfl, by omega, HLf.out.below hbG, oc, nc, by have := HSc.out; rw [hM7] at this; exact this, ic, by omega, by omega, hMdG, fun t => by rcases t with t | t | t <;> omega, fun t => by rcases t with t | t | t <;> omega, hqc0, by omega, by omega, HBf.out.trans (hbG.mono HBf.out.size)⟩
              have HR9 := Lib.hid hrel9
              clear HBe2 HLf HMdf HBf HGf hMdG hbG hrel9
              go_wp2
              go_roundw
              case rel => exact HR9.out
              case measure => simp [intOf]; omega
        · have HC := Lib.hid (commit_bad c4 HLg6.out hon6 HG6.out (by rw [hDL6, ← HML.out]; exact hok) hc4 hm4)
          rw [decide_eq_false hok]
          go_wp2_with fail
          all_goals first | (exfalso; omega) | skip
          refine HC.out.mono ?_
          rintro e w7 ⟨rfl, L7, f7⟩
          have HMd7 := Lib.hid (HMd6.out.fr f7 hng hns)
          have HB7 := Lib.hid (tri_b HB6.out f7 hq0 hg0 hs0)
          clear HC HLg6 HMd6 HB6 HG6 f7
          go_wp2_with fail
          refine (cut_all (-1) L7.2.1).mono ?_
          rintro e w8 ⟨rfl, k8, f8⟩
          obtain ⟨L8, f8'⟩ := L7.disk k8 f8 rfl
          have hrel9 : CrRel l.length g s w (.pointer (some ⟨q, 0, none⟩)) (.pointer (some ⟨gm, 0, none⟩)) (.int .i64 ((k + 1 : Nat) : Int)) w8 :=
            ⟨k + 1, q, gm, sm, _, M, rfl, rfl, rfl, by omega, L8, hon6, hDL6, HSt6.out, cut_i64 (by unfold i64; omega) _, hw60, by show D6.wr ≤ _; omega, HMd7.out.fr f8' hng hns, hng, hns, hq0, hgm0, hsm0, tri_b HB7.out f8' hq0 hg0 hs0⟩
          have HR9 := Lib.hid hrel9
          clear L7 k8 f8 f8' L8 HMd7 HB7 hrel9
          go_wp2
          go_roundw
          case rel => exact HR9.out
          case measure => simp [intOf]; omega
      · have ba : decide ((k : Int) < (after.length : Int)) = false := by simp; omega
        have HLg6 := HLg5
        have HMd6 := HMd5
        have HB6 := HB5
        have HG6 := HG5
        have HSt6 := HSt
        have hon6 := hon
        have hDL6 := hDL
        have hi66 := hi6
        have hw60 := hw0
        have hw61 := hw1
        clear HLg5 HMd5 HB5 HG5 HSt hon hDL hi6 hw0 hw1
        generalize hD6 : D = D6 at *
        generalize hw6 : w5 = w6 at *
        clear hD6 hw6
        by_cases hok : okG M.length G
        · have hok8 : okG (room 80) G := by rw [← HML.out]; exact hok
          have HC := Lib.hid (commit_inv c4 HLg6.out hon6 hDL6 (by omega) (by omega) HSt6.out HG6.out hok8 hc4 hm4 hi66 (by omega))
          rw [decide_eq_true hok]
          go_wp2_with fail
          all_goals first | (exfalso; omega) | skip
          refine HC.out.mono ?_
          rintro e w7 ⟨D7, a1, a2, a3, a4, f7, a6⟩
          rcases a6 with ⟨o7, S7, rfl, L7, _, _⟩ | ⟨o7, _, _, rfl, L7, I7⟩
          · have HMd7 := Lib.hid (HMd6.out.fr f7 hng hns)
            have HB7 := Lib.hid (tri_b HB6.out f7 hq0 hg0 hs0)
            have HG7 := Lib.hid (HG6.out.fr f7)
            have HBe := Lib.hid (behind_all A4 G c4 (Tri q g s) HMd7.out HG7.out hc4 hm4 hok (by omega) (by omega))
            have HL7 := Lib.hid L7
            have HS7 := Lib.hid S7
            have hlt7 := L7.lt
            clear HC HLg6 HMd6 HB6 HG6 f7 L7 S7
            go_wp2_with fail
            refine HBe.out.mono ?_
            rintro e w8 ⟨gm8, sm8, rfl, hgm8, hsm8, hMd8, hb8⟩
            have HL8 := Lib.hid (HL7.out.below hb8)
            have HMd8 := Lib.hid hMd8
            have HB8 := Lib.hid (HB7.out.trans (hb8.mono HB7.out.size))
            have hsz7 := HB7.out.size
            clear HBe HMd7 HG7 HL7 hMd8 hb8 HB7
            go_wp2_with fail
            refine (cut_all (-1) HL8.out.2.1).mono ?_
            rintro e w9 ⟨rfl, k9, f9⟩
            obtain ⟨L9, f9'⟩ := HL8.out.disk k9 f9 rfl
            have hng8 : ¬ Tri q g s gm8 := fun t => by rcases t with t | t | t <;> omega
            have hns8 : ¬ Tri q g s sm8 := fun t => by rcases t with t | t | t <;> omega
            have hrel9 : CrRel l.length g s w (.pointer (some ⟨q, 0, none⟩)) (.pointer (some ⟨gm8, 0, none⟩)) (.int .i64 ((k + 1 : Nat) : Int)) w9 :=
              ⟨k + 1, q, gm8, sm8, _, behind M G, rfl, rfl, rfl, by omega, L9, o7, a1, HS7.out, cut_i64 (by unfold i64; omega) _, by show 0 ≤ D7.wr; omega, by show D7.wr ≤ _; omega, HMd8.out.fr f9' hng8 hns8, hng8, hns8, hq0, by omega, by omega, tri_b HB8.out f9' hq0 hg0 hs0⟩
            have HR9 := Lib.hid hrel9
            clear HL8 k9 f9 f9' L9 HMd8 HB8 hrel9
            go_wp2
            go_roundw
            case rel => exact HR9.out
            case measure => simp [intOf]; omega
          · have HMd7 := Lib.hid (HMd6.out.fr f7 hng hns)
            have HB7 := Lib.hid (tri_b HB6.out f7 hq0 hg0 hs0)
            have HG7 := Lib.hid (HG6.out.fr f7)
            have hor : ∃ M7, (M7 = M ∨ M7 = behind M G) ∧ Inv 80 D7.L M7 := by
              by_cases hif : ((G.length + nIx G + 1 : Nat) : Int) ≤ D6.left
              · rw [if_pos hif] at I7
                exact ⟨_, .inr rfl, I7⟩
              · rw [if_neg hif] at I7
                exact ⟨_, .inl rfl, I7⟩
            obtain ⟨M7, hor, hI7⟩ := hor
            have HOR := Lib.hid hor
            have HI7 := Lib.hid hI7
            clear HC HLg6 HMd6 HB6 HG6 f7 I7 hor hI7
            go_wp2_with fail
            refine (lread_dead 0 L7 rfl).mono ?_
            rintro e w8 ⟨rfl, L8, f8⟩
            have HMd8 := Lib.hid (HMd7.out.fr f8 hng hns)
            have HB8 := Lib.hid (tri_b HB7.out f8 hq0 hg0 hs0)
            have HG8 := Lib.hid (HG7.out.fr f8)
            clear L7 HMd7 HB7 HG7 f8
            go_wp2_with fail
            refine (up_all L8.2.1).mono ?_
            rintro e w9 ⟨rfl, k9, f9⟩
            obtain ⟨L9, f9'⟩ := L8.disk k9 f9 rfl
            have HMd9 := Lib.hid (HMd8.out.fr f9' hng hns)
            have HB9 := Lib.hid (tri_b HB8.out f9' hq0 hg0 hs0)
            have HG9 := Lib.hid (HG8.out.fr f9')
            have HI9 : Hid (Inv 80 D7.up.L M7) := HI7.out
            have n9 : D7.up.L.length = 80 := a1
            have w9a : D7.up.wr = D7.wr := rfl
            have l9 : i64 D7.up.left := by unfold i64; show -9223372036854775808 ≤ (-1 : Int) ∧ (-1 : Int) ≤ 9223372036854775807; omega
            clear L8 HMd8 HB8 HG8 f9 f9' k9 HI7
            generalize D7.up = D9 at *
            go_wp2_with fail
            refine (lread_dead 0 L9 rfl).mono ?_
            rintro e w10 ⟨rfl, La, fa⟩
            have HMda := Lib.hid (HMd9.out.fr fa hng hns)
            have HBa := Lib.hid (tri_b HB9.out fa hq0 hg0 hs0)
            have HGa := Lib.hid (HG9.out.fr fa)
            clear L9 HMd9 HB9 HG9 fa
            go_wp2_with fail
            refine (commit_dead 0 0 La rfl).mono ?_
            rintro e w11 ⟨rfl, Lb, fb⟩
            have HMdb := Lib.hid (HMda.out.fr fb hng hns)
            have HBb := Lib.hid (tri_b HBa.out fb hq0 hg0 hs0)
            have HGb := Lib.hid (HGa.out.fr fb)
            have HRC := Lib.hid (recovered_all (A := A3) cuts c3 Lb.2.1 n9 (by omega) (by omega) HI9.out l9 (by omega) (HCU.out _ HBb.out) (fun ad e hp h => by have := HCB.out ad e hp; rcases h with h | h <;> omega) (by omega))
            have hltb := HMdb.out.lt
            clear La HMda HBa HGa fb Lb HI9
            go_wp2_with fail
            refine HRC.out.mono ?_
            rintro e w12 ⟨Dc, qc, rfl, hqc, Lc, oc, nc, Sc, ic, wc1, wc2, fc⟩
            have HMdc := Lib.hid (HMdb.out.fr (two_tri (q := q) fc) hng hns)
            have HBc := Lib.hid (two_b HBb.out fc hg0 hs0)
            have HGc : Hid (Grp (Tri qc g s) w12 A4 G) := Lib.hid (((HGb.out.mono (Y := fun b => Tri q g s b ∨ w11.heap.size ≤ b) (fun b hb hy => hy.elim id (fun h => absurd hb (by omega)))).fr (fc.mono (fun b h => .inl (Tri.two h)))).mono (fun b _ h => by
              rcases h with h | h
              · exact .inr (by omega)
              · exact .inl (.inr h)))
            have hqc0 := Nat.le_trans HBb.out.size hqc
            have hngc : ¬ Tri qc g s gm := fun t => by
              rcases t with t | t
              · omega
              · exact hng (.inr t)
            have hnsc : ¬ Tri qc g s sm := fun t => by
              rcases t with t | t
              · omega
              · exact hns (.inr t)
            have HAl := Lib.hid (alike_all (m := M) Lc oc nc (by omega) (by omega) Sc HMdc.out hngc hnsc HML.out)
            have HSc := Lib.hid Sc
            clear HRC HMdb HBb HGb fc Lc Sc
            by_cases hold : M7 = M
            · rw [decide_eq_true hold] at HAl
              go_wp2_with fail
              refine HAl.out.mono ?_
              rintro e w13 ⟨rfl, Ld, fd⟩
              have HMdd := Lib.hid (HMdc.out.fr fd hngc hnsc)
              have HBd := Lib.hid (tri_b HBc.out fd hqc0 hg0 hs0)
              have HGd := Lib.hid (HGc.out.fr fd)
              have HBe := Lib.hid (behind_all A4 G c4 (Tri qc g s) HMdd.out HGd.out hc4 hm4 hok (by omega) (by omega))
              have HLd := Lib.hid Ld
              have hltd := Ld.lt
              clear HAl HMdc HBc HGc fd Ld
              go_wp2_with fail
              refine HBe.out.mono ?_
              rintro e w14 ⟨gmE, smE, rfl, hgmE, hsmE, hMdE, hbE⟩
              have HLe := Lib.hid (HLd.out.below hbE)
              have HMde := Lib.hid (HMdd.out.below hbE)
              have HBee := Lib.hid (HBd.out.trans (hbE.mono HBd.out.size))
              have HGe := Lib.hid (HGd.out.below hbE)
              have hngE : ¬ Tri qc g s gmE := fun t => by rcases t with t | t | t <;> omega
              have hnsE : ¬ Tri qc g s smE := fun t => by rcases t with t | t | t <;> omega
              have HA2 := Lib.hid (alike_all (m := behind M G) HLe.out oc nc (by omega) (by omega) HSc.out hMdE hngE hnsE (by rw [behind_len]; exact HML.out))
              clear HBe HLd HMdd HBd HGd hMdE hbE
              generalize decide (M7 = behind M G) = bb at *
              go_wp2_with fail
              refine HA2.out.mono ?_
              rintro e w15 ⟨rfl, Lf, ff⟩
              have hrel9 : CrRel l.length g s w (.pointer (some ⟨qc, 0, none⟩)) (.pointer (some ⟨gm, 0, none⟩)) (.int .i64 ((k + 1 : Nat) : Int)) w15 :=
                ⟨k + 1, qc, gm, sm, Dc, M, rfl, rfl, rfl, by omega, Lf, oc, nc, by have := HSc.out; rw [hold] at this; exact this, ic, by omega, by omega, HMde.out.fr ff hngc hnsc, hngc, hnsc, hqc0, hgm0, hsm0, tri_b HBee.out ff hqc0 hg0 hs0⟩
              have HR9 := Lib.hid hrel9
              clear HA2 HLe HMde HBee HGe Lf ff hrel9
              go_wp2
              go_roundw
              case rel => exact HR9.out
              case measure => simp [intOf]; omega
            · rw [decide_eq_false hold] at HAl
              go_wp2_with fail
              refine HAl.out.mono ?_
              rintro e w13 ⟨rfl, Ld, fd⟩
              have HMdd := Lib.hid (HMdc.out.fr fd hngc hnsc)
              have HBd := Lib.hid (tri_b HBc.out fd hqc0 hg0 hs0)
              have HGd := Lib.hid (HGc.out.fr fd)
              have HBe := Lib.hid (behind_all A4 G c4 (Tri qc g s) HMdd.out HGd.out hc4 hm4 hok (by omega) (by omega))
              have HLd := Lib.hid Ld
              have hltd := Ld.lt
              clear HAl HMdc HBc HGc fd Ld
              go_wp2_with fail
              refine HBe.out.mono ?_
              rintro e w14 ⟨gmE, smE, rfl, hgmE, hsmE, hMdE, hbE⟩
              have HLe := Lib.hid (HLd.out.below hbE)
              have HMde := Lib.hid (HMdd.out.below hbE)
              have HBee := Lib.hid (HBd.out.trans (hbE.mono HBd.out.size))
              have HGe := Lib.hid (HGd.out.below hbE)
              have hngE : ¬ Tri qc g s gmE := fun t => by rcases t with t | t | t <;> omega
              have hnsE : ¬ Tri qc g s smE := fun t => by rcases t with t | t | t <;> omega
              have HA2 := Lib.hid (alike_all (m := behind M G) HLe.out oc nc (by omega) (by omega) HSc.out hMdE hngE hnsE (by rw [behind_len]; exact HML.out))
              clear HBe HLd HMdd HBd HGd hMdE hbE
              have hM7 : M7 = behind M G := HOR.out.resolve_left hold
              rw [decide_eq_true hM7] at HA2
              go_wp2_with fail
              refine HA2.out.mono ?_
              rintro e w15 ⟨rfl, Lf, ff⟩
              have HMdf := Lib.hid (HMde.out.fr ff hngc hnsc)
              have HBf := Lib.hid (tri_b HBee.out ff hqc0 hg0 hs0)
              have HGf := Lib.hid (HGe.out.fr ff)
              have HBe2 := Lib.hid (behind_all A4 G c4 (Tri qc g s) HMdf.out HGf.out hc4 hm4 hok (by omega) (by omega))
              have HLf := Lib.hid Lf
              have hltf := Lf.lt
              clear HA2 HLe HMde HBee HGe ff Lf
              go_wp2_with fail
              refine HBe2.out.mono ?_
              rintro e w16 ⟨gmG, smG, rfl, hgmG, hsmG, hMdG, hbG⟩
              have hszf := HBf.out.size
              have hrel9 : CrRel l.length g s w (.pointer (some ⟨qc, 0, none⟩)) (.pointer (some ⟨gmG, 0, none⟩)) (.int .i64 ((k + 1 : Nat) : Int)) w16 :=
                ⟨k + 1, qc, gmG, smG, Dc, behind M G, rfl, rfl, rfl, by omega, HLf.out.below hbG, oc, nc, by have := HSc.out; rw [hM7] at this; exact this, ic, by omega, by omega, hMdG, fun t => by rcases t with t | t | t <;> omega, fun t => by rcases t with t | t | t <;> omega, hqc0, by omega, by omega, HBf.out.trans (hbG.mono HBf.out.size)⟩
              have HR9 := Lib.hid hrel9
              clear HBe2 HLf HMdf HBf HGf hMdG hbG hrel9
              go_wp2
              go_roundw
              case rel => exact HR9.out
              case measure => simp [intOf]; omega
        · have HC := Lib.hid (commit_bad c4 HLg6.out hon6 HG6.out (by rw [hDL6, ← HML.out]; exact hok) hc4 hm4)
          rw [decide_eq_false hok]
          go_wp2_with fail
          all_goals first | (exfalso; omega) | skip
          refine HC.out.mono ?_
          rintro e w7 ⟨rfl, L7, f7⟩
          have HMd7 := Lib.hid (HMd6.out.fr f7 hng hns)
          have HB7 := Lib.hid (tri_b HB6.out f7 hq0 hg0 hs0)
          clear HC HLg6 HMd6 HB6 HG6 f7
          go_wp2_with fail
          refine (cut_all (-1) L7.2.1).mono ?_
          rintro e w8 ⟨rfl, k8, f8⟩
          obtain ⟨L8, f8'⟩ := L7.disk k8 f8 rfl
          have hrel9 : CrRel l.length g s w (.pointer (some ⟨q, 0, none⟩)) (.pointer (some ⟨gm, 0, none⟩)) (.int .i64 ((k + 1 : Nat) : Int)) w8 :=
            ⟨k + 1, q, gm, sm, _, M, rfl, rfl, rfl, by omega, L8, hon6, hDL6, HSt6.out, cut_i64 (by unfold i64; omega) _, hw60, by show D6.wr ≤ _; omega, HMd7.out.fr f8' hng hns, hng, hns, hq0, hgm0, hsm0, tri_b HB7.out f8' hq0 hg0 hs0⟩
          have HR9 := Lib.hid hrel9
          clear L7 k8 f8 f8' L8 HMd7 HB7 hrel9
          go_wp2
          go_roundw
          case rel => exact HR9.out
          case measure => simp [intOf]; omega
    · obtain rfl : k = l.length := by omega
      have hM39b := hM39
      have HRC : Hid (Calls Try.prog 21 #[.pointer (some ⟨g, 0, none⟩), .slice none 0 0] wr (RcPost 80 M g s D wr)) := recovered_all (A := none) [] 0 hLg.2.1 hDL (by omega) (by omega) (.inl HSt.out) hi6 (by omega) ⟨by simp, fun h => absurd h (by simp)⟩ (fun ad e => by cases e) (by simp)
      have HB := Lib.hid hbl
      have HMd := Lib.hid hMd
      have hltm := hMd.lt
      clear hLg hbl hMd
      go_wp2_with fail
      all_goals first | (exfalso; omega) | skip
      refine HRC.out.mono ?_
      rintro e w12 ⟨Dc, qc, rfl, hqc, Lc, oc, nc, Sc, ic, wc1, wc2, fc⟩
      have HMdc := HMd.out.fr (two_tri (q := q) fc) hng hns
      have HBc := Lib.hid (two_b HB.out fc hg0 hs0)
      have hqc0 := Nat.le_trans HB.out.size hqc
      have HAl := Lib.hid (alike_all (m := M) Lc oc nc (by omega) (by omega) Sc HMdc (fun t => by
        rcases t with t | t
        · omega
        · exact hng (.inr t)) (fun t => by
        rcases t with t | t
        · omega
        · exact hns (.inr t)) HML.out)
      rw [decide_eq_true rfl] at HAl
      clear HRC HB HMd fc Lc Sc HMdc
      go_wp2_with fail
      refine HAl.out.mono ?_
      rintro e w13 ⟨rfl, Ld, fd⟩
      have hz := tri_b HBc.out fd hqc0 hg0 hs0
      clear HAl HBc Ld fd
      go_wp2
      go_ret
      exact ⟨rfl, hz⟩
theorem crash_walk (A : Option Addr) (l : List Gp) (c : Nat) (A2 : Option Addr) (after : List Int) (c2 : Nat) (A3 : Option Addr) (cuts : List Int) (c3 : Nat) (w : World) (hc : l.length ≤ c) (hm : c ≤ maxLen) (hl : Gps w.heap.size w A l) (_ : after.length ≤ c2) (_ : c2 ≤ maxLen) (haf : Nums w A2 after) (_ : cuts.length ≤ c3) (_ : c3 ≤ maxLen) (hcu : Nums w A3 cuts) :
    Calls Try.prog 4 #[.slice A l.length c, .slice A2 after.length c2, .slice A3 cuts.length c3] w (TruePost w) := by
  by_cases h : smallP l 8 ∧ cuts.length ≤ 10
  · exact crash_in A A2 A3 l c after c2 cuts c3 w hc hm hl haf hcu h.1 h.2
  · refine crash_out A A2 A3 l c after.length c2 cuts c3 w hc hm hl ?_
    by_cases hs : smallP l 8
    · exact .inr (by have : ¬ cuts.length ≤ 10 := fun h6 => h ⟨hs, h6⟩; omega)
    · exact .inl hs
end Go.Proofs.Ytkklplccngdalaa.Dk
