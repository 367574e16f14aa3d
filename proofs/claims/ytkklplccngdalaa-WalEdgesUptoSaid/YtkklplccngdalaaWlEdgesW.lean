/-
  WalEdges, walked.
-/
import Derived.Test.YtkklplccngdalaaWlCrashW
namespace Go.Proofs.Ytkklplccngdalaa.Dk
open Go.RowKit

def M80 : List (List UInt8) := List.replicate (room 80) (full 0)
theorem M80_len : M80.length = room 80 := List.length_replicate
/-- Behind k trials: has it come? -/
def EdRel (G : List GI) (gB gm sm gw sw : Nat) (cs : Array Value) (w : World) (come i : Value) (wr : World) : Prop :=
  ∃ k : Nat, come = .bool (decide (G.length + nIx G + 1 < k)) ∧ i = .int .i64 (k : Int) ∧ k ≤ (comW 80 G).length + 1 ∧ Box wr gB 37 cs ∧ Md wr gm sm M80 ∧ Md wr gw sw (behind M80 G) ∧ Below w.heap.size w wr
theorem decide_succ {R k : Nat} (h : R ≤ k) : decide (R < k + 1) = true := decide_eq_true (by omega)
theorem decide_not {R k : Nat} (h : ¬ R ≤ k) : decide (R < k + 1) = false := decide_eq_false (by omega)
theorem most_len {l : List GI} {n : Nat} : (comW n l).length = mostP l.length := by
  by_cases hl : l = []
  · subst hl
    rfl
  · have h0 : 0 < l.length := List.length_pos_iff.2 hl
    rw [comW_len h0]
    unfold mostP nIx
    rw [if_neg (by omega)]

set_option maxRecDepth 100000 in
set_option maxHeartbeats 8000000 in
theorem edges_walk (v0 v1 v2 : Value) (p : Gp) (w : World) (hv : GpVal w.heap.size w v0 v1 v2 p) (hn : p.ats.length + p.odd.length ≤ 3000000) :
    Calls Try.prog 5 #[.agg #[v0, v1, v2]] w (TruePost w) := by
  have HA := Lib.hid awake_all
  have HO : Hid (∀ w, Calls Try.prog 12 #[.int .i64 80] w (OpenedPost 80 w)) := fun w => opened_all 80 80 w rfl (by omega) (by omega)
  have HN : Hid (∀ w, Calls Try.prog 13 #[.int .i64 80] w (MdPost M80 w)) := fun w => rnew_all 80 w (by omega) (by omega)
  have HS0 : Hid (St 80 (new 80).L M80) := St.new (by omega)
  have HM39 := Lib.hid M80_len
  have hM39 : M80.length ≤ 39 ∧ 39 ≤ M80.length := by rw [M80_len]; decide
  have hml := made_len (p := p)
  have HMA : Hid (∀ wq X, Below w.heap.size w wq → (∀ b, X b → w.heap.size ≤ b ∧ b < wq.heap.size) → Calls Try.prog 14 #[.agg #[v0, v1, v2]] wq (MadePost X p.made wq)) := fun wq X hb hX => made_gp (hv.below hb) hX hn
  have hG3 : p.made.length ≤ 3000000 := by omega
  obtain ⟨A1, c1, A2, c2, e0, e1, e2, r4, r5, r6, r7, r8, r9, ra⟩ := hv
  subst e0
  clear r8 r9 ra e1 e2 hml
  have HX0 := Lib.hid (Box.new w 37 #[.slice A1 p.ats.length c1, v1, v2])
  have HB0 := Lib.hid ((Below.refl w.heap.size w).alloc (Nat.le_refl _) (.cells #[.slice A1 p.ats.length c1, v1, v2] 37))
  go_enter Try.func5, Try.ntmps5
  go_wp2_with fail
  generalize w.alloc (.cells #[.slice A1 p.ats.length c1, v1, v2] 37) = w0 at *
  refine (HA.out _).mono ?_
  rintro e w1 ⟨rfl, hb1⟩
  have HX1 := Lib.hid (HX0.out.below hb1 HX0.out.lt)
  have HB1 := Lib.hid (HB0.out.trans (hb1.mono HB0.out.size))
  clear HA HX0 HB0 hb1
  go_wp2_with fail
  refine (HO.out _).mono ?_
  rintro e w2 ⟨g, s, q, rfl, hg, hs, hq, hL2, hb2⟩
  have HX2 := Lib.hid (HX1.out.below hb2 HX1.out.lt)
  have hsz1 := HX1.out.lt
  have HB2 := Lib.hid (HB1.out.trans (hb2.mono HB1.out.size))
  have HL2 := Lib.hid hL2
  have hlt2 := hL2.lt
  clear HX1 HB1 hb2 hL2
  go_wp2_with fail
  refine (HN.out _).mono ?_
  rintro e w3 ⟨gm, sm, rfl, hgm, hsm, hMd3, hb3⟩
  have HX3 := Lib.hid (HX2.out.below hb3 HX2.out.lt)
  have HB3 := Lib.hid (HB2.out.trans (hb3.mono HB2.out.size))
  have HL3 := Lib.hid (HL2.out.below hb3)
  have HMd3 := Lib.hid hMd3
  have x30 : w3.cell? ⟨w.heap.size, 0, none⟩ = some (.slice A1 p.ats.length c1) := HX3.out.cell 0
  have x31 : w3.cell? ⟨w.heap.size, 1, none⟩ = some v1 := HX3.out.cell 1
  have x32 : w3.cell? ⟨w.heap.size, 2, none⟩ = some v2 := HX3.out.cell 2
  have hsz3 := hb3.size
  clear HX2 HB2 HL2 hMd3 hb3 HN
  go_wp2_with fail
  refine (HMA.out _ (Tri q g s) HB3.out (fun b hb => by rcases hb with rfl | rfl | rfl <;> omega)).mono ?_
  rintro e w4 ⟨A4, c4, rfl, hc4, hm4, hG4, hb4⟩
  have HX4 := Lib.hid (HX3.out.below hb4 HX3.out.lt)
  have HB4 := Lib.hid (HB3.out.trans (hb4.mono HB3.out.size))
  have HL4 := Lib.hid (HL3.out.below hb4)
  have HMd4 := Lib.hid (HMd3.out.below hb4)
  have HRi := Lib.hid (right_all A4 p.made c4 (Tri q g s) HMd4.out hG4 hc4 hm4 (by omega) (by omega))
  clear HX3 HB3 HL3 HMd3 x30 x31 x32 hb4 hG4 hc4 hm4
  by_cases hok : okG M80.length p.made
  · rw [decide_eq_true hok] at HRi
    go_wp2_with fail
    refine HRi.out.mono ?_
    rintro e w5 ⟨rfl, hb5⟩
    have HX5 := Lib.hid (HX4.out.below hb5 HX4.out.lt)
    have HB5 := Lib.hid (HB4.out.trans (hb5.mono HB4.out.size))
    have HL5 := Lib.hid (HL4.out.below hb5)
    have HMd5 := Lib.hid (HMd4.out.below hb5)
    have hsz4 := HB4.out.size
    have hlt5 := HL5.out.lt
    have hltm5 := HMd5.out.lt
    clear HRi HB4 HX4 HL4 HMd4 hb5
    by_cases h30 : 30 < p.ats.length
    · have b30 : decide ((30 : Int) < (p.ats.length : Int)) = true := by simp; omega
      have hz := HB5.out
      have x50 := HX5.out.cell 0
      clear HX5 HB5 HL5 HMd5
      go_wp2
      all_goals first | (exfalso; omega) | skip
      go_ret
      exact ⟨rfl, hz⟩
    · have b30 : decide ((30 : Int) < (p.ats.length : Int)) = false := by simp; omega
      have hok8 : okG (room 80) p.made := by rw [← HM39.out]; exact hok
      have HOK := Lib.hid hok
      have HOK8 := Lib.hid hok8
      have hGl : p.made.length ≤ 39 := by
        have := okG_len hok
        omega
      clear hok hok8
      generalize p.made = G at *
      have HT := Lib.hid (most_len (l := G) (n := 80))
      have hT0 : (comW 80 G).length ≤ 1000 := by rw [most_len]; unfold mostP; split <;> omega
      have HRT : Hid (G ≠ [] → G.length + nIx G + 1 ≤ (comW 80 G).length) := fun h => by
        rw [comW_len (List.length_pos_iff.2 h)]
        omega
      have x0 : w5.cell? ⟨w.heap.size, 0, none⟩ = some (.slice A1 p.ats.length c1) := HX5.out.cell 0
      have x1 : w5.cell? ⟨w.heap.size, 1, none⟩ = some v1 := HX5.out.cell 1
      have x2 : w5.cell? ⟨w.heap.size, 2, none⟩ = some v2 := HX5.out.cell 2
      go_wp2_with fail
      all_goals first | (exfalso; omega) | skip
      refine (HMA.out _ (Tri q g s) HB5.out (fun b hb => by rcases hb with rfl | rfl | rfl <;> omega)).mono ?_
      rintro e w6 ⟨A6, c6, rfl, hc6, hm6, hG6, hb6⟩
      have HX6 := Lib.hid (HX5.out.below hb6 HX5.out.lt)
      have HB6 := Lib.hid (HB5.out.trans (hb6.mono HB5.out.size))
      have HMd6 := Lib.hid (HMd5.out.below hb6)
      have HC := Lib.hid (commit_inv c6 (HL5.out.below hb6) rfl (new_len 80) (by omega) (by omega) HS0.out hG6 HOK8.out hc6 hm6 (by unfold i64; show -9223372036854775808 ≤ (-1 : Int) ∧ (-1 : Int) ≤ 9223372036854775807; omega) (by show (0 : Int) ≤ 0 ∧ (0 : Int) ≤ 10000000; omega))
      have hsz5 := HB5.out.size
      clear HX5 HB5 HL5 HMd5 x0 x1 x2 hb6 hG6 hc6 hm6
      go_wp2_with fail
      refine HC.out.mono ?_
      rintro e w7 ⟨D7, a1, a2, a3, a4, f7, a6⟩
      rcases a6 with ⟨o7, S7, rfl, L7, hwr7, _⟩ | ⟨_, b2, _⟩
      case inr => exact absurd b2 (by show ¬ (0 : Int) ≤ -1; omega)
      have hwr8 : D7.wr = ((comW 80 G).length : Int) := by rw [hwr7]; show (0 : Int) + _ = _; omega
      have hgB : ¬ Tri q g s w.heap.size := fun t => by rcases t with t | t | t <;> omega
      have hngm : ¬ Tri q g s gm := fun t => by rcases t with t | t | t <;> omega
      have hnsm : ¬ Tri q g s sm := fun t => by rcases t with t | t | t <;> omega
      have HX7 := Lib.hid (HX6.out.fr f7 hgB)
      have HMd7 := Lib.hid (HMd6.out.fr f7 hngm hnsm)
      have HB7 := Lib.hid (tri_b HB6.out f7 (by omega) (by omega) (by omega))
      have HW := Lib.hid (writes_all L7.2.1)
      rw [hwr8] at HW
      have HL7 := Lib.hid L7
      have HS7 := Lib.hid S7
      have hlt7 := L7.lt
      clear HC HX6 HMd6 HB6 f7 L7 S7 hwr7 hwr8
      have HMo : Hid (∀ w, Calls Try.prog 24 #[.int .i64 (G.length : Int)] w (Same (.int .i64 ((comW 80 G).length : Int)) w)) := fun w => by
        rw [HT.out]
        exact most_all G.length w (by omega)
      have HBH := Lib.hid (fun (wq : World) (A : Option Addr) (c : Nat) (X : Nat → Prop) (h : Md wq gm sm M80) (hG : Grp X wq A G) (hc : G.length ≤ c) (hm : c ≤ maxLen) => behind_all A G c X h hG hc hm HOK.out (by omega) (by omega))
      have hbl : (behind M80 G).length = room 80 := by rw [behind_len]; exact HM39.out
      have HBL := Lib.hid hbl
      have HBN : Hid (behind M80 G ≠ M80 → G ≠ []) := fun h e => h (by rw [e]; rfl)
      clear hbl
      generalize hTT : (comW 80 G).length = T at *
      generalize hBB : behind M80 G = MB at *
      have x0 : w7.cell? ⟨w.heap.size, 0, none⟩ = some (.slice A1 p.ats.length c1) := HX7.out.cell 0
      have x1 : w7.cell? ⟨w.heap.size, 1, none⟩ = some v1 := HX7.out.cell 1
      have x2 : w7.cell? ⟨w.heap.size, 2, none⟩ = some v2 := HX7.out.cell 2
      go_wp2_with fail
      refine HW.out.mono ?_
      rintro e w' ⟨rfl, rfl⟩
      clear HW
      go_wp2_with fail
      refine (HMA.out _ (Tri q g s) HB7.out (fun b hb => by rcases hb with rfl | rfl | rfl <;> omega)).mono ?_
      rintro e w8 ⟨A8, c8, rfl, hc8, hm8, hG8, hb8⟩
      have HX8 := Lib.hid (HX7.out.below hb8 HX7.out.lt)
      have HB8 := Lib.hid (HB7.out.trans (hb8.mono HB7.out.size))
      have HMd8 := Lib.hid (HMd7.out.below hb8)
      have HL8 := Lib.hid (HL7.out.below hb8)
      have hsz7 := HB7.out.size
      have hsz78 := hb8.size
      clear HX7 HB7 HMd7 HL7 x0 x1 x2 hb8 hG8 hc8 hm8
      have x0 : w8.cell? ⟨w.heap.size, 0, none⟩ = some (.slice A1 p.ats.length c1) := HX8.out.cell 0
      have x1 : w8.cell? ⟨w.heap.size, 1, none⟩ = some v1 := HX8.out.cell 1
      have x2 : w8.cell? ⟨w.heap.size, 2, none⟩ = some v2 := HX8.out.cell 2
      go_wp2_with fail
      refine (HMo.out _).mono ?_
      rintro e w' ⟨rfl, rfl⟩
      clear HMo
      go_wp2_with fail
      all_goals first | (exfalso; omega) | skip
      refine (HMA.out _ (Tri q g s) HB8.out (fun b hb => by rcases hb with rfl | rfl | rfl <;> omega)).mono ?_
      rintro e w9 ⟨A9, c9, rfl, hc9, hm9, hG9, hb9⟩
      have HX9 := Lib.hid (HX8.out.below hb9 HX8.out.lt)
      have HB9 := Lib.hid (HB8.out.trans (hb9.mono HB8.out.size))
      have HMd9 := Lib.hid (HMd8.out.below hb9)
      have HL9 := Lib.hid (HL8.out.below hb9)
      have hlt9 := HL9.out.lt
      have HBe := Lib.hid (HBH.out _ A9 c9 _ HMd9.out hG9 hc9 hm9)
      clear HX8 HB8 HMd8 HL8 x0 x1 x2 hb9 hG9 hc9 hm9 HBH
      go_wp2_with fail
      refine HBe.out.mono ?_
      rintro e w10 ⟨gw, sw, rfl, hgw, hsw, hMdw, hba⟩
      have HXa := Lib.hid (HX9.out.below hba HX9.out.lt)
      have HBa := Lib.hid (HB9.out.trans (hba.mono HB9.out.size))
      have HMda := Lib.hid (HMd9.out.below hba)
      have HMwa := Lib.hid hMdw
      have HLa := Lib.hid (HL9.out.below hba)
      have hngw : ¬ Tri q g s gw := fun t => by rcases t with t | t | t <;> omega
      have hnsw : ¬ Tri q g s sw := fun t => by rcases t with t | t | t <;> omega
      have HAl := Lib.hid (alike_all (m := M80) HLa.out o7 a1 (by omega) (by omega) HS7.out HMda.out hngm hnsm HM39.out)
      clear HBe HX9 HB9 HMd9 HL9 hMdw hba
      by_cases hsame : MB = M80
      · rw [decide_eq_true hsame] at HAl
        go_wp2_with fail
        refine HAl.out.mono ?_
        rintro e w11 ⟨rfl, _, fb⟩
        have hz := tri_b HBa.out fb (by omega) (by omega) (by omega)
        clear HAl HXa HBa HMda HMwa HLa fb
        go_wp2
        go_ret
        exact ⟨rfl, hz⟩
      · rw [decide_eq_false hsame] at HAl
        have hGne := HBN.out hsame
        have hRT := HRT.out hGne
        have HREL : Hid (∀ w11, Fr (Tri q g s) w10 w11 → EdRel G w.heap.size gm sm gw sw #[.slice A1 p.ats.length c1, v1, v2] w (.bool false) (.int .i64 0) w11) := fun w11 fb =>
          ⟨0, rfl, rfl, by omega, HXa.out.fr fb hgB, HMda.out.fr fb hngm hnsm, by rw [hBB]; exact HMwa.out.fr fb hngw hnsw, tri_b HBa.out fb (by omega) (by omega) (by omega)⟩
        clear HXa HBa HMda HMwa HLa
        go_wp2_with fail
        refine HAl.out.mono ?_
        rintro e w11 ⟨rfl, _, fb⟩
        have HR0 := Lib.hid (HREL.out _ fb)
        clear HAl HREL fb HS7 o7 a1 a2 a3 a4 hlt7 hlt9
        go_wp2
        go_loopw [12, 13] (EdRel G w.heap.size gm sm gw sw #[.slice A1 p.ats.length c1, v1, v2] w) (fun _ i _ => T + 1 - (intOf i).toNat)
        case atStart => exact HR0.out
        case round =>
          clear HR0
          obtain ⟨k, rfl, rfl, hk, hX, hM, hMw, hB⟩ := hrel
          rw [hTT] at hk
          rw [hBB] at hMw
          by_cases hle : k ≤ T
          · have bk : decide ((k : Int) ≤ (T : Int)) = true := by simp; omega
            have HX := Lib.hid hX
            have HMd := Lib.hid hM
            have HMw := Lib.hid hMw
            have HBr := Lib.hid hB
            have hgBlt := hX.lt
            have hgmlt := hM.lt
            have hgwlt := hMw.lt
            have hszr := hB.size
            clear hX hM hMw hB
            go_wp2_with fail
            all_goals first | (exfalso; omega) | skip
            refine (HO.out _).mono ?_
            rintro e w3 ⟨g5, s5, q5, rfl, hg5, hs5, hq5, L3, hb3⟩
            have HX3 := Lib.hid (HX.out.below hb3 HX.out.lt)
            have HMd3 := Lib.hid (HMd.out.below hb3)
            have HMw3 := Lib.hid (HMw.out.below hb3)
            have HBr3 := Lib.hid hb3
            have hn1 : ¬ Tri q5 g5 s5 w.heap.size := fun t => by rcases t with t | t | t <;> omega
            have hn2 : ¬ Tri q5 g5 s5 gm := fun t => by rcases t with t | t | t <;> omega
            have hn3 : ¬ Tri q5 g5 s5 sm := fun t => by rcases t with t | t | t <;> omega
            have hn4 : ¬ Tri q5 g5 s5 gw := fun t => by rcases t with t | t | t <;> omega
            have hn5 : ¬ Tri q5 g5 s5 sw := fun t => by rcases t with t | t | t <;> omega
            clear HX HMd HMw hb3
            go_wp2_with fail
            refine (cut_all (k : Int) L3.2.1).mono ?_
            rintro e w4 ⟨rfl, k4, f4⟩
            obtain ⟨L4, f4'⟩ := L3.disk k4 f4 rfl
            have HX4 := Lib.hid (HX3.out.fr f4' hn1)
            have HMd4 := Lib.hid (HMd3.out.fr f4' hn2 hn3)
            have HMw4 := Lib.hid (HMw3.out.fr f4' hn4 hn5)
            have HBr4 := Lib.hid (tri_b HBr3.out f4' (by omega) (by omega) (by omega))
            have hlf4 : ((new 80).cut (k : Int)).left = (k : Int) := by
              show (if (k : Int) < 0 then (-1 : Int) else (k : Int)) = _
              rw [if_neg (by omega)]
            have hon4 : ((new 80).cut (k : Int)).on = true := rfl
            have hwr4 : ((new 80).cut (k : Int)).wr = 0 := rfl
            have hln4 : ((new 80).cut (k : Int)).L.length = 80 := new_len 80
            have HS4 : Hid (St 80 ((new 80).cut (k : Int)).L M80) := HS0.out
            have HL4 := Lib.hid L4
            have hlt4 := L4.lt
            clear L3 k4 f4 f4' HX3 HMd3 HMw3 HBr3 L4
            generalize (new 80).cut (k : Int) = D4 at *
            have x0 : w4.cell? ⟨w.heap.size, 0, none⟩ = some (.slice A1 p.ats.length c1) := HX4.out.cell 0
            have x1 : w4.cell? ⟨w.heap.size, 1, none⟩ = some v1 := HX4.out.cell 1
            have x2 : w4.cell? ⟨w.heap.size, 2, none⟩ = some v2 := HX4.out.cell 2
            go_wp2_with fail
            refine (HMA.out _ (Tri q5 g5 s5) (HBr.out.trans (HBr4.out.mono HBr.out.size)) (fun b hb => by rcases hb with rfl | rfl | rfl <;> omega)).mono ?_
            rintro e w5 ⟨A5, c5, rfl, hc5, hm5, hG5, hb5⟩
            have HX5 := Lib.hid (HX4.out.below hb5 HX4.out.lt)
            have HMd5 := Lib.hid (HMd4.out.below hb5)
            have HMw5 := Lib.hid (HMw4.out.below hb5)
            have HBr5 := Lib.hid (HBr4.out.trans (hb5.mono HBr4.out.size))
            have HC := Lib.hid (commit_inv c5 (HL4.out.below hb5) hon4 hln4 (by omega) (by omega) HS4.out hG5 HOK8.out hc5 hm5 (by unfold i64; omega) (by omega))
            clear HX4 HMd4 HMw4 HBr4 HL4 x0 x1 x2 hb5 hG5 hc5 hm5 HS4
            go_wp2_with fail
            refine HC.out.mono ?_
            rintro e w6 ⟨D6, a1, a2, a3, a4, f6, a6⟩
            rw [hTT, hBB] at a6
            have HX6 := Lib.hid (HX5.out.fr f6 hn1)
            have HMd6 := Lib.hid (HMd5.out.fr f6 hn2 hn3)
            have HMw6 := Lib.hid (HMw5.out.fr f6 hn4 hn5)
            have HBr6 := Lib.hid (tri_b HBr5.out f6 (by omega) (by omega) (by omega))
            have hs6 := HBr6.out.size
            have hlt6 : gm < w6.heap.size ∧ sm < w6.heap.size ∧ gw < w6.heap.size ∧ sw < w6.heap.size ∧ w.heap.size < w6.heap.size := by omega
            clear HC HX5 HMd5 HMw5 HBr5 f6
            rcases a6 with ⟨o6, S6, rfl, L6, _, hwT⟩ | ⟨o6, _, hlT, rfl, L6, I6⟩
            · obtain rfl : k = T := by have := hwT (by omega); omega
              have hInv : Inv 80 D6.L MB := .inl S6
              have hRk : G.length + nIx G + 1 ≤ k := by omega
              have HRC : Hid (Calls Try.prog 21 #[.pointer (some ⟨g5, 0, none⟩), .slice none 0 0] w6 (RcPost 80 MB g5 s5 D6 w6)) := recovered_all (A := none) [] 0 L6.2.1 a1 (by omega) (by omega) hInv a2 (by omega) ⟨by simp, fun h => absurd h (by simp)⟩ (fun ad e => by cases e) (by simp)
              clear L6 hInv
              go_wp2_with fail
              all_goals first | (exfalso; omega) | skip
              refine HRC.out.mono ?_
              rintro e w7 ⟨D7, q7, rfl, hq7, L7, o7, n7, S7, i7, _, _, f7⟩
              have HX7 := Lib.hid (HX6.out.fr (two_tri (q := q5) f7) hn1)
              have HMd7 := Lib.hid (HMd6.out.fr (two_tri (q := q5) f7) hn2 hn3)
              have HMw7 := Lib.hid (HMw6.out.fr (two_tri (q := q5) f7) hn4 hn5)
              have HB7 := Lib.hid (two_b HBr6.out f7 (by omega) (by omega))
              have hn1' : ¬ Tri q7 g5 s5 w.heap.size := fun t => by
                rcases t with t | t
                · omega
                · exact hn1 (.inr t)
              have hn2' : ¬ Tri q7 g5 s5 gm := fun t => by
                rcases t with t | t
                · omega
                · exact hn2 (.inr t)
              have hn3' : ¬ Tri q7 g5 s5 sm := fun t => by
                rcases t with t | t
                · omega
                · exact hn3 (.inr t)
              have hn4' : ¬ Tri q7 g5 s5 gw := fun t => by
                rcases t with t | t
                · omega
                · exact hn4 (.inr t)
              have hn5' : ¬ Tri q7 g5 s5 sw := fun t => by
                rcases t with t | t
                · omega
                · exact hn5 (.inr t)
              have HA1 := Lib.hid (alike_all (m := MB) L7 o7 n7 (by omega) (by omega) S7 HMw7.out hn4' hn5' HBL.out)
              have HS7 := Lib.hid S7
              clear HRC HX6 HMd6 HMw6 HBr6 f7 L7 S7
              rw [decide_eq_true rfl] at HA1
              go_wp2_with fail
              refine HA1.out.mono ?_
              rintro e w8 ⟨rfl, L8, f8⟩
              have HX8 := Lib.hid (HX7.out.fr f8 hn1')
              have HMd8 := Lib.hid (HMd7.out.fr f8 hn2' hn3')
              have HMw8 := Lib.hid (HMw7.out.fr f8 hn4' hn5')
              have HB8 := Lib.hid (tri_b HB7.out f8 (by omega) (by omega) (by omega))
              have HA2 := Lib.hid (alike_all (m := M80) L8 o7 n7 (by omega) (by omega) HS7.out HMd8.out hn2' hn3' HM39.out)
              clear HA1 HX7 HMd7 HMw7 HB7 f8 L8
              rw [decide_eq_false hsame] at HA2
              generalize decide (G.length + nIx G + 1 < k) = cb at *
              go_wp2_with fail
              refine HA2.out.mono ?_
              rintro e w9 ⟨rfl, L9, f9⟩
              have hBz := HBr.out.trans ((tri_b HB8.out f9 (by omega) (by omega) (by omega)).mono HBr.out.size)
              have HR9 : Hid (EdRel G w.heap.size gm sm gw sw #[.slice A1 p.ats.length c1, v1, v2] w (.bool true) (.int .i64 ((k + 1 : Nat) : Int)) w9) :=
                ⟨k + 1, by rw [decide_succ hRk], rfl, by rw [hTT]; omega, HX8.out.fr f9 hn1', HMd8.out.fr f9 hn2' hn3', by rw [hBB]; exact HMw8.out.fr f9 hn4' hn5', hBz⟩
              clear HA2 HX8 HMd8 HMw8 HB8 f9 L9 hBz HBr HS7
              go_wp2
              all_goals exact ⟨HR9.out, by simp [intOf] <;> omega⟩
            · by_cases hRk : G.length + nIx G + 1 ≤ k
              · have hInv : Inv 80 D6.L MB := by
                  rw [if_pos (by omega)] at I6
                  exact I6
                clear I6
                have bq1 : ((k : Int) == (T : Int)) = false := beq_eq_false_iff_ne.2 (by omega)
                have bq2 : (k == T) = false := beq_eq_false_iff_ne.2 (by omega)
                have bq3 : decide ((k : Int) = (T : Int)) = false := by simp; omega
                have HRC : Hid (Calls Try.prog 21 #[.pointer (some ⟨g5, 0, none⟩), .slice none 0 0] w6 (RcPost 80 MB g5 s5 D6 w6)) := recovered_all (A := none) [] 0 L6.2.1 a1 (by omega) (by omega) hInv a2 (by omega) ⟨by simp, fun h => absurd h (by simp)⟩ (fun ad e => by cases e) (by simp)
                clear L6 hInv
                go_wp2_with fail
                all_goals first | (exfalso; omega) | skip
                refine HRC.out.mono ?_
                rintro e w7 ⟨D7, q7, rfl, hq7, L7, o7, n7, S7, i7, _, _, f7⟩
                have HX7 := Lib.hid (HX6.out.fr (two_tri (q := q5) f7) hn1)
                have HMd7 := Lib.hid (HMd6.out.fr (two_tri (q := q5) f7) hn2 hn3)
                have HMw7 := Lib.hid (HMw6.out.fr (two_tri (q := q5) f7) hn4 hn5)
                have HB7 := Lib.hid (two_b HBr6.out f7 (by omega) (by omega))
                have hn1' : ¬ Tri q7 g5 s5 w.heap.size := fun t => by
                  rcases t with t | t
                  · omega
                  · exact hn1 (.inr t)
                have hn2' : ¬ Tri q7 g5 s5 gm := fun t => by
                  rcases t with t | t
                  · omega
                  · exact hn2 (.inr t)
                have hn3' : ¬ Tri q7 g5 s5 sm := fun t => by
                  rcases t with t | t
                  · omega
                  · exact hn3 (.inr t)
                have hn4' : ¬ Tri q7 g5 s5 gw := fun t => by
                  rcases t with t | t
                  · omega
                  · exact hn4 (.inr t)
                have hn5' : ¬ Tri q7 g5 s5 sw := fun t => by
                  rcases t with t | t
                  · omega
                  · exact hn5 (.inr t)
                have HA1 := Lib.hid (alike_all (m := MB) L7 o7 n7 (by omega) (by omega) S7 HMw7.out hn4' hn5' HBL.out)
                have HS7 := Lib.hid S7
                clear HRC HX6 HMd6 HMw6 HBr6 f7 L7 S7
                rw [decide_eq_true rfl] at HA1
                go_wp2_with fail
                refine HA1.out.mono ?_
                rintro e w8 ⟨rfl, L8, f8⟩
                have HX8 := Lib.hid (HX7.out.fr f8 hn1')
                have HMd8 := Lib.hid (HMd7.out.fr f8 hn2' hn3')
                have HMw8 := Lib.hid (HMw7.out.fr f8 hn4' hn5')
                have HB8 := Lib.hid (tri_b HB7.out f8 (by omega) (by omega) (by omega))
                have HA2 := Lib.hid (alike_all (m := M80) L8 o7 n7 (by omega) (by omega) HS7.out HMd8.out hn2' hn3' HM39.out)
                clear HA1 HX7 HMd7 HMw7 HB7 f8 L8
                rw [decide_eq_false hsame] at HA2
                generalize decide (G.length + nIx G + 1 < k) = cb at *
                go_wp2_with fail
                refine HA2.out.mono ?_
                rintro e w9 ⟨rfl, L9, f9⟩
                have hBz := HBr.out.trans ((tri_b HB8.out f9 (by omega) (by omega) (by omega)).mono HBr.out.size)
                have HR9 : Hid (EdRel G w.heap.size gm sm gw sw #[.slice A1 p.ats.length c1, v1, v2] w (.bool true) (.int .i64 ((k + 1 : Nat) : Int)) w9) :=
                  ⟨k + 1, by rw [decide_succ hRk], rfl, by rw [hTT]; omega, HX8.out.fr f9 hn1', HMd8.out.fr f9 hn2' hn3', by rw [hBB]; exact HMw8.out.fr f9 hn4' hn5', hBz⟩
                clear HA2 HX8 HMd8 HMw8 HB8 f9 L9 hBz HBr HS7
                go_wp2
                all_goals exact ⟨HR9.out, by simp [intOf] <;> omega⟩
              · have hInv : Inv 80 D6.L M80 := by
                  rw [if_neg (by omega)] at I6
                  exact I6
                clear I6
                have bq1 : ((k : Int) == (T : Int)) = false := beq_eq_false_iff_ne.2 (by omega)
                have bq2 : (k == T) = false := beq_eq_false_iff_ne.2 (by omega)
                have bq3 : decide ((k : Int) = (T : Int)) = false := by simp; omega
                have HRC : Hid (Calls Try.prog 21 #[.pointer (some ⟨g5, 0, none⟩), .slice none 0 0] w6 (RcPost 80 M80 g5 s5 D6 w6)) := recovered_all (A := none) [] 0 L6.2.1 a1 (by omega) (by omega) hInv a2 (by omega) ⟨by simp, fun h => absurd h (by simp)⟩ (fun ad e => by cases e) (by simp)
                clear L6 hInv
                go_wp2_with fail
                all_goals first | (exfalso; omega) | skip
                refine HRC.out.mono ?_
                rintro e w7 ⟨D7, q7, rfl, hq7, L7, o7, n7, S7, i7, _, _, f7⟩
                have HX7 := Lib.hid (HX6.out.fr (two_tri (q := q5) f7) hn1)
                have HMd7 := Lib.hid (HMd6.out.fr (two_tri (q := q5) f7) hn2 hn3)
                have HMw7 := Lib.hid (HMw6.out.fr (two_tri (q := q5) f7) hn4 hn5)
                have HB7 := Lib.hid (two_b HBr6.out f7 (by omega) (by omega))
                have hn1' : ¬ Tri q7 g5 s5 w.heap.size := fun t => by
                  rcases t with t | t
                  · omega
                  · exact hn1 (.inr t)
                have hn2' : ¬ Tri q7 g5 s5 gm := fun t => by
                  rcases t with t | t
                  · omega
                  · exact hn2 (.inr t)
                have hn3' : ¬ Tri q7 g5 s5 sm := fun t => by
                  rcases t with t | t
                  · omega
                  · exact hn3 (.inr t)
                have hn4' : ¬ Tri q7 g5 s5 gw := fun t => by
                  rcases t with t | t
                  · omega
                  · exact hn4 (.inr t)
                have hn5' : ¬ Tri q7 g5 s5 sw := fun t => by
                  rcases t with t | t
                  · omega
                  · exact hn5 (.inr t)
                have HA1 := Lib.hid (alike_all (m := MB) L7 o7 n7 (by omega) (by omega) S7 HMw7.out hn4' hn5' HBL.out)
                have HS7 := Lib.hid S7
                clear HRC HX6 HMd6 HMw6 HBr6 f7 L7 S7
                rw [decide_eq_false (fun h => hsame h.symm)] at HA1
                go_wp2_with fail
                refine HA1.out.mono ?_
                rintro e w8 ⟨rfl, L8, f8⟩
                have HX8 := Lib.hid (HX7.out.fr f8 hn1')
                have HMd8 := Lib.hid (HMd7.out.fr f8 hn2' hn3')
                have HMw8 := Lib.hid (HMw7.out.fr f8 hn4' hn5')
                have HB8 := Lib.hid (tri_b HB7.out f8 (by omega) (by omega) (by omega))
                have HA2 := Lib.hid (alike_all (m := M80) L8 o7 n7 (by omega) (by omega) HS7.out HMd8.out hn2' hn3' HM39.out)
                clear HA1 HX7 HMd7 HMw7 HB7 f8 L8
                rw [decide_eq_true rfl] at HA2
                rw [decide_eq_false (show ¬ G.length + nIx G + 1 < k by omega)]
                go_wp2_with fail
                refine HA2.out.mono ?_
                rintro e w9 ⟨rfl, L9, f9⟩
                have hBz := HBr.out.trans ((tri_b HB8.out f9 (by omega) (by omega) (by omega)).mono HBr.out.size)
                have HR9 : Hid (EdRel G w.heap.size gm sm gw sw #[.slice A1 p.ats.length c1, v1, v2] w (.bool false) (.int .i64 ((k + 1 : Nat) : Int)) w9) :=
                  ⟨k + 1, by rw [decide_not hRk], rfl, by rw [hTT]; omega, HX8.out.fr f9 hn1', HMd8.out.fr f9 hn2' hn3', by rw [hBB]; exact HMw8.out.fr f9 hn4' hn5', hBz⟩
                clear HA2 HX8 HMd8 HMw8 HB8 f9 L9 hBz HBr HS7
                go_wp2
                all_goals exact ⟨HR9.out, by simp [intOf] <;> omega⟩
          · have bk : decide ((k : Int) ≤ (T : Int)) = false := by simp; omega
            have hkT : k = T + 1 := by omega
            have hd : decide (G.length + nIx G + 1 < k) = true := decide_eq_true (by omega)
            clear hX hM hMw
            go_wp2
            all_goals first | (exfalso; omega) | skip
            go_ret
            exact ⟨ret_bool hd, hB⟩
  · rw [decide_eq_false hok] at HRi
    go_wp2_with fail
    refine HRi.out.mono ?_
    rintro e w5 ⟨rfl, hb5⟩
    have hz := HB4.out.trans (hb5.mono HB4.out.size)
    clear HRi HB4 HX4 HL4 HMd4 hb5
    go_wp2
    go_ret
    exact ⟨rfl, hz⟩
end Go.Proofs.Ytkklplccngdalaa.Dk
