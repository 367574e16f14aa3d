/-
  The walk of DiskDoes.
-/
import Derived.Test.YtjhbeebednahhaaDkR4
namespace Go.Proofs.Ytjhbeebednahhaa.Dk
open Go.RowKit

def DoRel (len B : Nat) (w : World) (v6 v8 i : Value) (wr : World) : Prop :=
  ∃ (k g s g' s' : Nat) (d : Dsk), v6 = .pointer (some ⟨g, 0, none⟩) ∧ v8 = .pointer (some ⟨g', 0, none⟩) ∧ i = .int .i64 (k : Int) ∧ k ≤ len ∧ Both wr g s g' s' d ∧ Apart g s g' s' ∧ B ≤ g ∧ B ≤ s ∧ B ≤ g' ∧ B ≤ s' ∧ 1 ≤ d.L.length ∧ d.L.length ≤ 2048 ∧ 0 ≤ d.wr ∧ d.wr ≤ k ∧ i64 d.left ∧ Below B w wr
theorem Four.le {g s g' s' B : Nat} (h1 : B ≤ g) (h2 : B ≤ s) (h3 : B ≤ g') (h4 : B ≤ s') : ∀ b, Four g s g' s' b → B ≤ b := fun b hb => by rcases hb with rfl | rfl | rfl | rfl <;> assumption
theorem Two.le {g s B : Nat} (h1 : B ≤ g) (h2 : B ≤ s) : ∀ b, Two g s b → B ≤ b := fun b hb => by rcases hb with rfl | rfl <;> assumption

set_option maxRecDepth 100000 in
set_option maxHeartbeats 16000000 in
theorem does_short (n : Nat) (A : Option Addr) (l : List Op) (c : Nat) (w : World) (h1 : 1 ≤ n) (h2 : n ≤ 2048) (hl : Ops w A l) (hreach : ∀ x ∈ l, x.b.length ≤ 140737488351232) (h60 : l.length ≤ 60) :
    Calls Try.prog 3 #[.int .i64 (n : Int), .slice A l.length c] w (TruePost w) := by
  have g1 : decide ((60 : Int) < (l.length : Int)) = false := by simp; omega
  go_enter Try.func3, Try.ntmps3
  go_wp2_with fail
  refine (awake_all w).mono ?_
  rintro e w1 ⟨rfl, hb1⟩
  go_wp2_with fail
  refine (new_ok n w1 h1 h2).mono ?_
  rintro e w2 ⟨g, s, rfl, hg, hs, hD2, hb2⟩
  have hc2 := hb1.trans (hb2.mono hb1.size)
  have hg0 : w.heap.size ≤ g := Nat.le_trans hb1.size hg
  have hs0 : w.heap.size ≤ s := Nat.le_trans hb1.size hs
  clear hb1 hb2 hg hs
  go_wp2_with fail
  refine (rnew_ok n w2 h1 h2).mono ?_
  rintro e w3 ⟨g', s', rfl, hg', hs', hR3, hb3⟩
  have hD3 := hD2.below hb3
  have hl2 := hD2.lt
  have hc3 := hc2.trans (hb3.mono hc2.size)
  have hg0' : w.heap.size ≤ g' := Nat.le_trans hc2.size hg'
  have hs0' : w.heap.size ≤ s' := Nat.le_trans hc2.size hs'
  have hA : Apart g s g' s' := ⟨by omega, by omega, by omega, by omega⟩
  clear hD2 hc2 hb3 hg' hs'
  go_wp2_with fail
  clear g1
  go_loopw [6, 8, 10] (DoRel l.length w.heap.size w) (fun _ _ i _ => l.length - (intOf i).toNat)
  case atStart => exact ⟨0, g, s, g', s', new n, rfl, rfl, rfl, by omega, ⟨hD3, hR3⟩, hA, hg0, hs0, hg0', hs0', by rw [new_len]; exact h1, by rw [new_len]; exact h2, by show (0 : Int) ≤ 0; omega, by show (0 : Int) ≤ 0; omega, by show i64 (-1); unfold i64; omega, hc3⟩
  case round =>
    clear hD3 hR3 hA hc3 hg0 hs0 hg0' hs0' hl2
    obtain ⟨k, g, s, g', s', d, rfl, rfl, rfl, hk, hBo, hA, hg, hs, hg', hs', hL1, hL2, hw0, hwk, hi, hcb⟩ := hrel
    by_cases hlt : k < l.length
    · obtain ⟨ad, rfl, hab, _, _⟩ := hl.at_ hlt
      have HC : Hid (∀ w', Below w.heap.size w w' → OpAt w' ad k l[k]) := fun w' hb => by
        obtain ⟨ad', e, _, h1, h2⟩ := (hl.below hb).at_ hlt
        injection e with e
        subst e
        exact h1
      have hright := hl.1 _ (List.getElem_mem hlt)
      have hxr := hreach _ (List.getElem_mem hlt)
      obtain ⟨i0, i1, i2⟩ := (HC.out _ hcb).cells
      generalize l[k] = x at *
      obtain ⟨xk, xa, xA, xb, xc⟩ := x
      obtain ⟨_, r2, _, _, r5⟩ := hright
      simp only at i0 i1 i2 r2 r5 hxr
      have k0 : (0 : Int) ≤ (k : Int) := by omega
      have k1 : (k : Int) < (l.length : Int) := by omega
      by_cases hk4 : xk = 4
      · subst hk4
        have hlB := hBo.lt
        go_wp2_with fail
        refine (clone_all g s d wr hBo.1 hL1 hL2).mono ?_
        rintro e w2 ⟨gc, sc, rfl, hgc, hsc, hC2, hb2⟩
        have hD2 := hBo.1.below hb2
        have hR2 := hBo.2.below hb2
        have hc2 := hcb.trans (hb2.mono hcb.size)
        have hsz := hcb.size
        clear hBo hcb hb2
        go_wp2_with fail
        refine (up_all hD2).mono ?_
        rintro e w3 ⟨rfl, hD3, f3⟩
        have hC3 := hC2.fr f3 (fun e => by rcases e with e | e <;> omega) (fun e => by rcases e with e | e <;> omega)
        have hR3 := hR2.fr f3 (fun e => by rcases e with e | e; exact hA.a e.symm; exact hA.c e.symm) (fun e => by rcases e with e | e; exact hA.b e.symm; exact hA.d e.symm)
        have hc3 := hc2.trans (f3.below hc2.size (Two.le hg hs))
        have hl3 := hD3.lt
        clear hC2 hD2 hR2 hc2 f3
        go_wp2_with fail
        refine (full_l 99 99 _ w3 rfl rfl).mono ?_
        rintro e w4 ⟨g4, rfl, hg4, hx4, hb4⟩
        have hD4 := hD3.below hb4
        have hC4 := hC3.below hb4
        have hR4 := hR3.below hb4
        have hc4 := hc3.trans (hb4.mono hc3.size)
        clear hD3 hC3 hR3 hc3 hb4
        go_wp2_with fail
        refine (write_box 0 g4 _ (full 99) 256 hD4 (by show i64 (-1); unfold i64; omega) (by show 0 ≤ d.wr ∧ d.wr ≤ _; omega) hx4 (full_len 99) (by omega) (by omega)).mono ?_
        rintro e w5 ⟨rfl, hD5, f5⟩
        have hC5 := hC4.fr f5 (fun e => by rcases e with e | e <;> omega) (fun e => by rcases e with e | e <;> omega)
        have hR5 := hR4.fr f5 (fun e => by rcases e with e | e; exact hA.a e.symm; exact hA.c e.symm) (fun e => by rcases e with e | e; exact hA.b e.symm; exact hA.d e.symm)
        have hc5 := hc4.trans (f5.below hc4.size (Two.le hg hs))
        clear hD4 hC4 hR4 hc4 f5 hx4 hD5
        generalize d.up.err 0 256 = er
        go_wp2_with fail
        refine (rclone_all g' s' d w5 hR5 hL1 hL2).mono ?_
        rintro e w6 ⟨gr, sr, rfl, hgr, hsr, hR6, hb6⟩
        have hC6 := hC5.below hb6
        have hl5 := hC5.lt
        have hcb := hc5.trans (hb6.mono hc5.size)
        have hz5 := hc5.size
        have hA6 : Apart gc sc gr sr := ⟨by omega, by omega, by omega, by omega⟩
        have hg6 : w.heap.size ≤ gc := by omega
        have hs6 : w.heap.size ≤ sc := by omega
        have hg6' : w.heap.size ≤ gr := by omega
        have hs6' : w.heap.size ≤ sr := by omega
        have hBo : Both w6 gc sc gr sr d := ⟨hC6, hR6⟩
        clear hC5 hR5 hc5 hb6 hC6 hR6 hA hg hs hg' hs' hl5 hz5 hgr hsr hgc hsc hsz hg4 hl3 hlB i0 i1 i2
        obtain ⟨i0, i1, i2⟩ := (HC.out _ hcb).cells
        simp only at i0 i1 i2
        have hA := hA6
        have hg := hg6
        have hs := hs6
        have hg' := hg6'
        have hs' := hs6'
        clear hA6 hg6 hs6 hg6' hs6'
        go_wp2_with fail
        refine (does_all gc sc gr sr d 4 xa xA xb xc w6 hBo hA hi (by omega) r2 (r5.below hcb) hxr).mono ?_
        rintro e w7 ⟨rfl, d', hBo7, hK7, hF7⟩
        have hc7 := hcb.trans (hF7.below hcb.size (Four.le hg hs hg' hs'))
        obtain ⟨k7, k8, k9, k10⟩ := hK7
        clear hBo hcb hF7
        obtain ⟨_, _, _, _, e1, _, e3, _⟩ := hBo7.2.cells
        have HBo := Lib.hid hBo7
        have HON := Lib.hid (on_all hBo7.1.drew_)
        have HWR := Lib.hid (writes_all hBo7.1.drew_)
        have HDL := Lib.hid k7
        have HI := Lib.hid k10
        clear hBo7 k7 k10 i0 i1 i2
        cases ho : d'.on with
        | true =>
          rw [ho] at e1 HON
          simp only [Bool.not_true] at e1
          clear ho
          go_wp2_with fail
          go_region_held (fun w' => w'.cell? ⟨gr, 1, none⟩ = some (.bool false) ∧ w'.cell? ⟨gr, 3, none⟩ = some (.int .i64 d'.wr)) (first | exact ⟨e1, e3⟩ | assumption)
            (first | (go_at_call 16; (with_reducible refine HON.out.mono ?_); rintro e w' ⟨rfl, rfl⟩) | (go_at_call 17; (with_reducible refine HWR.out.mono ?_); rintro e w' ⟨rfl, rfl⟩))
          have hBo8 : Both w7.drew gc sc gr sr d' := ⟨HBo.out.1.drew_, HBo.out.2.drew_⟩
          have hc8 := hc7.drew
          clear e1 e3 HON HWR hc7
          go_wp2
          go_roundw
          case rel => exact ⟨k + 1, gc, sc, gr, sr, d', rfl, rfl, by go_num, by omega, hBo8, hA, hg, hs, hg', hs', by rw [HDL.out]; exact hL1, by rw [HDL.out]; exact hL2, by omega, by omega, HI.out, hc8⟩
          case measure => simp [intOf]; omega
        | false =>
          rw [ho] at e1 HON
          simp only [Bool.not_false] at e1
          clear ho
          go_wp2_with fail
          go_region_held (fun w' => w'.cell? ⟨gr, 1, none⟩ = some (.bool true) ∧ w'.cell? ⟨gr, 3, none⟩ = some (.int .i64 d'.wr)) (first | exact ⟨e1, e3⟩ | assumption)
            (first | (go_at_call 16; (with_reducible refine HON.out.mono ?_); rintro e w' ⟨rfl, rfl⟩) | (go_at_call 17; (with_reducible refine HWR.out.mono ?_); rintro e w' ⟨rfl, rfl⟩))
          have hBo8 : Both w7.drew gc sc gr sr d' := ⟨HBo.out.1.drew_, HBo.out.2.drew_⟩
          have hc8 := hc7.drew
          clear e1 e3 HON HWR hc7
          go_wp2
          go_roundw
          case rel => exact ⟨k + 1, gc, sc, gr, sr, d', rfl, rfl, by go_num, by omega, hBo8, hA, hg, hs, hg', hs', by rw [HDL.out]; exact hL1, by rw [HDL.out]; exact hL2, by omega, by omega, HI.out, hc8⟩
          case measure => simp [intOf]; omega
      · have hk4' : (xk == 4) = false := beq_eq_false_iff_ne.2 hk4
        go_wp2_with fail
        refine (does_all g s g' s' d xk xa xA xb xc wr hBo hA hi (by omega) r2 (r5.below hcb) hxr).mono ?_
        rintro e w7 ⟨rfl, d', hBo7, hK7, hF7⟩
        have hc7 := hcb.trans (hF7.below hcb.size (Four.le hg hs hg' hs'))
        obtain ⟨k7, k8, k9, k10⟩ := hK7
        clear hBo hcb hF7
        obtain ⟨_, _, _, _, e1, _, e3, _⟩ := hBo7.2.cells
        have HBo := Lib.hid hBo7
        have HON := Lib.hid (on_all hBo7.1.drew_)
        have HWR := Lib.hid (writes_all hBo7.1.drew_)
        have HDL := Lib.hid k7
        have HI := Lib.hid k10
        clear hBo7 k7 k10 i0 i1 i2
        cases ho : d'.on with
        | true =>
          rw [ho] at e1 HON
          simp only [Bool.not_true] at e1
          clear ho
          go_wp2_with fail
          go_region_held (fun w' => w'.cell? ⟨g', 1, none⟩ = some (.bool false) ∧ w'.cell? ⟨g', 3, none⟩ = some (.int .i64 d'.wr)) (first | exact ⟨e1, e3⟩ | assumption)
            (first | (go_at_call 16; (with_reducible refine HON.out.mono ?_); rintro e w' ⟨rfl, rfl⟩) | (go_at_call 17; (with_reducible refine HWR.out.mono ?_); rintro e w' ⟨rfl, rfl⟩))
          have hBo8 : Both w7.drew g s g' s' d' := ⟨HBo.out.1.drew_, HBo.out.2.drew_⟩
          have hc8 := hc7.drew
          clear e1 e3 HON HWR hc7
          go_wp2
          go_roundw
          case rel => exact ⟨k + 1, g, s, g', s', d', rfl, rfl, by go_num, by omega, hBo8, hA, hg, hs, hg', hs', by rw [HDL.out]; exact hL1, by rw [HDL.out]; exact hL2, by omega, by omega, HI.out, hc8⟩
          case measure => simp [intOf]; omega
        | false =>
          rw [ho] at e1 HON
          simp only [Bool.not_false] at e1
          clear ho
          go_wp2_with fail
          go_region_held (fun w' => w'.cell? ⟨g', 1, none⟩ = some (.bool true) ∧ w'.cell? ⟨g', 3, none⟩ = some (.int .i64 d'.wr)) (first | exact ⟨e1, e3⟩ | assumption)
            (first | (go_at_call 16; (with_reducible refine HON.out.mono ?_); rintro e w' ⟨rfl, rfl⟩) | (go_at_call 17; (with_reducible refine HWR.out.mono ?_); rintro e w' ⟨rfl, rfl⟩))
          have hBo8 : Both w7.drew g s g' s' d' := ⟨HBo.out.1.drew_, HBo.out.2.drew_⟩
          have hc8 := hc7.drew
          clear e1 e3 HON HWR hc7
          go_wp2
          go_roundw
          case rel => exact ⟨k + 1, g, s, g', s', d', rfl, rfl, by go_num, by omega, hBo8, hA, hg, hs, hg', hs', by rw [HDL.out]; exact hL1, by rw [HDL.out]; exact hL2, by omega, by omega, HI.out, hc8⟩
          case measure => simp [intOf]; omega
    · have hA0 := hA
      go_wp2_with fail
      refine (alike_all g s g' s' d wr hBo.1 hBo.2 hL1 hL2).mono ?_
      rintro e w2 ⟨rfl, hb2⟩
      have h2' := hBo.below hb2
      have hc2 := hcb.trans (hb2.mono hcb.size)
      clear hBo hcb hb2
      go_wp2_with fail
      refine (up_all h2'.1).mono ?_
      rintro e w3 ⟨rfl, hD3, f3⟩
      have hR3 := h2'.2.fr f3 (fun e => by rcases e with e | e; exact hA.a e.symm; exact hA.c e.symm) (fun e => by rcases e with e | e; exact hA.b e.symm; exact hA.d e.symm)
      have hc3 := hc2.trans (f3.below hc2.size (Two.le hg hs))
      clear h2' hc2 f3
      go_wp2_with fail
      refine (rup_all hR3).mono ?_
      rintro e w4 ⟨rfl, hR4, f4⟩
      have hD4 := hD3.fr f4 (fun e => by rcases e with e | e; exact hA.a e; exact hA.b e) (fun e => by rcases e with e | e; exact hA.c e; exact hA.d e)
      have hc4 := hc3.trans (f4.below hc3.size (Two.le hg' hs'))
      clear hD3 hR3 hc3 f4
      go_wp2_with fail
      refine (alike_all g s g' s' d.up w4 hD4 hR4 hL1 hL2).mono ?_
      rintro e w5 ⟨rfl, hb5⟩
      have hc5 := hc4.trans (hb5.mono hc4.size)
      go_wp2
      go_ret
      exact ⟨rfl, hc5⟩

set_option maxRecDepth 100000 in
set_option maxHeartbeats 4000000 in
theorem does_walk (x : Int) (A : Option Addr) (l : List Op) (c : Nat) (w : World) (_hx : i64 x) (_hc : l.length ≤ c) (_hm : c ≤ maxLen) (hl : Ops w A l) (hreach : ∀ x ∈ l, x.b.length ≤ 140737488351232) :
    Calls Try.prog 3 #[.int .i64 x, .slice A l.length c] w (TruePost w) := by
  by_cases hin : 1 ≤ x ∧ x ≤ 2048
  · obtain ⟨n, rfl⟩ : ∃ n : Nat, x = (n : Int) := ⟨x.toNat, by omega⟩
    rcases Nat.lt_or_ge 60 l.length with h6 | h6
    · have g1 : decide ((60 : Int) < (l.length : Int)) = true := by simp; omega
      go_enter Try.func3, Try.ntmps3
      go_wp2_with fail
      refine (awake_all w).mono ?_
      rintro e w1 ⟨rfl, hb1⟩
      go_wp2_with fail
      refine (new_ok n w1 (by omega) (by omega)).mono ?_
      rintro e w2 ⟨g, s, rfl, hg, hs, hD2, hb2⟩
      have hc2 := hb1.trans (hb2.mono hb1.size)
      clear hb1 hb2
      go_wp2_with fail
      refine (rnew_ok n w2 (by omega) (by omega)).mono ?_
      rintro e w3 ⟨g', s', rfl, hg', hs', hR3, hb3⟩
      have hc3 := hc2.trans (hb3.mono hc2.size)
      go_wp2
      go_ret
      exact ⟨rfl, hc3⟩
    · exact does_short n A l c w (by omega) (by omega) hl hreach h6
  · have hbad : x < 1 ∨ 2048 < x := by omega
    go_enter Try.func3, Try.ntmps3
    go_wp2_with fail
    refine (awake_all w).mono ?_
    rintro e w1 ⟨rfl, hb1⟩
    go_wp2_with fail
    refine (new_bad x w1 hbad).mono ?_
    rintro e w' ⟨rfl, rfl⟩
    go_wp2_with fail
    refine (rnew_bad x w1 hbad).mono ?_
    rintro e w' ⟨rfl, rfl⟩
    go_wp2
    go_ret
    exact ⟨rfl, hb1⟩
end Go.Proofs.Ytjhbeebednahhaa.Dk
