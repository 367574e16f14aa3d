/-
  The contract of the laws' own Made, walked.
-/
import Derived.Test.YtkklplccngdalaaWlL1
namespace Go.Proofs.Ytkklplccngdalaa.Dk
open Go.RowKit

/-- append(own, odd...). -/
theorem run_append_odd {w : World} {base : Nat} {A A2 : Option Addr} {n c c2 : Nat} {xs : List Value} {X : Nat → Prop} {odd : List GI} (hown : w.ownsRow base 63 2 (.slice A n c) n xs) (hO : Grp X w A2 odd) (hn : n + odd.length ≤ 10000000) (hbase : base ≤ w.heap.size) :
    ∃ A' c' w' ys, (Builtin.append_ #[34, 34] 34 #[.slice A n c, .slice A2 odd.length c2]).run Try.prog w = .ok (.slice A' (n + odd.length) c') w' ∧
      w'.ownsRow base 63 2 (.slice A' (n + odd.length) c') (n + odd.length) (xs ++ ys) ∧ w.grownBy w' (Value.slice A n c).ownBlock ∧ WCells X w odd ys := by
  obtain ⟨i0, hi0, hz0, hz1, hz2⟩ := info_parts info_wr
  have key : ∀ (ad : Addr) (ys : List Value), (∀ j u, ys[j]? = some u → w.cell? (ad.add j) = some u) → (∀ u ∈ ys, u.oneCell' = true) → WCells X w odd ys → ∃ A' c' w' ys, (Builtin.append_ #[34, 34] 34 #[.slice A n c, .slice (some ad) odd.length c2]).run Try.prog w = .ok (.slice A' (n + odd.length) c') w' ∧
      w'.ownsRow base 63 2 (.slice A' (n + odd.length) c') (n + odd.length) (xs ++ ys) ∧ w.grownBy w' (Value.slice A n c).ownBlock ∧ WCells X w odd ys := by
    intro ad ys h1 h2 h3
    obtain ⟨v', w', hr, ho, hg, _, _⟩ := run_append_own_at (P := Try.prog) w base 34 34 63 i0 _ 2 32 Try.underlying34 hi0 hz0 hz1 hz2 rfl (by omega)
      _ n xs hown ad odd.length c2 ys h3.1 h1 h2 (by unfold maxLen; omega) (by omega) hbase
    have hv : ∃ A' c', v' = .slice A' (n + odd.length) c' := by
      rcases ho.2 with ⟨rfl, h0⟩ | ⟨g, cap, cur, rfl, _⟩
      · exact ⟨none, 0, by rw [h0]⟩
      · exact ⟨_, _, rfl⟩
    obtain ⟨A', c', rfl⟩ := hv
    exact ⟨A', c', w', ys, hr, ho, hg, h3⟩
  by_cases h0 : 0 < odd.length
  · obtain ⟨ad, ys, rfl, h1, h2, h3⟩ := hO.news h0
    exact key ad ys h1 h2 h3
  · obtain rfl : odd = [] := List.length_eq_zero_iff.1 (by omega)
    rcases A2 with _ | ad
    · have hrun : (Builtin.append_ #[34, 34] 34 #[.slice A n c, .slice none 0 c2]).run Try.prog w = .ok (.slice A n c) w := by
        rcases hown.2 with ⟨hv, rfl⟩ | ⟨g, cap, cur, hv, _, _, hnc, _⟩
        · rw [hv]
          simp [Builtin.append_, run_underlying Try.underlying34, sizeOf, typeInfo, hi0, Builtin.lenOf, Builtin.firstCells]
        · rw [hv]
          simp [Builtin.append_, run_underlying Try.underlying34, sizeOf, typeInfo, hi0, Builtin.lenOf, Builtin.firstCells, hnc, storeCells]
      exact ⟨A, c, w, [], hrun, by simpa using hown, World.grownBy.refl w _, WCells.nil_⟩
    · exact key ad [] (by simp) (by simp) WCells.nil_

theorem wrap_u8 (n : Int) : IntKind.u8.wrap n = n % 256 := by
  unfold IntKind.wrap
  rw [if_neg (by simp [IntKind.signed])]
  rfl
theorem wrap_add (x : UInt8) (k : Nat) : IntKind.u8.wrap ((x.toNat : Int) + IntKind.u8.wrap (k : Int)) = ((x + UInt8.ofNat k).toNat : Int) := by
  rw [wrap_u8, wrap_u8, UInt8.toNat_add, UInt8.toNat_ofNat']
  omega
def MadeRel (X : Nat → Prop) (ats : List Int) (x : UInt8) (w : World) (gB : Nat) (cs : Array Value) (v i : Value) (wr : World) : Prop :=
  ∃ (k : Nat) (A : Option Addr) (c : Nat) (xs : List Value), i = .int .i64 (k : Int) ∧ k ≤ ats.length ∧ v = .slice A k c ∧ wr.ownsRow (gB + 1) 63 2 (.slice A k c) k xs ∧ WCells (fun b => X b ∨ (Value.slice A k c).ownBlock = some b) wr (madeT ats x k) xs ∧
    Box wr gB 37 cs ∧ Below gB w wr

theorem made_step {X : Nat → Prop} {ats : List Int} {x : UInt8} {w1 w2 : World} {gB gN : Nat} {k c c' : Nat} {A A' : Option Addr} {xs : List Value} (hX : ∀ b, X b → b < gB) (hlt : k < ats.length) (h64 : i64 ats[k])
    (hW : WCells (fun b => X b ∨ (Value.slice A k c).ownBlock = some b) w1 (madeT ats x k) xs) (hN : Box w1 gN 5 (u8C (full (x + UInt8.ofNat k))).toArray) (hgN : gB < gN) (hnA : (Value.slice A k c).ownBlock ≠ some gN)
    (hg : (w1.alloc (.cells #[.int .i64 ats[k], .slice (some ⟨gN, 0, none⟩) 256 256] 63)).grownBy w2 (Value.slice A k c).ownBlock)
    (hl : (Value.slice A' (k + 1) c').ownBlock = (Value.slice A k c).ownBlock ∨ (Value.slice A' (k + 1) c').ownBlock = some (w1.heap.size + 1)) :
    WCells (fun b => X b ∨ (Value.slice A' (k + 1) c').ownBlock = some b) w2 (madeT ats x (k + 1)) (xs ++ [.int .i64 ats[k], .slice (some ⟨gN, 0, none⟩) 256 256]) := by
  have hone : WCells (fun b => X b ∨ (Value.slice A k c).ownBlock = some b) w1 [(ats.getD k 0, full (x + UInt8.ofNat k))] [.int .i64 ats[k], .slice (some ⟨gN, 0, none⟩) 256 256] := by
    have e : ats.getD k 0 = ats[k] := by simp [List.getD_eq_getElem?_getD, List.getElem?_eq_getElem hlt]
    rw [e]
    refine WCells.one (x := (ats[k], full (x + UInt8.ofNat k))) hN (full_len _) (fun h => ?_) h64
    rcases h with h | h
    · have := hX gN h
      omega
    · exact hnA h
  have h1 := hW.append hone
  rw [← madeT_succ] at h1
  have hf : Fr (fun b => X b ∨ (Value.slice A k c).ownBlock = some b) w1 w2 := by
    have ha : Fr (fun b => X b ∨ (Value.slice A k c).ownBlock = some b) w1 (w1.alloc (.cells #[.int .i64 ats[k], .slice (some ⟨gN, 0, none⟩) 256 256] 63)) := (Fr.refl _ _).alloc _
    refine ha.trans ⟨hg.os, hg.tape, hg.output, hg.size, fun b hb hn => hg.block b hb (fun e => hn (.inr e.symm))⟩
  have h2 := h1.mono (Y := fun b => X b ∨ (Value.slice A' (k + 1) c').ownBlock = some b) (fun b hb hy => by
    rcases hy with hy | hy
    · exact .inl hy
    · rcases hl with hl | hl
      · exact .inr (hl ▸ hy)
      · rw [hl] at hy
        injection hy with hy
        omega)
  refine ⟨h1.1, fun i hi => ?_⟩
  obtain ⟨B, c1, a1, a2, a3, a4, a5, a6⟩ := h1.2 i hi
  have a7 := a5.fr hf
  refine ⟨B, c1, a1, a2, a3, a4, fun hp => ?_, a6⟩
  obtain ⟨ad, e, q1, q2, q3⟩ := a7 hp
  obtain ⟨ad', e', r1, _, _⟩ := a5 hp
  rw [e] at e'
  injection e' with e'
  subst e'
  refine ⟨ad, e, q1, fun hy => q2 ?_, q3⟩
  rcases hy with hy | hy
  · exact .inl hy
  · rcases hl with hl | hl
    · exact .inr (hl ▸ hy)
    · rw [hl] at hy
      injection hy with hy
      omega

set_option maxRecDepth 100000 in
set_option maxHeartbeats 4000000 in
theorem made_all (X : Nat → Prop) (A1 A2 : Option Addr) (ats : List Int) (x : UInt8) (odd : List GI) (c1 c2 : Nat) (w : World) (h1 : Nums w A1 ats) (h2 : Grp X w A2 odd) (hX : ∀ b, X b → b < w.heap.size) (_hc1 : ats.length ≤ c1) (_hc2 : odd.length ≤ c2) (_hm1 : c1 ≤ maxLen) (_hm2 : c2 ≤ maxLen) (hn : ats.length + odd.length ≤ 3000000) :
    Calls Try.prog 14 #[.agg #[.slice A1 ats.length c1, .int .u8 (x.toNat : Int), .slice A2 odd.length c2]] w (MadePost X (madeG ats x odd) w) := by
  have hB0 := Box.new w 37 #[.slice A1 ats.length c1, .int .u8 (x.toNat : Int), .slice A2 odd.length c2]
  have hb0 := (Below.refl w.heap.size w).alloc (Nat.le_refl _) (.cells #[.slice A1 ats.length c1, .int .u8 (x.toNat : Int), .slice A2 odd.length c2] 37)
  go_enter Try.func14, Try.ntmps14
  go_wp2
  go_loopw [3, 4] (MadeRel X ats x w w.heap.size #[.slice A1 ats.length c1, .int .u8 (x.toNat : Int), .slice A2 odd.length c2]) (fun _ i _ => ats.length - (intOf i).toNat)
  case atStart => exact ⟨0, none, 0, [], rfl, by omega, rfl, World.ownsRow_nil _ _ _ _, WCells.nil_, hB0, hb0⟩
  case round =>
    clear hB0 hb0
    obtain ⟨k, A, c, xs, rfl, hk, rfl, hown, hW, hBx, hbl⟩ := hrel
    have b0 : wr.cell? ⟨w.heap.size, 0, none⟩ = some (.slice A1 ats.length c1) := hBx.cell 0
    have b1 : wr.cell? ⟨w.heap.size, 1, none⟩ = some (.int .u8 (x.toNat : Int)) := hBx.cell 1
    have b2 : wr.cell? ⟨w.heap.size, 2, none⟩ = some (.slice A2 odd.length c2) := hBx.cell 2
    by_cases hlt : k < ats.length
    · obtain ⟨ad, rfl, had, hcell, h64⟩ := (h1.below_ hbl).at_ hlt
      have hk0 : (0 : Int) ≤ (k : Int) := Int.natCast_nonneg _
      have hkl : (k : Int) < (ats.length : Int) := by omega
      have hk9 : k + 1 ≤ 10000000 := by omega
      have hxt := x.toNat_lt
      have HF : Hid (∀ wq, Calls Try.prog 29 #[.int .u8 (IntKind.u8.wrap ((x.toNat : Int) + IntKind.u8.wrap (k : Int)))] wq (FullP (full (x + UInt8.ofNat k)) wq)) := fun wq => full_l _ (x + UInt8.ofNat k) _ wq (wrap_add x k) rfl
      have hgx := hBx.lt
      have hOL : ∀ j, (Value.slice A k c).ownBlock = some j → w.heap.size + 1 ≤ j ∧ j < wr.heap.size := fun j hj => hown.lt j hj
      have HOL := Lib.hid hOL
      have HO := Lib.hid hown
      have HW := Lib.hid hW
      have HX := Lib.hid hBx
      have HB := Lib.hid hbl
      have H64 := Lib.hid h64
      have hlt9 : ats[k] = ats[k] := rfl
      clear hOL hown hW hBx hbl h64 h1 h2
      generalize hat : ats[k] = a at *
      go_wp2_with fail
      go_region_law (first | (rw [if_pos (by simp [Region.wanted])]; go_simp; go_at_call 29; (with_reducible refine (HF.out _).mono ?_); rintro e w1 ⟨gN, rfl, hgN, hxN, hb1⟩; have b0' : w1.cell? ⟨w.heap.size, 0, none⟩ = some (.slice (some ad) ats.length c1) := (hb1.cell (p := ⟨w.heap.size, 0, none⟩) hgx).trans b0; have hcell' : w1.cell? (ad.add k) = some (.int .i64 a) := (hb1.cell (p := ad.add k) (by rw [blk_add]; exact had)).trans hcell; obtain ⟨A', c', w2, hr, ho2, hg2, hl2⟩ := run_append_wr (.int .i64 a) (.slice (some ⟨gN, 0, none⟩) 256 256) rfl rfl (own_keep (HO.out.drew) hb1) (by omega) (by have := hb1.size; have h9 : wr.heap.size ≤ w1.heap.size := this; omega)) | (refine step_append_run (by rfl) _ _ _ _ (by rfl) (by rfl) (by rfl) hr ?_))
      all_goals
        have hs1 : wr.heap.size ≤ w1.heap.size := hb1.size
        have hgN2 : wr.heap.size ≤ gN := hgN
        have hWf : WCells (fun b => X b ∨ (Value.slice A k c).ownBlock = some b) w1 (madeT ats x k) xs := HW.out.fr ((Fr.refl _ _).drew.trans (Fr.of_below hb1))
        have hWn := made_step hX hlt (by rw [hat]; exact H64.out) hWf hxN (by omega) (fun e => by have := HOL.out _ e; omega) (by rw [hat]; exact hg2) hl2
        rw [hat] at hWn
        have hXn := ((HX.out.drew.below hb1 hgx).alloc (.cells #[.int .i64 a, .slice (some ⟨gN, 0, none⟩) 256 256] 63)).grown hg2 (fun e => by have := HOL.out _ e.symm; omega)
        have hBn := ((HB.out.drew.trans (hb1.mono (by exact HB.out.size))).alloc (by have := HB.out.size; omega) (.cells #[.int .i64 a, .slice (some ⟨gN, 0, none⟩) 256 256] 63)).grown hg2 (by have := HB.out.size; simp; omega) (fun j hj => by have := HOL.out j hj; omega)
        clear HOL HO HW HX HB HF hr hxN hb1 hWf b0 b1 b2 b0' hcell hcell'
        go_wp2
        go_roundw
        case rel => exact ⟨k + 1, A', c', _, by go_num, by omega, rfl, ho2, hWn, hXn, hBn⟩
        case measure => simp [intOf]; omega
    · obtain rfl : k = ats.length := by omega
      have hsz := hbl.size
      have h2' : Grp (fun b => X b ∨ w.heap.size ≤ b) w A2 odd := h2.mono (fun b hb hy => hy.elim id (fun hy => absurd hb (by omega)))
      have hO2 := h2'.below hbl
      obtain ⟨A', c', w2, ys, hr, ho2, hg2, hys⟩ := run_append_odd (c2 := c2) hown hO2 (by omega) (by have := hBx.lt; omega)
      have hOL : ∀ j, (Value.slice A ats.length c).ownBlock = some j → w.heap.size + 1 ≤ j ∧ j < wr.heap.size := fun j hj => hown.lt j hj
      have hLn : (madeG ats x odd).length = ats.length + odd.length := by unfold madeG; rw [List.length_append, madeT_len]
      have hcells : WCells X w2 (madeG ats x odd) (xs ++ ys) := by
        have hf : Fr (fun b => X b ∨ (Value.slice A ats.length c).ownBlock = some b) wr w2 := ⟨hg2.os, hg2.tape, hg2.output, hg2.size, fun b hb hn => hg2.block b hb (fun e => hn (.inr e.symm))⟩
        have q1 := (hW.fr hf).mono (Y := X) (fun b _ h => .inl h)
        have q2 := hys.mono (Y := fun b => X b ∨ (Value.slice A ats.length c).ownBlock = some b) (fun b _ hy => by
          rcases hy with hy | hy
          · exact .inl hy
          · have := hOL _ hy
            exact .inr (by omega))
        exact q1.append ((q2.fr hf).mono (fun b _ h => .inl h))
      have hgrp : Grp X w2 A' (madeG ats x odd) := WCells.grp (base := w.heap.size + 1) (c := c') hcells (by rw [hLn]; exact ho2) (fun b hb => by have := hX b hb; omega)
      have hcap : ats.length + odd.length ≤ c' ∧ c' ≤ maxLen := by
        rcases ho2.2 with ⟨hv, h0⟩ | ⟨g, cap, cur, hv, _, _, q1, q2, _⟩
        · injection hv with _ _ hv
          subst hv
          exact ⟨by omega, by unfold maxLen; omega⟩
        · injection hv with _ _ hv
          subst hv
          exact ⟨q1, q2⟩
      have hbn := hbl.grown hg2 hbl.size (fun j hj => by have := hOL j hj; omega)
      have HC := Lib.hid hcap
      have HG := Lib.hid hgrp
      have HB := Lib.hid hbn
      have HLN := Lib.hid hLn
      clear hcap hgrp hbn hcells hLn hOL hys hg2 ho2 hO2 h2' hW hown hBx hbl h1 h2
      go_wp2_with (first | (at_builtin; refine wpList_append_run rfl _ _ _ _ rfl rfl rfl hr ?_) | fail)
      go_ret
      exact ⟨A', c', by rw [HLN.out]; rfl, by rw [HLN.out]; exact HC.out.1, HC.out.2, HG.out, HB.out⟩
end Go.Proofs.Ytkklplccngdalaa.Dk
