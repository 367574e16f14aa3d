/-
  The contract of the document's Read.
-/
import Derived.Test.YthgoapcafjijfaaPgR3
import Derived.Test.YthgoapcafjijfaaPgW4
import Derived.Deep.RegionHeldLaw
namespace Go.Proofs.Ythgoapcafjijfaa.Pg
open Go.RowKit

/-- Records of a row of one's own, their contents in blocks of one's own beside it. -/
def RefRecs (base : Nat) (w : World) (A : Option Addr) (c : Nat) (l : List Rec) : Prop :=
  ∃ xs, w.ownsRow base 37 2 (.slice A l.length c) l.length xs ∧ PCells (fun b => b < base ∨ (Value.slice A l.length c).ownBlock = some b) w l xs
theorem RefRecs.recs {base : Nat} {w : World} {A : Option Addr} {c : Nat} {l : List Rec} (h : RefRecs base w A c l) : Recs (fun b => b < base) w A l := by
  obtain ⟨xs, h1, h2⟩ := h
  exact (h2.mono (Y := fun b => b < base) (fun b _ h => .inl h)).recs h1 (fun b hb => by have := (h1.lt b hb).1; omega)
def RReadPost (b : List UInt8) (w : World) (e : Ending) (w' : World) : Prop :=
  (∃ l A c, readP b = some l ∧ e = .returned (.tuple #[.slice A l.length c, .int .i64 0]) ∧ Recs (fun b => b < w.heap.size) w' A l ∧ Below w.heap.size w w') ∨
  (readP b = none ∧ e = .returned (.tuple #[.slice none 0 0, .int .i64 30]) ∧ Below w.heap.size w w')
def RDivRel (b : List UInt8) (w : World) (v a i : Value) (wr : World) : Prop :=
  ∃ (k q : Nat) (A : Option Addr) (c : Nat) (acc : List Rec), i = .int .i64 (k : Int) ∧ a = .int .i64 (q : Int) ∧ v = .slice A k c ∧ acc.length = k ∧ k ≤ gb b 0 ∧ q ≤ 256 ∧
    divP b (gb b 0) 1 = (divP b (gb b 0 - k) q).map (acc ++ ·) ∧ RefRecs w.heap.size wr A c acc ∧ Below w.heap.size w wr

theorem rdiv_end {w wr w1 w2 : World} {A A' A3 : Option Addr} {c c' c3 : Nat} {acc : List Rec} {p : Rec} {xs : List Value} {cs : Array Value}
    (hw : Below w.heap.size w wr) (hR : wr.ownsRow w.heap.size 37 2 (.slice A acc.length c) acc.length xs) (hP : PCells (fun b => b < w.heap.size ∨ (Value.slice A acc.length c).ownBlock = some b) wr acc xs)
    (ho3 : OwnB wr.heap.size w1 A3 p.2.length c3 p.2) (hb1 : Below wr.heap.size wr w1) (hk : p.1.size ≤ maxLen) (_hn : p.2.length ≤ 1000000)
    (ho2 : w2.ownsRow w.heap.size 37 2 (.slice A' (acc.length + 1) c') (acc.length + 1) (xs ++ [.string p.1, .slice A3 p.2.length c3]))
    (hg2 : (w1.alloc (.cells cs 37)).grownBy w2 (Value.slice A acc.length c).ownBlock)
    (hl : (Value.slice A' (acc.length + 1) c').ownBlock = (Value.slice A acc.length c).ownBlock ∨ (Value.slice A' (acc.length + 1) c').ownBlock = some (w1.heap.size + 1)) :
    RefRecs w.heap.size w2 A' c' (acc ++ [p]) ∧ Below w.heap.size w w2 := by
  have s1 := hw.size
  have s2 := hb1.size
  have s3 : (w1.alloc (.cells cs 37)).heap.size = w1.heap.size + 1 := by simp
  have hB1 : Below w.heap.size w w1 := hw.trans (hb1.mono s1)
  have hcap : p.2.length ≤ c3 ∧ c3 ≤ maxLen := by
    rcases ho3.2.2 with ⟨hv, h0⟩ | ⟨g, cap, cur, hv, _, _, q1, q2, _⟩
    · injection hv with _ _ hv
      subst hv
      exact ⟨by omega, by unfold maxLen; omega⟩
    · injection hv with _ _ hv
      subst hv
      exact ⟨q1, q2⟩
  have hlie : LieX (fun b => b < w.heap.size ∨ (Value.slice A acc.length c).ownBlock = some b) w1 A3 p.2 := fun hp => by
    obtain ⟨ad, e, h1, h2⟩ := ho3.lie hp
    refine ⟨ad, e, h1, fun hx => ?_, h2⟩
    obtain ⟨g, cap, hv, hbg, _⟩ := ho3.2.form hp
    have hA : A3 = some ⟨g, 0, none⟩ := by injection hv
    rw [hA] at e
    injection e with e
    subst e
    rcases hx with hx | hx
    · have : g < w.heap.size := hx
      omega
    · have := (hR.lt _ hx).2
      have : g < wr.heap.size := this
      omega
  have hP1 := hP.fr (Fr.of_below hb1)
  have hall := hP1.append (PCells.one (p := p) ⟨A3, c3, rfl, rfl, hcap.1, hcap.2, hlie, hk⟩)
  have hf : Fr (fun b => b < w.heap.size ∨ (Value.slice A acc.length c).ownBlock = some b) w1 w2 :=
    ((Fr.refl _ w1).alloc (.cells cs 37)).trans ⟨hg2.os, hg2.tape, hg2.output, hg2.size, fun b hb hn => hg2.block b hb (fun e => hn (.inr e.symm))⟩
  refine ⟨⟨xs ++ [.string p.1, .slice A3 p.2.length c3], by rw [List.length_append, List.length_singleton]; exact ho2, ?_⟩, ?_⟩
  · rw [List.length_append, List.length_singleton]
    refine ⟨hall.1, fun i hi => ?_⟩
    obtain ⟨v0, v1, a1, a2, B, d, r1, r2, r3, r4, r5, r6⟩ := hall.2 i hi
    have r7 := r5.fr hf
    refine ⟨v0, v1, a1, a2, B, d, r1, r2, r3, r4, fun hp => ?_, r6⟩
    obtain ⟨ad, e, q1, q2, q3⟩ := r7 hp
    obtain ⟨ad', e', t1, _, _⟩ := r5 hp
    rw [e] at e'
    injection e' with e'
    subst e'
    refine ⟨ad, e, q1, fun hy => q2 ?_, q3⟩
    rcases hy with hy | hy
    · exact .inl hy
    · rcases hl with hl | hl
      · exact .inr (hl ▸ hy)
      · rw [hl] at hy
        injection hy with hy
        omega
  · exact (hB1.alloc hB1.size (.cells cs 37)).grown hg2 (by omega) (fun k hk => (hR.lt k hk).1)

/-- append at a step of a region that draws its order, the run's equation first. -/
theorem step_app {w w' : World} {t1 t2 ty : TypeId} {u v r : Value} (hr : (Builtin.append_ #[t1, t2] ty #[u, v]).run Try.prog w = .ok r w') (s x : Operand) {ops : Array Oper} {o : Oper} {a : Act} {K : Act → World → Prop} {Q : Exit → Act → World → Prop} {E : Prop} (hgd : o.guard = none)
    (ho : o.op = .call { callee := .builtin .append, args := #[s, x], argTypes := #[t1, t2] }) (ht : o.type = ty) (hs : a.eval s = u) (hx : a.eval x = v) (h : K (a.put o.dst r) w') : if Region.wanted o (yielded ops a.tmps) = true then Oper.wp Try.prog o a w K Q else E := by
  subst ht
  exact step_append_run hgd s x t1 t2 ho hs hx hr h

theorem cut_lie_at {w : World} {ad : Addr} {b : List UInt8} (h : ∀ j, j < b.length → w.cell? (ad.add j) = some (.int .u8 ((gb b j : Nat) : Int))) (hg : ad.block < w.heap.size) {i j : Nat} (hij : i ≤ j) (hj : j ≤ b.length) {A : Option Addr} (hA : i < j → A = some (ad.add i)) : Lie w A (cutB b i j) := fun hl => by
  rw [cut_len hij hj] at hl
  refine ⟨ad.add i, hA (by omega), by rw [blk_add]; exact hg, fun k hk => ?_⟩
  rw [cut_len hij hj] at hk
  rw [add_add_, h (i + k) (by omega)]
  have e2 : gb b (i + k) = ((cutB b i j)[k]'(by rw [cut_len hij hj]; exact hk)).toNat := by
    unfold gb cutB
    rw [List.getElem_take, List.getElem_drop, List.getD_eq_getElem?_getD, List.getElem?_eq_getElem (by omega)]
    rfl
  rw [e2]

set_option maxRecDepth 100000 in
set_option maxHeartbeats 4000000 in
theorem refRead_all (b : List UInt8) (A : Option Addr) (cC : Nat) (w : World) (hl : Lie w A b) (hc : b.length ≤ cC) (_hm : cC ≤ maxLen) :
    Calls Try.prog 16 #[.slice A b.length cC] w (RReadPost b w) := by
  by_cases hb : b.length = 256
  · obtain ⟨ad, rfl, hg, hcell⟩ := hl (by omega)
    have hL : ∀ j, j < 256 → w.cell? (ad.add j) = some (.int .u8 ((gb b j : Nat) : Int)) := fun j hj => by
      rw [hcell j (by omega)]
      unfold gb
      rw [List.getD_eq_getElem?_getD, List.getElem?_eq_getElem (by omega)]
      rfl
    have HLB := Lib.hid hl
    have HB := Lib.hid hb
    rw [hb] at hc ⊢
    clear hl hcell hb
    have hn := gb_lt b 0
    have HD : Hid (divP b (gb b 0) 1 = (divP b (gb b 0 - 0) 1).map ([] ++ ·)) := by
      show _ = _
      cases divP b (gb b 0) 1 <;> simp
    go_enter Try.func16, Try.ntmps16
    go_wp2
    go_loopw [4, 5, 6] (RDivRel b w) (fun _ _ i _ => gb b 0 - (intOf i).toNat)
    case atStart => exact ⟨0, 1, none, 0, [], rfl, rfl, rfl, rfl, by omega, by omega, HD.out, ⟨[], World.ownsRow_nil _ _ _ _, PCells.nil_⟩, Below.refl _ _⟩
    case round =>
      clear HD
      obtain ⟨k, q, A, c, acc, rfl, rfl, rfl, rfl, hk, hq, hdv, how, hw⟩ := hrel
      have hLr : ∀ j, j < 256 → wr.cell? (ad.add j) = some (.int .u8 ((gb b j : Nat) : Int)) := fun j hj => (hw.cell (p := ad.add j) (by rw [blk_add]; exact hg)).trans (hL j hj)
      have hgr : ad.block < wr.heap.size := Nat.lt_of_lt_of_le hg hw.size
      have c0 : wr.cell? ad = some (.int .u8 ((gb b 0 : Nat) : Int)) := hLr 0 (by omega)
      generalize hN : gb b 0 = N at *
      by_cases hlt : acc.length < N
      · obtain ⟨r, hr⟩ : ∃ r, N - acc.length = r + 1 := ⟨N - acc.length - 1, by omega⟩
        rw [hr] at hdv
        by_cases hs : b.length < q + 2
        · rw [div_short hs] at hdv
          have HN := Lib.hid (read_div (by rw [hN]; exact hdv))
          have hq2 : 256 < q + 2 := by have := HB.out; omega
          clear hdv hL hLr how hr hs
          go_wp2
          all_goals first | (exfalso; omega) | skip
          go_ret2
          exact .inr ⟨HN.out, rfl, hw⟩
        · have hb : b.length = 256 := HB.out
          have c1 := hLr q (by omega)
          have c2 := hLr (q + 1) (by omega)
          rw [Addr.add_succ'] at c2
          have x0 := gb_lt b q
          have x1 := gb_lt b (q + 1)
          by_cases ht : b.length < endA b q
          · rw [div_long hs ht] at hdv
            have HN := Lib.hid (read_div (by rw [hN]; exact hdv))
            have hq2 : ¬ 256 < q + 2 := by omega
            unfold endA at ht
            rw [hb] at ht
            clear hdv hL hLr how hr hs hb
            generalize gb b q = n0 at *
            generalize gb b (q + 1) = n1 at *
            have wK : IntKind.i64.wrap ((q : Int) + 2 + (n0 : Int)) = (q : Int) + 2 + (n0 : Int) := by rw [IntKind.wrap_i64]; omega
            have wE : IntKind.i64.wrap ((q : Int) + 2 + (n0 : Int) + (n1 : Int)) = (q : Int) + 2 + (n0 : Int) + (n1 : Int) := by rw [IntKind.wrap_i64]; omega
            go_wp2
            all_goals first | (exfalso; omega) | skip
            go_ret2
            exact .inr ⟨HN.out, rfl, hw⟩
          · rw [div_step hs ht] at hdv
            obtain ⟨K, hK⟩ : ∃ K, K = q + 2 := ⟨_, rfl⟩
            obtain ⟨C, hC⟩ : ∃ C, C = K + gb b q := ⟨_, rfl⟩
            obtain ⟨E, hE⟩ : ∃ E, E = C + gb b (q + 1) := ⟨_, rfl⟩
            have hEA : endA b q = E := by unfold endA; omega
            rw [hEA] at ht hdv
            have hE2 : E ≤ 256 := by omega
            obtain ⟨A1, hA1⟩ : ∃ A1 : Option Addr, (if cC = K then some ad else some (ad.add K)) = A1 := ⟨_, rfl⟩
            obtain ⟨A2, hA2⟩ : ∃ A2 : Option Addr, (if cC = C then some ad else some (ad.add C)) = A2 := ⟨_, rfl⟩
            have l1 : Lie wr A1 (cutB b K C) := cut_lie_at (by rw [hb]; exact hLr) hgr (by omega) (by omega) (fun h => by rw [← hA1, if_neg (by omega)])
            have l2 : Lie wr A2 (cutB b C E) := cut_lie_at (by rw [hb]; exact hLr) hgr (by omega) (by omega) (fun h => by rw [← hA2, if_neg (by omega)])
            have hrec : recA b q = (⟨(cutB b K C).toArray⟩, cutB b C E) := by
              unfold recA
              rw [← hK, ← hC, ← hE]
            have hcv := conv_lie (cC - K) l1.drew
            rw [cut_len (by omega) (by omega)] at hcv
            have hl2n : (cutB b C E).length = E - C := cut_len (by omega) (by omega)
            have hl1n : (cutB b K C).length = C - K := cut_len (by omega) (by omega)
            obtain ⟨xs, ho, hpc⟩ := how
            have hown0 : OwnB wr.heap.size wr.drew none 0 0 [] := ⟨rfl, World.ownsRow_nil _ _ _ _⟩
            obtain ⟨A3, c3, w1, hr1, ho1, hb1⟩ := run_appL (w0 := wr.drew) hown0 (m := E - C) (by rw [hl2n]; omega) (cC - C) l2.drew (by rw [hl2n]; omega) (Nat.le_refl _) (Below.refl _ _)
            rw [hl2n] at hr1
            have hcv1 := conv_lie (cC - K) (l1.drew.below hb1)
            rw [hl1n] at hcv1
            have hcv2 := conv_lie (cC - K) ((l1.drew.below hb1).alloc (.cells #[.string ⟨(cutB b K C).toArray⟩, .slice A3 (E - C) c3] 37))
            rw [hl1n] at hcv2
            have l1w : Lie w A1 (cutB b K C) := cut_lie_at (by rw [hb]; exact hL) hg (by omega) (by omega) (fun h => by rw [← hA1, if_neg (by omega)])
            have hB1 : Below wr.heap.size wr w1 := ⟨hb1.os, hb1.tape, hb1.output, hb1.size, hb1.block⟩
            obtain ⟨A', c', w2, hr2, ho2, hg2, hl2⟩ := run_append_rec (.string ⟨(cutB b K C).toArray⟩) (.slice A3 (E - C) c3) rfl rfl (own_keep ho.drew hb1) (by omega) (by have := hw.size; have h9 : wr.heap.size ≤ w1.heap.size := hb1.size; omega)
            have hp2 : (recA b q).2.length = E - C := by rw [hrec]; exact hl2n
            have ho3 : OwnB wr.heap.size w1 A3 (recA b q).2.length c3 (recA b q).2 := by
              rw [hp2, hrec]
              exact ho1
            have ho2' : w2.ownsRow w.heap.size 37 2 (.slice A' (acc.length + 1) c') (acc.length + 1) (xs ++ [.string (recA b q).1, .slice A3 (recA b q).2.length c3]) := by
              rw [hp2, hrec]
              exact ho2
            obtain ⟨hnx, hBn⟩ := rdiv_end hw ho hpc ho3 hB1 (by rw [hrec]; show (cutB b K C).toArray.size ≤ maxLen; rw [List.size_toArray, hl1n]; unfold maxLen; omega) (by omega) ho2' hg2 hl2
            have hdv2 : divP b N 1 = (divP b (N - (acc.length + 1)) E).map ((acc ++ [recA b q]) ++ ·) := by
              rw [hdv, show N - (acc.length + 1) = r by omega]
              cases divP b r E <;> simp
            have hcv3 := conv_lie (cC - K) (l1w.below hBn)
            rw [hl1n] at hcv3
            have HDV := Lib.hid hdv2
            have HNX := Lib.hid hnx
            have HR1 := Lib.hid hr1
            have HR := Lib.hid hr2
            clear hdv2 hnx hr2 hr1 hdv hrec l1 l1w l2 hl2n hl1n ho hpc ho2 ho2' hg2 hl2 hL hLr hr hs ht hEA ho1 ho3 hp2 hown0 hb1 hB1
            generalize (cutB b K C).toArray = kk at *
            generalize recA b q = pp at *
            generalize gb b q = n0 at *
            generalize gb b (q + 1) = n1 at *
            have u1 : (q : Int) + 2 = (K : Int) := by omega
            have u0 : IntKind.i64.wrap (K : Int) = (K : Int) := by rw [IntKind.wrap_i64]; omega
            have u2 : IntKind.i64.wrap ((K : Int) + (n0 : Int)) = (C : Int) := by rw [IntKind.wrap_i64]; omega
            have u3 : IntKind.i64.wrap ((C : Int) + (n1 : Int)) = (E : Int) := by rw [IntKind.wrap_i64]; omega
            have v1 : ¬ (256 : Int) < (K : Int) := by omega
            have v2 : ¬ (256 : Int) < (E : Int) := by omega
            have v3 : (K : Int) ≤ (C : Int) := by omega
            have v4 : (C : Int) ≤ (E : Int) := by omega
            have v5 : (C : Int) ≤ (cC : Int) := by omega
            have v6 : (E : Int) ≤ (cC : Int) := by omega
            have v7 : (0 : Int) ≤ (K : Int) := by omega
            have v8 : (0 : Int) ≤ (C : Int) := by omega
            clear hK hC hE hb
            go_wp2_with fail
            go_region_held_law (fun w' => (convert 25 9 (.slice A1 (C - K) (cC - K))).run Try.prog w' = .ok (.string ⟨kk⟩) w') (first | with_reducible exact hcv | with_reducible exact hcv1 | with_reducible exact hcv2 | with_reducible exact hcv3 | assumption) (first | (refine step_append_run (w' := ?wa) (u := ?ua) (v := ?va) (r := ?ra) ?h1a (.tmp 47) (.tmp 60) ?sa ?ta ?h2a ?h3a ?h4a ?h5a ?h6a; (case h1a => rfl); (case h2a => rfl); (case h3a => rfl); (case h4a => rfl); (case h5a => exact HR.out)) | (refine step_append_run (w' := ?wb) (u := ?ub) (v := ?vb) (r := ?rb) ?h1b (.const (.slice none 0 0)) (.tmp 57) ?sb ?tb ?h2b ?h3b ?h4b ?h5b ?h6b; (case h1b => rfl); (case h2b => rfl); (case h3b => rfl); (case h4b => rfl); (case h5b => exact HR1.out)))
            clear HR HR1 hcv hcv1 hcv2 hcv3 hA1 hA2
            go_wp2
            go_roundw
            case rel => exact ⟨acc.length + 1, E, A', c', acc ++ [pp], by go_num, rfl, rfl, by simp, by omega, hE2, by rw [hN]; exact HDV.out, HNX.out, hBn⟩
            case measure => simp [intOf]; omega
      · have hz : N - acc.length = 0 := by omega
        rw [hz] at hdv
        have hdv2 : divP b N 1 = some acc := by
          rw [hdv]
          simp [divP]
        have hdv3 : divP b (gb b 0) 1 = some acc := by rw [hN]; exact hdv2
        have hsm := div_sm (by rw [HB.out]; omega) hdv2 (by omega)
        have hrc := how.recs
        have hnl : ¬ (acc.length : Int) < (N : Int) := by omega
        have HRL := Lib.hid (refLay_all _ A acc c wr hrc hsm.1)
        have HDV := Lib.hid hdv3
        have HRC := Lib.hid hrc
        clear hdv hdv2 hdv3 hL hLr hz how hsm hrc
        go_wp2_with fail
        all_goals first | (exfalso; omega) | skip
        with_reducible refine HRL.out.mono ?_
        rintro e w3 ⟨rfl, hb3⟩
        have hB3 := hw.trans (hb3.mono hw.size)
        clear HRL
        by_cases hok : okP acc
        · rw [layE_ok hok, layS_ok hok]
          have hcv := conv_lie cC (HLB.out.below hB3)
          rw [HB.out] at hcv
          by_cases heq : layB acc = b
          · have HR := Lib.hid (read_of HB.out HDV.out hok heq)
            rw [heq]
            clear hok heq HLB
            go_wp2
            go_ret2
            exact .inl ⟨acc, A, c, HR.out, rfl, HRC.out.below hb3, hB3⟩
          · have HR := Lib.hid (read_not HDV.out (fun k => heq k.2))
            have hne : (layB acc == b) = false := beq_eq_false_iff_ne.2 heq
            have hne2 : (b == layB acc) = false := beq_eq_false_iff_ne.2 (fun e => heq e.symm)
            clear hok heq HLB HDV
            generalize layB acc = X at *
            go_wp2
            all_goals first | (exfalso; simp_all; done) | skip
            go_ret2
            exact .inr ⟨HR.out, rfl, hB3⟩
        · have HR := Lib.hid (read_not HDV.out (fun k => hok k.1))
          have hne : layE acc ≠ 0 := fun h => hok (layE_zero.1 h)
          clear hok HLB HDV
          generalize layE acc = E at *
          have hE : (E == 0) = false := beq_eq_false_iff_ne.2 hne
          have hE2 : (E != 0) = true := by simp [bne, hE]
          go_wp2
          all_goals first | (exfalso; omega) | skip
          go_ret2
          exact .inr ⟨HR.out, rfl, hB3⟩
  · have HR := Lib.hid (read_len hb)
    have b1 : ((b.length : Int) == 256) = false := beq_eq_false_iff_ne.2 (by omega)
    have b2 : (b.length == 256) = false := beq_eq_false_iff_ne.2 hb
    generalize b.length = n at *
    clear hl
    go_enter Try.func16, Try.ntmps16
    go_wp2
    go_ret2
    exact .inr ⟨HR.out, rfl, Below.refl _ _⟩
end Go.Proofs.Ythgoapcafjijfaa.Pg
