/-
  PageReads, walked.
-/
import Derived.Test.YthgoapcafjijfaaPgR4
import Derived.Test.YthgoapcafjijfaaPgBk
import Derived.Test.YthgoapcafjijfaaPgLaysW
namespace Go.Proofs.Ythgoapcafjijfaa.Pg
open Go.RowKit

theorem OwnRecs.frg {base gC g : Nat} {w w' : World} {A : Option Addr} {c : Nat} {l : List Rec} (h : OwnRecs base gC w A c l) (hf : Fr (fun b => b = g) w w') (h1 : g ≠ gC) (h2 : g < base) : OwnRecs base gC w' A c l := by
  obtain ⟨xs, o1, o2, o3⟩ := h
  refine ⟨xs, ⟨o1.1, ?_⟩, o2.fr ⟨hf.os, hf.tape, hf.output, hf.size, fun b hb hn => hf.block b hb (fun e => ?_)⟩, o3⟩
  · rcases o1.2 with q | ⟨gq, cap, cur, hv, hbg, hh, r⟩
    · exact .inl q
    · exact .inr ⟨gq, cap, cur, hv, hbg, (hf.block gq (Array.getElem?_eq_some_iff.1 hh).1 (fun e => by have : gq = g := e; omega)).trans hh, r⟩
  · have q1 : b = gC := by simpa using hn
    have q2 : b = g := e
    omega

def RdRel (n g : Nat) (w : World) (i : Value) (wr : World) : Prop :=
  ∃ (k : Nat) (cur : Array Value), i = .int .i64 (k : Int) ∧ k ≤ n ∧ (0 < n → Box wr g 5 cur ∧ ∀ j, j < n → ∃ x : UInt8, cur[j]? = some (.int .u8 (x.toNat : Int))) ∧ Fr (fun b => b = g) w wr

theorem rd_step {n j : Nat} {cu : Array Value} {x : UInt8} (hall : ∀ i, i < n → ∃ x : UInt8, cu[i]? = some (.int .u8 (x.toNat : Int))) (hx : cu[j]? = some (.int .u8 (x.toNat : Int))) :
    ∀ i, i < n → ∃ y : UInt8, (cu.setIfInBounds j (.int .u8 ((x + 1).toNat : Int)))[i]? = some (.int .u8 (y.toNat : Int)) := fun i hi => by
  have hlt : j < cu.size := (Array.getElem?_eq_some_iff.1 hx).1
  by_cases hij : j = i
  · subst hij
    exact ⟨x + 1, Array.getElem?_setIfInBounds_self_of_lt hlt⟩
  · rw [Array.getElem?_setIfInBounds_ne hij]
    exact hall i hi

/-- A row of bytes of one's own, as a block. -/
theorem own_box {base n c : Nat} {w : World} {A : Option Addr} {P : List UInt8} (h : OwnB base w A n c P) : ∃ g cur, base ≤ g ∧ (0 < n → A = some ⟨g, 0, none⟩ ∧ g < w.heap.size ∧ Box w g 5 cur ∧ ∀ j, j < n → ∃ x : UInt8, cur[j]? = some (.int .u8 (x.toNat : Int))) := by
  obtain ⟨hl, ho⟩ := h
  rcases ho.2 with ⟨_, h0⟩ | ⟨g, cap, cur, hv, hbg, hh, hnc, hcm, hsz, htk⟩
  · exact ⟨base, #[], Nat.le_refl _, fun h => by omega⟩
  · injection hv with hv _ _
    refine ⟨g, cur, hbg, fun _ => ⟨hv, (Array.getElem?_eq_some_iff.1 hh).1, hh, fun j hj => ?_⟩⟩
    have : (cur.toList.take (n * 1))[j]? = (u8C P)[j]? := by rw [htk]
    rw [List.getElem?_take, if_pos (by omega), Array.getElem?_toList] at this
    refine ⟨P[j]'(by omega), ?_⟩
    rw [this]
    simp [u8C, List.getElem?_eq_getElem (show j < P.length by omega)]

set_option maxRecDepth 100000 in
set_option maxHeartbeats 4000000 in
theorem readsW (A : Option Addr) (b : List UInt8) (c : Nat) (w : World) (hc : b.length ≤ c) (hm : c ≤ maxLen) (hl : Lie w A b) :
    Calls Try.prog 4 #[.slice A b.length c] w (TruePost w) := by
  by_cases h3 : 3000 < b.length
  · have d3 : decide ((3000 : Int) < (b.length : Int)) = true := decide_eq_true (by omega)
    clear hl hc
    generalize b.length = n at *
    go_enter Try.func4, Try.ntmps4
    go_wp2_with fail
    refine (awake_all w).mono ?_
    rintro e w1 ⟨rfl, hb1⟩
    go_wp2
    all_goals first | (exfalso; omega) | skip
    go_ret
    exact ⟨rfl, hb1⟩
  · have d3 : decide ((3000 : Int) < (b.length : Int)) = false := decide_eq_false (by omega)
    go_enter Try.func4, Try.ntmps4
    go_wp2_with fail
    refine (awake_all w).mono ?_
    rintro e w1 ⟨rfl, hb1⟩
    have hown0 : OwnB w1.heap.size w1 none 0 0 [] := ⟨rfl, World.ownsRow_nil _ _ _ _⟩
    obtain ⟨A2, c2, w2, hr2, ho2, hb2⟩ := run_appL (w0 := w1) hown0 (m := b.length) (by omega) c (hl.below hb1) (by omega) (Nat.le_refl _) (Below.refl _ _)
    have hB2 := hb1.trans (hb2.mono hb1.size)
    have hlie2 : Lie w2 A2 b := ho2.lie
    have HR := Lib.hid (read_all b A2 c2 w2 hlie2 (by omega))
    obtain ⟨go, cur0, hgo, hbox⟩ := own_box ho2
    have HBX := Lib.hid hbox
    have HRR : Hid (∀ wx, Below w.heap.size w wx → Calls Try.prog 16 #[.slice A b.length c] wx (RReadPost b wx)) := fun wx hb => refRead_all b A c wx (hl.below hb) hc hm
    have hw1 := hb1.size
    clear hown0 hlie2 ho2 hbox hl
    generalize hn : b.length = n at *
    have HN := Lib.hid hn
    clear hn
    go_wp2_with (at_builtin; refine wpList_append_run rfl (.const (.slice none 0 0)) (.tmp 20) _ _ rfl rfl rfl hr2 ?_)
    all_goals first | (exfalso; omega) | skip
    with_reducible refine HR.out.mono ?_
    rintro e w3 (⟨l, A3, c3, gC, base, hrd, rfl, h1, h2, h2b, hor, hb3⟩ | ⟨hrd, rfl, hb3⟩)
    · have hB3 := hB2.trans (hb3.mono hB2.size)
      have HBX3 : Hid (0 < n → A2 = some ⟨go, 0, none⟩ ∧ go < w2.heap.size ∧ Box w3 go 5 cur0 ∧ ∀ j, j < n → ∃ x : UInt8, cur0[j]? = some (.int .u8 (x.toNat : Int))) := fun h => by
        obtain ⟨q1, q2, q3, q4⟩ := HBX.out h
        exact ⟨q1, q2, q3.below hb3 q2, q4⟩
      have HOR := Lib.hid hor
      have HRD := Lib.hid hrd
      clear hor hrd
      clear HR HBX
      go_wp2
      go_loopw [7] (RdRel n go w3) (fun i _ => n - (intOf i).toNat)
      case atStart => exact ⟨0, cur0, rfl, by omega, fun h => ⟨(HBX3.out h).2.2.1, (HBX3.out h).2.2.2⟩, Fr.refl _ _⟩
      case round =>
        obtain ⟨k, cur, rfl, hk, hbk, hfr⟩ := hrel
        by_cases hlt : k < n
        · obtain ⟨hxk, hall⟩ := hbk (by omega)
          obtain ⟨rfl, hgl, _⟩ := HBX3.out (by omega)
          obtain ⟨x, hx⟩ := hall k hlt
          have HA := Lib.hid (rd_step hall hx)
          have q1 : wr.cell? ⟨go, k, none⟩ = some (.int .u8 (x.toNat : Int)) := (hxk.cell _).trans hx
          have f1 := hxk.frozen k
          have hw1 := wrap_up x
          have hx5 := hxk.set_ k (.int .u8 ((x + 1).toNat : Int))
          have hf5 := hfr.set_ (p := ⟨go, k, none⟩) rfl (.int .u8 ((x + 1).toNat : Int))
          clear hbk hall hx hxk hfr HRR HOR
          generalize cur.setIfInBounds k (.int .u8 ((x + 1).toNat : Int)) = cu2 at *
          generalize (x + 1).toNat = y at *
          generalize x.toNat = z at *
          go_wp2
          go_roundw
          case rel => exact ⟨k + 1, cu2, by go_num, by omega, fun _ => ⟨hx5, HA.out⟩, hf5⟩
          case measure => simp [intOf]; omega
        · obtain rfl : k = n := by omega
          have hB5 : Below w.heap.size w wr := hB3.trans (hfr.below hB3.size (fun b hb => by have : b = go := hb; omega))
          have hor5 := HOR.out.frg hfr (by have := HOR.out; have := hb3.size; have h9 := (HBX3.out (by have := (read_some HRD.out).1; have := HN.out; omega)).2.1; omega) (by have h9 := (HBX3.out (by have := (read_some HRD.out).1; have := HN.out; omega)).2.1; omega)
          clear HBX3 HOR hbk hfr
          go_wp2_with fail
          with_reducible refine (HRR.out wr hB5).mono ?_
          rintro e w6 (⟨l6, A6, c6, hrd6, rfl, hrc6, hb6⟩ | ⟨hrd6, _⟩)
          · rw [HRD.out] at hrd6
            injection hrd6 with hrd6
            subst hrd6
            have hB6 := hB5.trans (hb6.mono hB5.size)
            have hlen : l.length ≤ 1000000 := by
              obtain ⟨q1, q2, _⟩ := read_some HRD.out
              have hgl := gb_lt b 0
              exact (div_sm (by omega) q2 (by omega)).1
            have HSA := Lib.hid (same_all _ _ A3 A6 l l c3 c6 w6 (hor5.below hb6).recs hrc6 hlen hlen)
            clear HRR hor5 hrc6
            go_wp2_with fail
            with_reducible refine HSA.out.mono ?_
            rintro e w7 ⟨rfl, hb7⟩
            have hB7 := hB6.trans (hb7.mono hB6.size)
            go_wp2
            go_ret
            exact ⟨rfl, hB7⟩
          · rw [HRD.out] at hrd6
            cases hrd6
    · have hB3 := hB2.trans (hb3.mono hB2.size)
      have HBX3 : Hid (0 < n → A2 = some ⟨go, 0, none⟩ ∧ go < w2.heap.size ∧ Box w3 go 5 cur0 ∧ ∀ j, j < n → ∃ x : UInt8, cur0[j]? = some (.int .u8 (x.toNat : Int))) := fun h => by
        obtain ⟨q1, q2, q3, q4⟩ := HBX.out h
        exact ⟨q1, q2, q3.below hb3 q2, q4⟩
      have HRD := Lib.hid hrd
      clear hrd
      clear HR HBX
      go_wp2
      go_loopw [7] (RdRel n go w3) (fun i _ => n - (intOf i).toNat)
      case atStart => exact ⟨0, cur0, rfl, by omega, fun h => ⟨(HBX3.out h).2.2.1, (HBX3.out h).2.2.2⟩, Fr.refl _ _⟩
      case round =>
        obtain ⟨k, cur, rfl, hk, hbk, hfr⟩ := hrel
        by_cases hlt : k < n
        · obtain ⟨hxk, hall⟩ := hbk (by omega)
          obtain ⟨rfl, hgl, _⟩ := HBX3.out (by omega)
          obtain ⟨x, hx⟩ := hall k hlt
          have HA := Lib.hid (rd_step hall hx)
          have q1 : wr.cell? ⟨go, k, none⟩ = some (.int .u8 (x.toNat : Int)) := (hxk.cell _).trans hx
          have f1 := hxk.frozen k
          have hw1 := wrap_up x
          have hx5 := hxk.set_ k (.int .u8 ((x + 1).toNat : Int))
          have hf5 := hfr.set_ (p := ⟨go, k, none⟩) rfl (.int .u8 ((x + 1).toNat : Int))
          clear hbk hall hx hxk hfr HRR 
          generalize cur.setIfInBounds k (.int .u8 ((x + 1).toNat : Int)) = cu2 at *
          generalize (x + 1).toNat = y at *
          generalize x.toNat = z at *
          go_wp2
          go_roundw
          case rel => exact ⟨k + 1, cu2, by go_num, by omega, fun _ => ⟨hx5, HA.out⟩, hf5⟩
          case measure => simp [intOf]; omega
        · obtain rfl : k = n := by omega
          have hB5 : Below w.heap.size w wr := hB3.trans (hfr.below hB3.size (fun b hb => by have : b = go := hb; omega))
          clear HBX3 hbk hfr
          go_wp2_with fail
          with_reducible refine (HRR.out wr hB5).mono ?_
          rintro e w6 (⟨l6, A6, c6, hrd6, _⟩ | ⟨hrd6, rfl, hb6⟩)
          · rw [HRD.out] at hrd6
            cases hrd6
          · have hB6 := hB5.trans (hb6.mono hB5.size)
            have HSA : Hid (Calls Try.prog 17 #[.slice none 0 0, .slice none 0 0] w6 (Val (.bool true) w6)) := same_all (fun _ => False) (fun _ => False) none none [] [] 0 0 w6 Recs.nil_ Recs.nil_ (by simp) (by simp)
            clear HRR
            go_wp2_with fail
            with_reducible refine HSA.out.mono ?_
            rintro e w7 ⟨rfl, hb7⟩
            have hB7 := hB6.trans (hb7.mono hB6.size)
            go_wp2
            go_ret
            exact ⟨rfl, hB7⟩
end Go.Proofs.Ythgoapcafjijfaa.Pg
