/-
  The contract of Run.
-/
import Derived.Test.YtohljihndoodfaaDoorRgWb
namespace Go.Proofs.YtohljihndoodfaaDoor.Rg
open Go.RowKit Lx Ep

theorem scan_drop {N : List Nm} {env : List (Nm × Int)} {s : Sc} {l : List Ru} {k : Nat} (h : k < l.length) : scanP N env s (l.take (k + 1)) = stepP N env (scanP N env s (l.take k)) l[k] := by
  unfold scanP
  rw [List.take_succ_eq_append_getElem h, List.foldl_append]
  rfl
/-- What a check without objection says of each rung. -/
theorem rung_ok {bits : List Nm} {tag phase : Nm → Bool} {r : Ru} (h : rungP bits tag phase r = 0) : 0 ≤ r.kd ∧ r.kd ≤ 4 ∧ r.code.length ≤ 12 ∧ codeGo bits tag 0 r.code = 0 := by
  unfold rungP at h
  split at h
  · cases h
  · rename_i h1
    split at h
    · cases h
    · split at h
      · cases h
      · rename_i h3
        exact ⟨by omega, by omega, by omega, h⟩
theorem check_12 {l : List Ru} {tag phase : Nm → Bool} (h : checkP l tag phase = 0) : l.length ≤ 12 ∧ ∀ r ∈ l, rungP (bitsP l) tag phase r = 0 := by
  unfold checkP at h
  split at h
  · cases h
  · exact ⟨by omega, firstE_ok h⟩
theorem bit_mem {l : List Ru} {r : Ru} (h : r ∈ l) (h0 : 0 ≤ r.kd) (h2 : r.kd ≤ 2) : r.nm ∈ bitsP l := by
  unfold bitsP
  rw [distP_mem]
  exact List.mem_map_of_mem (List.mem_filter.2 ⟨h, by simp [isBit]; omega⟩)
theorem apply_keeps {N : List Nm} {s : Sc} {r : Ru} {o : Bool} : (applyP N s r o).bits.length = s.bits.length ∧ (applyP N s r o).holds.length ≤ s.holds.length + 1 ∧ (applyP N s r o).bars.length ≤ s.bars.length + 1 ∧ (∀ x ∈ (applyP N s r o).holds, x ∈ s.holds ∨ x = r.nm) ∧ (∀ x ∈ (applyP N s r o).bars, x ∈ s.bars ∨ x = r.nm) := by
  unfold applyP
  split
  · simp; exact ⟨fun x h => .inl h, fun x h => .inl h⟩
  split
  · split <;> simp <;> exact ⟨fun x h => .inl h, fun x h => .inl h⟩
  split
  · split <;> simp <;> exact ⟨fun x h => .inl h, fun x h => .inl h⟩
  split
  · split <;> simp
    · exact ⟨fun x h => .inl h, fun x h => .inl h⟩
    · exact fun x h => .inl h
  · split <;> simp
    · exact ⟨fun x h => .inl h, fun x h => .inl h⟩
    · exact fun x h => .inl h
/-- What is known of a scan behind the first k rungs. -/
def ScI (N : List Nm) (l : List Ru) (k : Nat) (s : Sc) : Prop := s.bits.length = N.length ∧ s.holds.length ≤ k ∧ s.bars.length ≤ k ∧ (∀ x ∈ s.holds, ∃ r ∈ l, x = r.nm) ∧ (∀ x ∈ s.bars, ∃ r ∈ l, x = r.nm)
theorem ScI.next {N : List Nm} {l : List Ru} {k : Nat} {s : Sc} (h : ScI N l k s) {r : Ru} (hr : r ∈ l) (o : Bool) : ScI N l (k + 1) (applyP N s r o) := by
  obtain ⟨h1, h2, h3, h4, h5⟩ := h
  obtain ⟨a1, a2, a3, a4, a5⟩ := apply_keeps (N := N) (s := s) (r := r) (o := o)
  refine ⟨by omega, by omega, by omega, fun x hx => ?_, fun x hx => ?_⟩
  · rcases a4 x hx with h | h
    · exact h4 x h
    · exact ⟨r, hr, h⟩
  · rcases a5 x hx with h | h
    · exact h5 x h
    · exact ⟨r, hr, h⟩

/-- What Run leaves. -/
def RunPost (s : Sc) (w : World) (e : Ending) (w' : World) : Prop :=
  ∃ A1 c1 A2 c2 A3 c3, e = .returned (.tuple #[.slice A1 s.bits.length c1, .slice A2 s.holds.length c2, .slice A3 s.bars.length c3]) ∧ Bools w' A1 s.bits ∧ Strs w' A2 s.holds ∧ Strs w' A3 s.bars ∧ Below w.heap.size w w'
theorem run_none (w w' : World) (hb : Below w.heap.size w w') : RunPost ⟨[], [], []⟩ w (.returned (.tuple #[.slice none 0 0, .slice none 0 0, .slice none 0 0])) w' := ⟨none, 0, none, 0, none, 0, rfl, RowF.nil_, RowF.nil_, RowF.nil_, hb⟩
theorem known_yes (w : World) : Known w 31 #[] yes := .inl ⟨rfl, rfl, rfl⟩
def RnRel (N : List Nm) (l : List Ru) (env : List (Nm × Int)) (bits : List Bool) (len p : Nat) (NA : Option Addr) (nc : Nat) (EA : Option Addr) (en ec : Nat) (w2 : World) (i : Value) (wr : World) : Prop :=
  ∃ (k : Nat) (s : Sc), k ≤ len ∧ i = .int .i64 (k : Int) ∧ Hid (s = scanP N env ⟨bits, [], []⟩ (l.take k)) ∧ Hid (ScI N l k s) ∧ Hid (ScanS w2.heap.size p NA N.length nc EA en ec s wr) ∧ Hid (Below w2.heap.size w2 wr)

set_option maxRecDepth 100000 in
set_option maxHeartbeats 8000000 in
theorem Run_any (l : List Ru) (A : Option Addr) (cap : Nat) (bits : List Bool) (BA : Option Addr) (bc : Nat) (env : List (Nm × Int)) (EA : Option Addr) (en ec : Nat) (w : World) (hT : Tabs w) (hR : Rungs w A l) (hB : Bools w BA bits) (hE : EnvV w env (.slice EA en ec)) (hx : ∀ r ∈ l, r.nm.length ≤ maxLen) :
    Calls Tryd.prog 20 #[.slice A l.length cap, .slice BA bits.length bc, .slice EA en ec] w (RunPost (runP l bits env) w) := by
  have hCk := check_any l A cap _ _ _ _ yes yes w hT hR (known_yes w) (known_yes w) hx
  by_cases hck : checkP l yes yes = 0
  · obtain ⟨h12, hok⟩ := check_12 hck
    have hBt : ∀ wx, Below w.heap.size w wx → Calls Tryd.prog 12 #[.slice A l.length cap] wx (NamesPost (bitsP l) wx) := fun wx hb => Bits_any l A cap wx (hR.below hb) (by omega) hx
    rw [hck] at hCk
    have hbl := bitsP_len l
    by_cases hln : bits.length = (bitsP l).length
    · have hgo : goes l bits.length = true := by unfold goes; rw [hck, hln]; simp
      have HX : Hid (runP l bits env = ⟨(scanP (bitsP l) env ⟨bits, [], []⟩ l).bits, distP (scanP (bitsP l) env ⟨bits, [], []⟩ l).holds, distP (scanP (bitsP l) env ⟨bits, [], []⟩ l).bars⟩) := by unfold Hid runP; rw [if_pos hgo]
      have HMem : Hid (∀ r ∈ l, r.kd ≤ 2 → 0 ≤ r.kd → r.nm ∈ bitsP l) := fun r hr h2 h0 => bit_mem hr h0 h2
      generalize runP l bits env = X at *
      generalize hN : bitsP l = N at *
      have HOk := Lib.hid hok
      have HNx := Lib.hid hx
      clear hok hgo hck hN hx
      have HBg : Hid (∀ (NA : Option Addr) (nc : Nat) wx, Below w.heap.size w wx → Calls Tryd.prog 32 #[.slice NA N.length nc, .slice BA bits.length bc, .slice EA en ec] wx (BgPost NA N.length nc EA en ec bits wx)) := fun NA nc wx hb => begin_any NA BA EA N.length nc bc en ec bits wx (hB.below hb) (by omega)
      have HI : Hid (∀ x ∈ bits, True) := fun _ _ => trivial
      have HBl := Lib.hid hln
      have HT := Lib.hid hT
      have HR := Lib.hid hR
      have HE := Lib.hid hE
      clear hT hR hB hE HI
      generalize hL : l.length = len at *
      have HL := Lib.hid hL
      clear hL
      generalize hn : N.length = n at *
      have HN := Lib.hid hn
      clear hn
      generalize hbn : bits.length = bn at *
      have HBq := Lib.hid hbn
      clear hbn HBl
      subst hln
      go_enter Tryd.func20, Tryd.ntmps20
      go_wp2_with fail
      refine hCk.mono ?_
      rintro e w1 ⟨rfl, hb1⟩
      have hB1 := hBt w1 hb1
      clear hBt hCk
      go_wp2_with fail
      refine hB1.mono ?_
      rintro e w2 ⟨NA, nc, hv, hNr, hb2⟩
      rw [HN.out] at hv
      subst hv
      have hb02 := hb1.trans (hb2.mono hb1.size)
      have HNs := Lib.hid hNr.strs
      clear hb2 hNr hB1
      go_wp2_with fail
      refine (HBg.out NA nc w2 hb02).mono ?_
      rintro e w3 ⟨p, rfl, hs3, hb3⟩
      have HS3 := Lib.hid hs3
      clear hs3 HBg hb1
      go_wp2_with fail
      go_loopw [29] (RnRel N l env bits len p NA nc EA en ec w2) (fun i _ => len - (intOf i).toNat)
      case atStart => exact ⟨0, ⟨bits, [], []⟩, by omega, rfl, rfl, ⟨by rw [HBq.out, HN.out], by simp, by simp, by simp, by simp⟩, by unfold Hid; rw [HN.out]; exact HS3.out, hb3⟩
      case round =>
        obtain ⟨k, s, hkl, rfl, HSc, HSi, HSs, HBr⟩ := hrel
        have hbw : Below w.heap.size w _ := hb02.trans (HBr.out.mono hb02.size)
        rename World => wr
        by_cases hlt : k < len
        · have hki : k < l.length := by rw [HL.out]; exact hlt
          obtain ⟨g, off, rfl, hg, hCd, c0, c1, c2⟩ := Rungs.at3 (HR.out.below hbw) hki
          have HD := Lib.hid (scan_drop (N := N) (env := env) (s := ⟨bits, [], []⟩) hki)
          have hrl := List.getElem_mem hki
          have HOr := Lib.hid (HOk.out _ hrl)
          have HMr := Lib.hid (HMem.out _ hrl)
          have HNext := Lib.hid (fun o => HSi.out.next hrl o)
          generalize l[k] = r at *
          obtain ⟨hk0, hk4, hc12, hcg⟩ := rung_ok HOr.out
          have hklt : ((k : Nat) : Int) < (len : Int) := by omega
          generalize hw1 : wr.alloc (.cells #[.int .i64 r.kd, .string ⟨r.nm.toArray⟩, .slice r.ca r.code.length r.cc] 43) = w5
          have hr1 : Box w5 wr.heap.size 43 #[.int .i64 r.kd, .string ⟨r.nm.toArray⟩, .slice r.ca r.code.length r.cc] := by rw [← hw1]; exact Box.new _ _ _
          have hb5 : Below wr.heap.size wr w5 := by rw [← hw1]; exact (Below.refl _ wr).alloc (Nat.le_refl _) _
          have hd := below_drew (Below.refl w5.heap.size w5)
          have hb5d : Below wr.heap.size wr w5.drew := below_drew hb5
          have hbwd : Below w.heap.size w w5.drew := hbw.trans (hb5d.mono hbw.size)
          have hS5 := HSs.out.below hb5d
          have hOut : Calls Tryd.prog 34 #[.pointer (some ⟨p, 0, none⟩), .slice r.ca r.code.length r.cc] w5.drew (BoolPost (outP N s.bits env r.code) w5.drew) := by
            obtain ⟨BA', bc', HA', hc', PA', pc', hbx, hbb, -, -, -, -⟩ := hS5
            exact outcome_any p NA BA' EA HA' PA' nc bc' s.holds.length hc' s.bars.length pc' en ec N s.bits env yes r.code r.ca r.cc w5.drew (HT.out.below hbwd) hbx (HNs.out.below ((HBr.out.trans (hb5d.mono HBr.out.size)))) hbb.bools (HE.out.below hbwd (Nat.le_refl _)) (hCd.below hb5d) (by rw [HN.out]; omega) HSi.out.1 hcg (by omega)
          have hAp : ∀ o w6, Below w5.heap.size w5.drew w6 → Calls Tryd.prog 33 #[.pointer (some ⟨p, 0, none⟩), ruV r, .bool o] w6 (ApPost w2.heap.size p NA N.length nc EA en ec (applyP N s r o) w6) := fun o w6 hb6 =>
            apply_any o p NA EA nc en ec N s r w2.heap.size w6 (ScanS.below (w := w5.drew) hS5 hb6) (HNs.out.below ((HBr.out.trans (hb5d.mono HBr.out.size)).trans (hb6.mono (Nat.le_trans HBr.out.size hb5.size)))) (by rw [HN.out]; omega) HSi.out.1 (by have := HSi.out.2.1; omega) (by have := HSi.out.2.2.1; omega) (Nat.le_trans (Nat.le_trans HBr.out.size hb5.size) hb6.size) hk0 hk4 (fun h => HMr.out h hk0)
          unfold ruV at hAp
          have hOb : Below w2.heap.size w2 w5.drew := HBr.out.trans (hb5d.mono HBr.out.size)
          have HFin : Hid (∀ o w6 w7, Below w5.heap.size w5.drew w6 → o = outP N s.bits env r.code → ScanS w2.heap.size p NA N.length nc EA en ec (applyP N s r o) w7 → Below w2.heap.size w6 w7 → RnRel N l env bits len p NA nc EA en ec w2 (.int .i64 ((k + 1 : Nat) : Int)) w7) := fun o w6 w7 hb6 ho hs7 hb7 =>
            ⟨k + 1, applyP N s r o, by omega, rfl, by unfold Hid; rw [HD.out, ← HSc.out, ho]; rfl, HNext.out o, hs7, (hOb.trans (hb6.mono hOb.size)).trans hb7⟩
          have key : ∀ w6, Below w5.heap.size w5.drew w6 → w6.cell? ⟨wr.heap.size, 0, none⟩ = some (.int .i64 r.kd) ∧ w6.cell? ⟨wr.heap.size, 1, none⟩ = some (.string ⟨r.nm.toArray⟩) ∧ w6.cell? ⟨wr.heap.size, 2, none⟩ = some (.slice r.ca r.code.length r.cc) := fun w6 hb6 =>
            ⟨(Box.below (w := w5.drew) hr1 hb6 hr1.lt).cell 0, (Box.below (w := w5.drew) hr1 hb6 hr1.lt).cell 1, (Box.below (w := w5.drew) hr1 hb6 hr1.lt).cell 2⟩
          obtain ⟨r0, r1, r2⟩ := key w5.drew (Below.refl _ _)
          generalize outP N s.bits env r.code = ov at *
          generalize r.code.length = cl at *
          clear hCd HD hrl HOr HMr HNext HSc HSi HSs HBr hr1 hbwd hb5d hbw hcg hc12 hS5 hd hb5 HS3 HBq hOb
          go_wp2_with fail
          clear hw1
          refine region_start (S := fun w' => True) (n := 7) (lit := #[false, false, false, false, false, false, false]) rfl rfl (by kernel_rfl) trivial fun hS => ?_
          refine tk (i := 0) (v := ?vc0) rfl (by kernel_rfl) (by kernel_rfl) (by kernel_rfl) (fun _ _ _ h => h) (by kernel_rfl) ?hc0 hS ?_
          case hc0 => intro w hSw; (try dsimp only at hSw); go_simp; try with_reducible rfl
          try simp only [Act.put, List.setIfInBounds_toArray, List.set_cons_zero, List.set_cons_succ]
          refine tk (i := 2) (v := ?vc2) rfl (by kernel_rfl) (by kernel_rfl) (by kernel_rfl) (fun _ _ _ h => h) (by kernel_rfl) ?hc2 hS ?_
          case hc2 => intro w hSw; (try dsimp only at hSw); go_simp; try with_reducible rfl
          try simp only [Act.put, List.setIfInBounds_toArray, List.set_cons_zero, List.set_cons_succ]
          refine tk (i := 3) (v := ?vc3) rfl (by kernel_rfl) (by kernel_rfl) (by kernel_rfl) (fun _ _ _ h => h) (by kernel_rfl) ?hc3 hS ?_
          case hc3 => intro w hSw; (try dsimp only at hSw); go_simp; try with_reducible rfl
          try simp only [Act.put, List.setIfInBounds_toArray, List.set_cons_zero, List.set_cons_succ]
          refine wpAnyH_ready (rs := [1, 4]) (by kernel_rfl) (by simp) ?_
          refine AllReadyH.cons rfl (fun K hK => ?_) (AllReadyH.cons rfl (fun K hK => ?_) AllReadyH.nil)
          · go_simp
            refine hK.out _ _ trivial (fun _ => ?_)
            clear hK K
            try simp only [List.setIfInBounds_toArray, List.set_cons_zero, List.set_cons_succ]
            refine wpAnyH_ready (rs := [4]) (by kernel_rfl) (by simp) ?_
            refine AllReadyH.cons rfl (fun K hK => ?_) AllReadyH.nil
            go_simp
            refine hK.out _ _ trivial (fun _ => ?_)
            clear hK K
            try simp only [List.setIfInBounds_toArray, List.set_cons_zero, List.set_cons_succ]
            refine wpAnyH_ready (rs := [5]) (by kernel_rfl) (by simp) ?_
            refine AllReadyH.cons rfl (fun K hK => ?_) AllReadyH.nil
            go_simp
            go_at_call 34; refine hOut.mono ?_; rintro e w6 ⟨rfl, hb6⟩
            obtain ⟨s0, s1, s2⟩ := key w6 hb6
            refine hK.out _ _ trivial (fun _ => ?_)
            clear hK K
            try simp only [List.setIfInBounds_toArray, List.set_cons_zero, List.set_cons_succ]
            refine wpAnyH_ready (rs := [6]) (by kernel_rfl) (by simp) ?_
            refine AllReadyH.cons rfl (fun K hK => ?_) AllReadyH.nil
            go_simp
            go_at_call 33; refine (hAp ov w6 hb6).mono ?_; rintro e w7 ⟨rfl, hs7, hb7⟩
            refine hK.out _ _ trivial (fun _ => ?_)
            clear hK K
            refine wpAnyH_done (by kernel_rfl) ?_ _
            have HQ := Lib.hid (HFin.out ov w6 w7 hb6 rfl hs7 hb7)
            clear HFin hAp hOut hs7 hb7 hb6 key
            go_wp2_with fail
            go_roundw
            case rel => exact HQ.out
            case measure => simp [intOf]; omega
          · go_simp
            refine hK.out _ _ trivial (fun _ => ?_)
            clear hK K
            try simp only [List.setIfInBounds_toArray, List.set_cons_zero, List.set_cons_succ]
            refine wpAnyH_ready (rs := [1, 5]) (by kernel_rfl) (by simp) ?_
            refine AllReadyH.cons rfl (fun K hK => ?_) (AllReadyH.cons rfl (fun K hK => ?_) AllReadyH.nil)
            · go_simp
              refine hK.out _ _ trivial (fun _ => ?_)
              clear hK K
              try simp only [List.setIfInBounds_toArray, List.set_cons_zero, List.set_cons_succ]
              refine wpAnyH_ready (rs := [5]) (by kernel_rfl) (by simp) ?_
              refine AllReadyH.cons rfl (fun K hK => ?_) AllReadyH.nil
              go_simp
              go_at_call 34; refine hOut.mono ?_; rintro e w6 ⟨rfl, hb6⟩
              obtain ⟨s0, s1, s2⟩ := key w6 hb6
              refine hK.out _ _ trivial (fun _ => ?_)
              clear hK K
              try simp only [List.setIfInBounds_toArray, List.set_cons_zero, List.set_cons_succ]
              refine wpAnyH_ready (rs := [6]) (by kernel_rfl) (by simp) ?_
              refine AllReadyH.cons rfl (fun K hK => ?_) AllReadyH.nil
              go_simp
              go_at_call 33; refine (hAp ov w6 hb6).mono ?_; rintro e w7 ⟨rfl, hs7, hb7⟩
              refine hK.out _ _ trivial (fun _ => ?_)
              clear hK K
              refine wpAnyH_done (by kernel_rfl) ?_ _
              have HQ := Lib.hid (HFin.out ov w6 w7 hb6 rfl hs7 hb7)
              clear HFin hAp hOut hs7 hb7 hb6 key
              go_wp2_with fail
              go_roundw
              case rel => exact HQ.out
              case measure => simp [intOf]; omega
            · go_simp
              go_at_call 34; refine hOut.mono ?_; rintro e w6 ⟨rfl, hb6⟩
              obtain ⟨s0, s1, s2⟩ := key w6 hb6
              refine hK.out _ _ trivial (fun _ => ?_)
              clear hK K
              try simp only [List.setIfInBounds_toArray, List.set_cons_zero, List.set_cons_succ]
              refine wpAnyH_ready (rs := [1]) (by kernel_rfl) (by simp) ?_
              refine AllReadyH.cons rfl (fun K hK => ?_) AllReadyH.nil
              go_simp
              refine hK.out _ _ trivial (fun _ => ?_)
              clear hK K
              try simp only [List.setIfInBounds_toArray, List.set_cons_zero, List.set_cons_succ]
              refine wpAnyH_ready (rs := [6]) (by kernel_rfl) (by simp) ?_
              refine AllReadyH.cons rfl (fun K hK => ?_) AllReadyH.nil
              go_simp
              go_at_call 33; refine (hAp ov w6 hb6).mono ?_; rintro e w7 ⟨rfl, hs7, hb7⟩
              refine hK.out _ _ trivial (fun _ => ?_)
              clear hK K
              refine wpAnyH_done (by kernel_rfl) ?_ _
              have HQ := Lib.hid (HFin.out ov w6 w7 hb6 rfl hs7 hb7)
              clear HFin hAp hOut hs7 hb7 hb6 key
              go_wp2_with fail
              go_roundw
              case rel => exact HQ.out
              case measure => simp [intOf]; omega
        · have hk : k = len := by omega
          have e1 : l.take k = l := List.take_of_length_le (by rw [HL.out]; omega)
          rw [e1] at HSc
          rw [← HSc.out] at HX
          obtain ⟨BA', bc', HA', hc', PA', pc', hbx, hbb, hhr, hpr, -, -⟩ := HSs.out
          obtain ⟨hi1, hi2, hi3, hi4, hi5⟩ := HSi.out
          rw [HN.out] at hbx
          have hD1 : ∀ wx, Below wr.heap.size wr wx → Calls Tryd.prog 25 #[.slice HA' s.holds.length hc'] wx (NamesPost (distP s.holds) wx) := fun wx hb => distinct_any s.holds HA' hc' wx (hhr.strs.below hb) (by omega) (fun x hx => by obtain ⟨r, hr, rfl⟩ := hi4 x hx; exact HNx.out r hr)
          have hD2 : ∀ wx, Below wr.heap.size wr wx → Calls Tryd.prog 25 #[.slice PA' s.bars.length pc'] wx (NamesPost (distP s.bars) wx) := fun wx hb => distinct_any s.bars PA' pc' wx (hpr.strs.below hb) (by omega) (fun x hx => by obtain ⟨r, hr, rfl⟩ := hi5 x hx; exact HNx.out r hr)
          have HBs := Lib.hid hbb.bools
          have key : ∀ w', Below wr.heap.size wr w' → w'.cell? ⟨p, 1, none⟩ = some (.slice BA' s.bits.length bc') ∧ w'.cell? ⟨p, 3, none⟩ = some (.slice HA' s.holds.length hc') ∧ w'.cell? ⟨p, 4, none⟩ = some (.slice PA' s.bars.length pc') := fun w' hb => ⟨(hbx.below hb hbx.lt).cell 1, (hbx.below hb hbx.lt).cell 3, (hbx.below hb hbx.lt).cell 4⟩
          have hd := below_drew (Below.refl wr.heap.size wr)
          have cd := key _ hd
          have HFin : Hid (∀ A1 c1 A2 c2 w6 w7, Below wr.heap.size wr.drew w6 → RowN wr.drew.heap.size w6 A1 c1 (distP s.holds) → Below w6.heap.size w6 w7 → RowN w6.heap.size w7 A2 c2 (distP s.bars) → RunPost X w (.returned (.tuple #[.slice BA' s.bits.length bc', .slice A1 (distP s.holds).length c1, .slice A2 (distP s.bars).length c2])) w7) := by
            intro A1 c1 A2 c2 w6 w7 h6 hr1 h7 hr2
            have hb6 := hd.trans (h6.mono (Nat.le_refl _))
            have hb7 := hb6.trans (h7.mono hb6.size)
            rw [HX.out]
            exact ⟨BA', bc', A1, c1, A2, c2, rfl, HBs.out.below hb7, (hr1.below h7).strs, hr2.strs, hbw.trans (hb7.mono hbw.size)⟩
          generalize s.bits.length = q1 at *
          generalize hq2 : s.holds.length = q2 at *
          generalize hq3 : s.bars.length = q3 at *
          clear hbx hbb hhr hpr hi1 hi2 hi3 hi4 hi5 HBs HSs HSi HSc HX HBr HS3 HBq hq2 hq3 hbw e1 hk HOk HMem HNx
          go_wp2_with fail
          refine region_start (S := fun w' => w'.cell? ⟨p, 1, none⟩ = some (.slice BA' q1 bc') ∧ w'.cell? ⟨p, 3, none⟩ = some (.slice HA' q2 hc') ∧ w'.cell? ⟨p, 4, none⟩ = some (.slice PA' q3 pc')) (n := 17) (lit := #[false, false, false, false, false, false, false, false, false, false, false, false, false, false, false, false, false]) rfl rfl (by kernel_rfl) cd fun hS => ?_
          refine tk (i := 0) (v := ?ve0) rfl (by kernel_rfl) (by kernel_rfl) (by kernel_rfl) (fun _ _ _ h => h) (by kernel_rfl) ?he0 hS ?_
          case he0 => intro w hSw; (try dsimp only at hSw); go_simp; try with_reducible rfl
          try simp only [Act.put, List.setIfInBounds_toArray, List.set_cons_zero, List.set_cons_succ]
          refine tk (i := 1) (v := ?ve1) rfl (by kernel_rfl) (by kernel_rfl) (by kernel_rfl) (fun _ _ _ h => h) (by kernel_rfl) ?he1 hS ?_
          case he1 => intro w hSw; (try dsimp only at hSw); go_simp; try with_reducible rfl
          try simp only [Act.put, List.setIfInBounds_toArray, List.set_cons_zero, List.set_cons_succ]
          refine tk (i := 2) (v := ?ve2) rfl (by kernel_rfl) (by kernel_rfl) (by kernel_rfl) (fun _ _ _ h => h) (by kernel_rfl) ?he2 hS ?_
          case he2 => intro w hSw; (try dsimp only at hSw); go_simp; try with_reducible rfl
          try simp only [Act.put, List.setIfInBounds_toArray, List.set_cons_zero, List.set_cons_succ]
          refine tk (i := 3) (v := ?ve3) rfl (by kernel_rfl) (by kernel_rfl) (by kernel_rfl) (fun _ _ _ h => h) (by kernel_rfl) ?he3 hS ?_
          case he3 => intro w hSw; (try dsimp only at hSw); go_simp; try with_reducible rfl
          try simp only [Act.put, List.setIfInBounds_toArray, List.set_cons_zero, List.set_cons_succ]
          refine tk (i := 4) (v := ?ve4) rfl (by kernel_rfl) (by kernel_rfl) (by kernel_rfl) (fun _ _ _ h => h) (by kernel_rfl) ?he4 hS ?_
          case he4 => intro w hSw; (try dsimp only at hSw); go_simp; try with_reducible rfl
          try simp only [Act.put, List.setIfInBounds_toArray, List.set_cons_zero, List.set_cons_succ]
          refine tk (i := 5) (v := ?ve5) rfl (by kernel_rfl) (by kernel_rfl) (by kernel_rfl) (fun _ _ _ h => h) (by kernel_rfl) ?he5 hS ?_
          case he5 => intro w hSw; (try dsimp only at hSw); go_simp; try with_reducible rfl
          try simp only [Act.put, List.setIfInBounds_toArray, List.set_cons_zero, List.set_cons_succ]
          refine tk (i := 6) (v := ?ve6) rfl (by kernel_rfl) (by kernel_rfl) (by kernel_rfl) (fun _ _ _ h => h) (by kernel_rfl) ?he6 hS ?_
          case he6 => intro w hSw; (try dsimp only at hSw); go_simp; try with_reducible rfl
          try simp only [Act.put, List.setIfInBounds_toArray, List.set_cons_zero, List.set_cons_succ]
          refine tk (i := 7) (v := ?ve7) rfl (by kernel_rfl) (by kernel_rfl) (by kernel_rfl) (fun _ _ _ h => h) (by kernel_rfl) ?he7 hS ?_
          case he7 => intro w hSw; (try dsimp only at hSw); go_simp; try with_reducible rfl
          try simp only [Act.put, List.setIfInBounds_toArray, List.set_cons_zero, List.set_cons_succ]
          refine tk (i := 9) (v := ?ve9) rfl (by kernel_rfl) (by kernel_rfl) (by kernel_rfl) (fun _ _ _ h => h) (by kernel_rfl) ?he9 hS ?_
          case he9 => intro w hSw; (try dsimp only at hSw); go_simp; try with_reducible rfl
          try simp only [Act.put, List.setIfInBounds_toArray, List.set_cons_zero, List.set_cons_succ]
          refine tk (i := 10) (v := ?ve10) rfl (by kernel_rfl) (by kernel_rfl) (by kernel_rfl) (fun _ _ _ h => h) (by kernel_rfl) ?he10 hS ?_
          case he10 => intro w hSw; (try dsimp only at hSw); go_simp; try with_reducible rfl
          try simp only [Act.put, List.setIfInBounds_toArray, List.set_cons_zero, List.set_cons_succ]
          refine tk (i := 11) (v := ?ve11) rfl (by kernel_rfl) (by kernel_rfl) (by kernel_rfl) (fun _ _ _ h => h) (by kernel_rfl) ?he11 hS ?_
          case he11 => intro w hSw; (try dsimp only at hSw); go_simp; try with_reducible rfl
          try simp only [Act.put, List.setIfInBounds_toArray, List.set_cons_zero, List.set_cons_succ]
          refine tk (i := 12) (v := ?ve12) rfl (by kernel_rfl) (by kernel_rfl) (by kernel_rfl) (fun _ _ _ h => h) (by kernel_rfl) ?he12 hS ?_
          case he12 => intro w hSw; (try dsimp only at hSw); go_simp; try with_reducible rfl
          try simp only [Act.put, List.setIfInBounds_toArray, List.set_cons_zero, List.set_cons_succ]
          refine wpAnyH_ready (rs := [8]) (by kernel_rfl) (by simp) ?_
          refine AllReadyH.cons rfl (fun K hK => ?_) AllReadyH.nil
          go_simp
          go_at_call 25; refine (hD1 _ hd).mono ?_; rintro e w6 ⟨A1, c1, rfl, hr6, hb6⟩
          have h6 := hd.trans (hb6.mono hd.size)
          have k6 := key _ h6
          refine hK.out _ _ k6 (fun _ => ?_)
          clear hK K
          try simp only [List.setIfInBounds_toArray, List.set_cons_zero, List.set_cons_succ]
          refine wpAnyH_ready (rs := [13]) (by kernel_rfl) (by simp) ?_
          refine AllReadyH.cons rfl (fun K hK => ?_) AllReadyH.nil
          go_simp
          go_at_call 25; refine (hD2 _ h6).mono ?_; rintro e w7 ⟨A2, c2, rfl, hr7, hb7⟩
          have h7 := h6.trans (hb7.mono h6.size)
          have k7 := key _ h7
          refine hK.out _ _ k7 (fun _ => ?_)
          clear hK K
          try simp only [List.setIfInBounds_toArray, List.set_cons_zero, List.set_cons_succ]
          refine tk (i := 14) (v := ?ve14) rfl (by kernel_rfl) (by kernel_rfl) (by kernel_rfl) (fun _ _ _ h => h) (by kernel_rfl) ?he14 k7 ?_
          case he14 => intro w hSw; (try dsimp only at hSw); go_simp; try with_reducible rfl
          try simp only [Act.put, List.setIfInBounds_toArray, List.set_cons_zero, List.set_cons_succ]
          refine tk (i := 15) (v := ?ve15) rfl (by kernel_rfl) (by kernel_rfl) (by kernel_rfl) (fun _ _ _ h => h) (by kernel_rfl) ?he15 k7 ?_
          case he15 => intro w hSw; (try dsimp only at hSw); go_simp; try with_reducible rfl
          try simp only [Act.put, List.setIfInBounds_toArray, List.set_cons_zero, List.set_cons_succ]
          refine tk (i := 16) (v := ?ve16) rfl (by kernel_rfl) (by kernel_rfl) (by kernel_rfl) (fun _ _ _ h => h) (by kernel_rfl) ?he16 k7 ?_
          case he16 => intro w hSw; (try dsimp only at hSw); go_simp; try with_reducible rfl
          try simp only [Act.put, List.setIfInBounds_toArray, List.set_cons_zero, List.set_cons_succ]
          refine wpAnyH_done (by kernel_rfl) ?_ _
          have HQ := Lib.hid (HFin.out A1 c1 A2 c2 w6 w7 hb6 hr6 hb7 hr7)
          clear HFin hD1 hD2 hr6 hr7 hb6 hb7 h6 h7 k6 k7 key
          go_wp2
          exact bodyPost_ret (v := .tuple #[.slice BA' q1 bc', .slice A1 (distP s.holds).length c1, .slice A2 (distP s.bars).length c2]) (by simp [results, Tryd.results20, go_sem]) rfl HQ.out
    · have hX : runP l bits env = ⟨[], [], []⟩ := by
        unfold runP goes
        rw [decide_eq_false hln, Bool.and_false, if_neg (by simp)]
      rw [hX]
      generalize hnn : (bitsP l).length = n at *
      have HN := Lib.hid hnn
      clear hnn
      have hne : ((bits.length : Int) != (n : Int)) = true := by simp; omega
      generalize bits.length = bn at *
      generalize l.length = len at *
      clear hln hX hbl hok hT hR hB hE hx h12 hck
      go_enter Tryd.func20, Tryd.ntmps20
      go_wp2_with fail
      refine hCk.mono ?_
      rintro e w1 ⟨rfl, hb1⟩
      have hB1 := hBt w1 hb1
      clear hBt hCk
      go_wp2_with fail
      refine hB1.mono ?_
      rintro e w2 ⟨NA, nc, hv, -, hb2⟩
      rw [HN.out] at hv
      subst hv
      have hb02 := hb1.trans (hb2.mono hb1.size)
      clear hb2 hb1 hB1
      go_wp2
      exact bodyPost_ret (v := .tuple #[.slice none 0 0, .slice none 0 0, .slice none 0 0]) (by simp [results, Tryd.results20, go_sem]) rfl (run_none w w2 hb02)
  · have hX : runP l bits env = ⟨[], [], []⟩ := by
      unfold runP goes
      rw [decide_eq_false hck, Bool.false_and, if_neg (by simp)]
    rw [hX]
    have hne : (checkP l yes yes != 0) = true := by simpa using hck
    generalize checkP l yes yes = z at *
    clear hck hX
    generalize l.length = len at *
    generalize bits.length = bn at *
    go_enter Tryd.func20, Tryd.ntmps20
    go_wp2_with fail
    refine hCk.mono ?_
    rintro e w1 ⟨rfl, hb1⟩
    go_wp2
    exact bodyPost_ret (v := .tuple #[.slice none 0 0, .slice none 0 0, .slice none 0 0]) (by simp [results, Tryd.results20, go_sem]) rfl (run_none w w1 hb1)
end Go.Proofs.YtohljihndoodfaaDoor.Rg
