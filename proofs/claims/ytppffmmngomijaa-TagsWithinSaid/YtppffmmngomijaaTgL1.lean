/-
  What the laws say with: small, fair; the document's Same and Cells at equal things.
-/
import Derived.Test.YtppffmmngomijaaTgW3
namespace Go.Proofs.Ytppffmmngomijaa.Tg
open Go.RowKit Lx

/-- A yes says this. -/
def Tells (P : Prop) (w : World) (e : Ending) (w' : World) : Prop := ∃ b, e = .returned (.bool b) ∧ (b = true → P) ∧ Below w.heap.size w w'
theorem tells_no {P : Prop} {w w' : World} (h : Below w.heap.size w w') : Tells P w (.returned (.bool false)) w' := ⟨false, rfl, fun h => absurd h (by simp), h⟩
theorem tells_yes {P : Prop} {w w' : World} (hP : P) (h : Below w.heap.size w w') : Tells P w (.returned (.bool true)) w' := ⟨true, rfl, fun _ => hP, h⟩
def SmallP (l : List Tg) : Prop := l.length ≤ 100 ∧ ∀ t ∈ l, t.nm.size ≤ 200
def FairP (im : Im) (cs : List Cl) : Prop := im.v.length ≤ 1000 ∧ im.bad.length ≤ 1000 ∧ cs.length ≤ 1000 ∧ ∀ c ∈ cs, c.1.size ≤ 200

set_option maxRecDepth 100000 in
set_option maxHeartbeats 1000000 in
theorem small_any (l : List Tg) (a : Option Addr) (cap : Nat) (w : World) (hT : Tags w a l) :
    Calls Try.prog 10 #[.slice a l.length cap] w (Tells (SmallP l) w) := by
  have HP : Hid (SmallP l = (l.length ≤ 100 ∧ ∀ t ∈ l, t.nm.size ≤ 200)) := rfl
  generalize SmallP l = Pp at *
  have HT := Lib.hid hT
  clear hT
  generalize hL : l.length = len at *
  have HL := Lib.hid hL
  clear hL
  by_cases h1 : 100 < len
  · go_enter Try.func10, Try.ntmps10
    go_wp2
    go_ret
    exact tells_no (Below.refl _ _)
  · have h1' : len ≤ 100 := by omega
    have hl : len ≤ 1000000 := by omega
    clear h1
    go_enter Try.func10, Try.ntmps10
    go_wp2
    go_loop [3] (fun i => ∃ k : Nat, k ≤ len ∧ i = .int .i64 k ∧ Hid (∀ j (hj : j < l.length), j < k → l[j].nm.size ≤ 200)) (fun i => len - (intOf i).toNat)
    case atStart => exact ⟨0, by omega, rfl, fun j _ hj => absurd hj (by omega)⟩
    case round =>
      obtain ⟨k, hkl, rfl, HS⟩ := hrel
      by_cases hlt : k < len
      · have hki : k < l.length := by rw [HL.out]; exact hlt
        obtain ⟨g, off, rfl, hg, c0, -, -, -⟩ := Tags.at4 HT.out hki
        by_cases hb : 200 < l[k].nm.size
        · generalize l[k] = t at *
          go_wp2
          go_ret
          exact tells_no (Below.refl _ _)
        · have HS2 : Hid (∀ j (hj : j < l.length), j < k + 1 → l[j].nm.size ≤ 200) := by
            intro j hj hjk
            by_cases hq : j = k
            · subst hq; omega
            · exact HS.out j hj (by omega)
          generalize l[k] = t at *
          have hb' : t.nm.size ≤ 200 := by omega
          go_wp2
          go_round
          case rel => exact ⟨k + 1, by omega, by go_num, HS2⟩
          case measure => simp [intOf]; omega
      · go_wp2
        go_ret
        refine tells_yes (HP.out ▸ ⟨h1', fun t ht => ?_⟩) (Below.refl _ _)
        obtain ⟨j, hj, rfl⟩ := List.getElem_of_mem ht
        exact HS.out j hj (by have := HL.out; omega)

set_option maxRecDepth 100000 in
set_option maxHeartbeats 1000000 in
theorem fair_any (im : Im) (cs : List Cl) (A B ca : Option Addr) (c d ccap : Nat) (w : World) (hC : Cells w ca cs) :
    Calls Try.prog 18 #[.agg #[.slice A im.v.length c, .slice B im.bad.length d], .slice ca cs.length ccap] w (Tells (FairP im cs) w) := by
  have HP : Hid (FairP im cs = (im.v.length ≤ 1000 ∧ im.bad.length ≤ 1000 ∧ cs.length ≤ 1000 ∧ ∀ c ∈ cs, c.1.size ≤ 200)) := rfl
  generalize FairP im cs = Pp at *
  have HT := Lib.hid hC
  clear hC
  generalize hL : cs.length = len at *
  have HL := Lib.hid hL
  clear hL
  generalize im.v.length = n at *
  generalize im.bad.length = m at *
  by_cases h1 : 1000 < n
  · go_enter Try.func18, Try.ntmps18
    go_wp2
    go_ret
    exact tells_no ((Below.refl _ w).alloc (Nat.le_refl _) _)
  by_cases h2 : 1000 < m
  · go_enter Try.func18, Try.ntmps18
    go_wp2
    go_ret
    exact tells_no ((Below.refl _ w).alloc (Nat.le_refl _) _)
  by_cases h3 : 1000 < len
  · go_enter Try.func18, Try.ntmps18
    go_wp2
    go_ret
    exact tells_no ((Below.refl _ w).alloc (Nat.le_refl _) _)
  have k1 : n ≤ 1000 := by omega
  have k2 : m ≤ 1000 := by omega
  have k3 : len ≤ 1000 := by omega
  clear h1 h2 h3
  go_enter Try.func18, Try.ntmps18
  go_wp2
  go_loop [5] (fun i => ∃ k : Nat, k ≤ len ∧ i = .int .i64 k ∧ Hid (∀ j (hj : j < cs.length), j < k → cs[j].1.size ≤ 200)) (fun i => len - (intOf i).toNat)
  case atStart => exact ⟨0, by omega, rfl, fun j _ hj => absurd hj (by omega)⟩
  case round =>
    obtain ⟨k, hkl, rfl, HS⟩ := hrel
    by_cases hlt : k < len
    · have hki : k < cs.length := by rw [HL.out]; exact hlt
      obtain ⟨g, off, rfl, hg, c0, -⟩ := Cells.at2 (RowF.alloc HT.out (.cells #[.slice A n c, .slice B m d] 28)) hki
      by_cases hb : 200 < cs[k].1.size
      · generalize cs[k] = t at *
        go_wp2
        go_ret
        exact tells_no ((Below.refl _ w).alloc (Nat.le_refl _) _)
      · have HS2 : Hid (∀ j (hj : j < cs.length), j < k + 1 → cs[j].1.size ≤ 200) := by
          intro j hj hjk
          by_cases hq : j = k
          · subst hq; omega
          · exact HS.out j hj (by omega)
        generalize cs[k] = t at *
        have hb' : t.1.size ≤ 200 := by omega
        go_wp2
        go_round
        case rel => exact ⟨k + 1, by omega, by go_num, HS2⟩
        case measure => simp [intOf]; omega
    · go_wp2
      go_ret
      refine tells_yes (HP.out ▸ ⟨k1, k2, k3, fun t ht => ?_⟩) ((Below.refl _ w).alloc (Nat.le_refl _) _)
      obtain ⟨j, hj, rfl⟩ := List.getElem_of_mem ht
      exact HS.out j hj (by have := HL.out; omega)

set_option maxRecDepth 100000 in
set_option maxHeartbeats 4000000 in
theorem same_true (im : Im) (A B A2 B2 : Option Addr) (c d c2 d2 : Nat) (w : World) (hn : im.v.length ≤ 1000000) (hm : im.bad.length ≤ 1000000) (hV : Nums w A im.v) (hB : Flags w B im.bad) (hV2 : Nums w A2 im.v) (hB2 : Flags w B2 im.bad) :
    Calls Try.prog 13 #[.agg #[.slice A im.v.length c, .slice B im.bad.length d], .agg #[.slice A2 im.v.length c2, .slice B2 im.bad.length d2]] w fun e w' => e = .returned (.bool true) ∧ Below w.heap.size w w' := by
  have HV := Lib.hid hV
  have HB := Lib.hid hB
  have HV2 := Lib.hid hV2
  have HB2 := Lib.hid hB2
  clear hV hB hV2 hB2
  generalize hn1 : im.v.length = n at *
  have HN := Lib.hid hn1
  clear hn1
  generalize hm1 : im.bad.length = m at *
  have HM := Lib.hid hm1
  clear hm1
  have hw : Below w.heap.size w ((w.alloc (.cells #[.slice A n c, .slice B m d] 28)).alloc (.cells #[.slice A2 n c2, .slice B2 m d2] 28)) := ((Below.refl _ w).alloc (Nat.le_refl _) _).alloc (by simp) _
  have hx := (Box.new w 28 #[.slice A n c, .slice B m d]).alloc (.cells #[.slice A2 n c2, .slice B2 m d2] 28)
  have hy := box_at (w := w.alloc (.cells #[.slice A n c, .slice B m d] 28)) (N := w.heap.size + 1) (t := 28) (cs := #[.slice A2 n c2, .slice B2 m d2]) (by simp)
  go_enter Try.func13, Try.ntmps13
  go_wp2_with fail
  go_loopw [5] (fun i wr => ∃ k : Nat, k ≤ n ∧ i = .int .i64 k ∧ Hid (Box wr w.heap.size 28 #[.slice A n c, .slice B m d]) ∧ Hid (Box wr (w.heap.size + 1) 28 #[.slice A2 n c2, .slice B2 m d2]) ∧ Below w.heap.size w wr) (fun i _ => n - (intOf i).toNat)
  case atStart => exact ⟨0, by omega, rfl, hx, hy, hw⟩
  case round =>
    obtain ⟨k, hkl, rfl, HX, HY, hbr⟩ := hrel
    have a0 := HX.out.cell 0
    have a1 := HX.out.cell 1
    have b0 := HY.out.cell 0
    have b1 := HY.out.cell 1
    simp at a0 a1 b0 b1
    by_cases hlt : k < n
    · have hki : k < im.v.length := by rw [HN.out]; exact hlt
      obtain ⟨g, off, rfl, hg, c0⟩ := Nums.at1 (RowF.below HV.out hbr) hki
      obtain ⟨g2, off2, rfl, hg2, c1⟩ := Nums.at1 (RowF.below HV2.out hbr) hki
      generalize im.v[k] = x at *
      go_wp2_with fail
      go_quiet (fail)
      go_wp2_with fail
      go_roundw
      case rel => exact ⟨k + 1, by omega, by go_num, HX.out.drewN _, HY.out.drewN _, below_drewN hbr _⟩
      case measure => simp [intOf]; omega
    · go_wp2_with fail
      go_loopw [6] (fun i wr => ∃ k : Nat, k ≤ m ∧ i = .int .i64 k ∧ Hid (Box wr w.heap.size 28 #[.slice A n c, .slice B m d]) ∧ Hid (Box wr (w.heap.size + 1) 28 #[.slice A2 n c2, .slice B2 m d2]) ∧ Below w.heap.size w wr) (fun i _ => m - (intOf i).toNat)
      case atStart => exact ⟨0, by omega, rfl, HX, HY, hbr⟩
      case round =>
        obtain ⟨k', hkl', rfl, HX', HY', hbr'⟩ := hrel
        have a0 := HX'.out.cell 0
        have a1 := HX'.out.cell 1
        have b0 := HY'.out.cell 0
        have b1 := HY'.out.cell 1
        simp at a0 a1 b0 b1
        by_cases hlt' : k' < m
        · have hki : k' < im.bad.length := by rw [HM.out]; exact hlt'
          obtain ⟨g, off, rfl, hg, c0⟩ := Flags.at1 (RowF.below HB.out hbr') hki
          obtain ⟨g2, off2, rfl, hg2, c1⟩ := Flags.at1 (RowF.below HB2.out hbr') hki
          generalize im.bad[k'] = x at *
          go_wp2_with fail
          go_quiet (fail)
          go_wp2_with fail
          go_roundw
          case rel => exact ⟨k' + 1, by omega, by go_num, HX'.out.drewN _, HY'.out.drewN _, below_drewN hbr' _⟩
          case measure => simp [intOf]; omega
        · go_wp2_with fail
          go_ret
          exact ⟨rfl, hbr'⟩
end Go.Proofs.Ytppffmmngomijaa.Tg
