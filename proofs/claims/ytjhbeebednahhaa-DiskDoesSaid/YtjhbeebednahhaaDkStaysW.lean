/-
  The walk of DiskStays.
-/
import Derived.Test.YtjhbeebednahhaaDkCutsW
namespace Go.Proofs.Ytjhbeebednahhaa.Dk
open Go.RowKit

set_option maxHeartbeats 400000 in
theorem first_all (A : Option Addr) (b : List UInt8) (c : Nat) (w : World) (hl : Lie w A b) : Calls Try.prog 21 #[.slice A b.length c] w (Same (.int .u8 ((b.headD 0).toNat : Int)) w) := by
  rcases b with _ | ⟨x, r⟩
  · go_enter Try.func21, Try.ntmps21
    go_wp2
    go_ret
    exact ⟨rfl, rfl⟩
  · obtain ⟨ad, rfl, _, hc⟩ := hl.at_ (k := 0) (by simp)
    rw [show ad.add 0 = ad by unfold Addr.add; simp] at hc
    simp only [List.getElem_cons_zero] at hc
    have hp : 0 < (x :: r).length := by simp
    have b1 : (((x :: r).length : Int) == 0) = false := beq_eq_false_iff_ne.2 (by simp; omega)
    have e : (x :: r).headD 0 = x := rfl
    rw [e]
    clear e hl
    generalize (x :: r).length = n at *
    have b2 : (n == 0) = false := beq_eq_false_iff_ne.2 (by omega)
    go_enter Try.func21, Try.ntmps21
    go_wp2
    go_ret
    exact ⟨rfl, rfl⟩

/-- The disk holds what was written last. -/
def Held (d : Dsk) (last : List UInt8) : Prop := d.L = last.map full ∧ last.length = 8 ∧ d.on = true ∧ i64 d.left
def StayRel (len g s q : Nat) (w : World) (i : Value) (wr : World) : Prop :=
  ∃ (k : Nat) (d : Dsk) (last : List UInt8), i = .int .i64 (k : Int) ∧ k ≤ len ∧ Dk wr g s d ∧ Held d last ∧ 0 ≤ d.wr ∧ d.wr ≤ k ∧ Box wr q 48 (u8C last).toArray ∧ Below w.heap.size w wr
def SeenRel (d : Dsk) (last : List UInt8) (g s q : Nat) (w : World) (i : Value) (wr : World) : Prop :=
  ∃ (k : Nat), i = .int .i64 (k : Int) ∧ k ≤ 8 ∧ Dk wr g s d ∧ Box wr q 48 (u8C last).toArray ∧ Below w.heap.size w wr

theorem Held.cut {d : Dsk} {last : List UInt8} (h : Held d last) {n : Int} (hn : i64 n) : Held (d.cut n) last := by
  refine ⟨h.1, h.2.1, h.2.2.1, ?_⟩
  unfold Dsk.cut i64 at *
  simp only
  split <;> omega
theorem Held.put {d : Dsk} {last : List UInt8} (h : Held d last) (k : Nat) (x : UInt8) : Held (d.put k (full x)) (last.set k x) := by
  refine ⟨by simp only [Dsk.put, h.1, List.map_set], by simp [h.2.1], h.2.2.1, ?_⟩
  have := h.2.2.2
  unfold Dsk.put less i64 at *
  simp only
  split <;> omega
theorem Held.again {d : Dsk} {last : List UInt8} (h : Held d last) : Held d.off.up last := ⟨h.1, h.2.1, rfl, by show i64 (-1); unfold i64; omega⟩
theorem Held.up {d : Dsk} {last : List UInt8} (h : Held d last) : Held d.up last := ⟨h.1, h.2.1, rfl, by show i64 (-1); unfold i64; omega⟩

set_option maxRecDepth 100000 in
set_option maxHeartbeats 8000000 in
theorem stays_short (A : Option Addr) (l : List Op) (c : Nat) (w : World) (hl : Ops w A l) (h2 : l.length ≤ 100) :
    Calls Try.prog 5 #[.slice A l.length c] w (TruePost w) := by
  have g1 : decide ((100 : Int) < (l.length : Int)) = false := by simp; omega
  go_enter Try.func5, Try.ntmps5
  go_wp2_with fail
  refine (awake_all w).mono ?_
  rintro e w1 ⟨rfl, hb1⟩
  go_wp2_with fail
  refine (new_ok 8 w1 (by omega) (by omega)).mono ?_
  rintro e w2 ⟨g, s, rfl, hg, hs, h2', hb2⟩
  have hc2 := hb1.trans (hb2.mono hb1.size)
  have hg' : w.heap.size ≤ g := Nat.le_trans hb1.size hg
  have hs' : w.heap.size ≤ s := Nat.le_trans hb1.size hs
  have hq' : w.heap.size ≤ w2.heap.size := hc2.size
  have hq : w2.heap.size ≠ g ∧ w2.heap.size ≠ s := by have := h2'.lt; omega
  have hc3 := hc2.alloc hc2.size (.cells (u8C (List.replicate 8 0)).toArray 48)
  have hx3 := Box.new w2 48 (u8C (List.replicate 8 0)).toArray
  have h3 := h2'.below ((Below.refl _ w2).alloc (Nat.le_refl _) (.cells (u8C (List.replicate 8 0)).toArray 48))
  clear hb1 hb2 hg hs h2' hc2
  go_wp2_with fail
  clear g1
  generalize w2.heap.size = q at *
  go_loopw [7] (StayRel l.length g s q w) (fun i _ => l.length - (intOf i).toNat)
  case atStart =>
    exact ⟨0, new 8, List.replicate 8 0, rfl, by omega, h3, ⟨by unfold new; simp only [List.map_replicate], by simp, rfl, by show i64 (-1); unfold i64; omega⟩, by show (0 : Int) ≤ 0; omega, by show (0 : Int) ≤ 0; omega, hx3, hc3⟩
  case round =>
    obtain ⟨k, d, last, rfl, hk, hD, hh, hd0, hdk, hx, hbw⟩ := hrel
    clear h3 hc3 hx3
    by_cases hlt : k < l.length
    · obtain ⟨ad, rfl, hab, hat0, hrt0⟩ := hl.at_ hlt
      have HC : Hid (∀ w', Below w.heap.size w w' → OpAt w' ad k l[k] ∧ l[k].Right w') := fun w' hb => by
        obtain ⟨ad', e, _, h1, h2⟩ := (hl.below hb).at_ hlt
        injection e with e
        subst e
        exact ⟨h1, h2⟩
      obtain ⟨hat, hright⟩ := HC.out _ hbw
      obtain ⟨i0, i1, i2⟩ := hat.cells
      have hlD := hD.lt
      clear hat0 hrt0 hat
      generalize l[k] = x at *
      obtain ⟨xk, xa, xA, xb, xc⟩ := x
      obtain ⟨_, r2, _, _, r5⟩ := hright
      simp only at i0 i1 i2 r2 r5
      by_cases hk2 : xk = 2
      · subst hk2
        go_wp2_with fail
        refine (cut_all xa hD).mono ?_
        rintro e w4 ⟨rfl, h4, f4⟩
        have hx4 := hx.fr f4 (fun h => by rcases h with h | h <;> omega)
        have hc4 := hbw.trans (f4.below hbw.size (fun b hb => by rcases hb with rfl | rfl <;> omega))
        have hh4 := hh.cut r2
        clear hD hh hx hbw f4 i0 i1 i2 HC
        go_wp2
        go_roundw
        case rel => exact ⟨k + 1, _, _, by go_num, by omega, h4, hh4, hd0, by show d.wr ≤ _; omega, hx4, hc4⟩
        case measure => simp [intOf]; omega
      · have hk2' : (xk == 2) = false := beq_eq_false_iff_ne.2 hk2
        have HF : Hid (∀ w, Calls Try.prog 13 #[.int .u8 ((xb.headD 0).toNat : Int)] w (FullP (full (xb.headD 0)) w)) := fun w => full_l _ _ _ w rfl rfl
        have HFst := Lib.hid (first_all xA xb xc wr r5)
        generalize xb.headD 0 = y at *
        have LF := Lib.hid (full_len y)
        have HH := Lib.hid hh
        have HI := Lib.hid hh.2.2.2
        have HO := Lib.hid hh.2.2.1
        have HL : Hid (d.L.length = 8) := by unfold Hid; rw [hh.1, List.length_map, hh.2.1]
        have HWI : Hid (0 ≤ d.wr ∧ d.wr ≤ 1000000000) := ⟨hd0, by omega⟩
        clear hh
        go_wp2_with fail
        refine HFst.out.mono ?_
        rintro e w' ⟨rfl, rfl⟩
        clear HFst
        go_wp2_with fail
        go_region_held (fun w' => w'.cell? ⟨(ad.add (k * 3)).block, (ad.add (k * 3)).off + 1, none⟩ = some (.int .i64 xa)) (first | exact i1 | exact j1 | exact m1 | assumption)
          (first | (go_at_call 13; (with_reducible refine (HF.out _).mono ?_); rintro e w4 ⟨g4, rfl, hg4, hx4, hb4⟩; have h4 := hD.drew_.below hb4; have hc4 := hbw.drew.trans (hb4.mono (by exact hbw.size)); obtain ⟨j0, j1, j2⟩ := (HC.out _ hc4).1.cells; have hn4 : g4 ≠ g := (by have : wr.heap.size ≤ g4 := hg4; omega); have hn5 : g4 ≠ s := (by have : wr.heap.size ≤ g4 := hg4; omega); have hy4 := hx.drew.below hb4 hx.lt) | (go_at_call 12; (with_reducible refine (write_box xa g4 _ (full y) 256 h4 HI.out HWI.out hx4 LF.out hn4 hn5).mono ?_); rintro e w5 ⟨rfl, h5, f5⟩; have hc5 := hc4.trans (f5.below hc4.size (fun b hb => by rcases hb with rfl | rfl <;> omega)); obtain ⟨m0, m1, m2⟩ := (HC.out _ hc5).1.cells; have hy5 := hy4.fr f5 (fun h => by rcases h with h | h <;> omega)))
        have hcs := write_cases d xa (full y) LF.out
        clear HF HC HWI h4 hc4 hx4 hD hbw i0 i1 i2 j0 j1 j2 hy4 f5 hx
        rcases hcs with ⟨he, hw, ho⟩ | ⟨he, hw, ho, hbad⟩ | ⟨he, hw, ho0, hbad, hz⟩ | ⟨he, hw, ho0, hbad, hz⟩
        · rw [HO.out] at ho
          cases ho
        · rw [he]
          rw [hw] at h5
          clear he hw hbad ho
          go_wp2
          go_roundw
          case rel => exact ⟨k + 1, _, _, by go_num, by omega, h5, HH.out, hd0, by omega, hy5, hc5⟩
          case measure => simp [intOf]; omega
        · rw [he]
          rw [hw] at h5
          clear he hw hbad hz ho0
          go_wp2_with fail
          refine (up_all h5).mono ?_
          rintro e w6 ⟨rfl, h6, f6⟩
          have hl5 := h5.lt
          have hy6 := hy5.fr f6 (fun h => by rcases h with h | h <;> omega)
          have hc6 := hc5.trans (f6.below hc5.size (fun b hb => by rcases hb with rfl | rfl <;> omega))
          clear hy5 hc5 f6 h5 m0 m1 m2
          go_wp2
          go_roundw
          case rel => exact ⟨k + 1, _, _, by go_num, by omega, h6, HH.out.again, hd0, by show d.wr ≤ _; omega, hy6, hc6⟩
          case measure => simp [intOf]; omega
        · rw [he]
          rw [hw] at h5
          obtain ⟨j, rfl, hj⟩ : ∃ j : Nat, xa = (j : Int) ∧ j < 8 := by
            have := HL.out
            unfold Dsk.Bad at hbad
            exact ⟨xa.toNat, by omega, by omega⟩
          rw [Int.toNat_natCast] at h5
          have hll : last.length = 8 := HH.out.2.1
          have hj' : j < last.length := by omega
          have hc : w5.cell? ⟨q, j, none⟩ = some (.int .u8 (last[j].toNat : Int)) := by
            rw [hy5.cell j]
            simp [u8C, List.getElem?_eq_getElem hj']
          have hf := hy5.frozen j
          have hy6 := hy5.set_ j (.int .u8 (y.toNat : Int))
          rw [u8C_set] at hy6
          have hc6 := hc5.setCell (p := ⟨q, j, none⟩) hq' (.int .u8 (y.toNat : Int))
          have h6 := h5.fr ((Fr.refl (fun b => b = q) w5).set_ (p := ⟨q, j, none⟩) rfl (.int .u8 (y.toNat : Int))) (fun h => hq.1 h.symm) (fun h => hq.2 h.symm)
          have b1 : decide ((j : Int) < 0) = false := by simp
          have b2 : decide ((7 : Int) < (j : Int)) = false := by simp; omega
          have b3 : (0 : Int) ≤ (j : Int) := by omega
          have b4 : (j : Int) < 8 := by omega
          clear he hw hbad hz ho0 hll
          go_wp2
          go_roundw
          case rel => exact ⟨k + 1, _, _, by go_num, by omega, h6, HH.out.put j y, by show 0 ≤ d.wr + 1; omega, by show d.wr + 1 ≤ _; omega, hy6, hc6⟩
          case measure => simp [intOf]; omega
    · have hlD := hD.lt
      go_wp2_with fail
      refine (up_all hD).mono ?_
      rintro e w4 ⟨rfl, h4, f4⟩
      have hx4 := hx.fr f4 (fun h => by rcases h with h | h <;> omega)
      have hc4 := hbw.trans (f4.below hbw.size (fun b hb => by rcases hb with rfl | rfl <;> omega))
      have HH := Lib.hid hh.up
      clear hD hh hx hbw f4 hd0 hdk
      go_wp2_with fail
      go_loopw [10] (SeenRel d.up last g s q w) (fun i _ => 8 - (intOf i).toNat)
      case atStart => exact ⟨0, rfl, by omega, h4, hx4, hc4⟩
      case round =>
        obtain ⟨j, rfl, hj, hD, hx, hbw⟩ := hrel
        clear h4 hx4 hc4
        by_cases hj8 : j < 8
        · have hll := HH.out.2.1
          have hj' : j < last.length := by omega
          have hLj : d.up.L[j]? = some (full last[j]) := by rw [HH.out.1, List.getElem?_map, List.getElem?_eq_getElem hj']; rfl
          have hlc : wr.cell? ⟨q, j, none⟩ = some (.int .u8 (last[j].toNat : Int)) := by
            rw [hx.cell j]
            simp [u8C, List.getElem?_eq_getElem hj']
          have HLj := Lib.hid hLj
          clear hll hLj
          have HF : Hid (∀ w, Calls Try.prog 13 #[.int .u8 (last[j].toNat : Int)] w (FullP (full last[j]) w)) := fun w => full_l _ _ _ w rfl rfl
          have LF := Lib.hid (full_len last[j])
          go_wp2_with fail
          refine (read_at (j : Int) j _ hD rfl rfl HLj.out).mono ?_
          rintro e w5 ⟨g5, rfl, hg5, hx5, hb5⟩
          have h5 := hD.below hb5
          have hy5 := hx.below hb5 hx.lt
          have hc5 := hbw.trans (hb5.mono hbw.size)
          have c5 : w5.cell? ⟨q, j, none⟩ = some (.int .u8 (last[j].toNat : Int)) := (hb5.cell (p := ⟨q, j, none⟩) hx.lt).trans hlc
          clear hD hx hbw hb5 hlc HLj
          generalize full last[j] = F at *
          generalize last[j] = z at *
          have cv5 := conv_box 256 hx5.drew LF.out
          have b3 : (0 : Int) ≤ (j : Int) := by omega
          have b4 : (j : Int) < 8 := by omega
          go_wp2_with fail
          go_region_held (fun w' => (convert 31 9 (.slice (some ⟨g5, 0, none⟩) 256 256)).run Try.prog w' = .ok (.string ⟨F.toArray⟩) w' ∧ w'.cell? ⟨q, j, none⟩ = some (.int .u8 (z.toNat : Int))) (first | exact ⟨cv5, c5⟩ | exact ⟨cv6, c6⟩ | assumption)
            (first | (go_at_call 13; (with_reducible refine (HF.out _).mono ?_); rintro e w6 ⟨g6, rfl, hg6, hx6, hb6⟩; have cvA := conv_box 256 hx6 LF.out; have cv6 := conv_box 256 (hx5.drew.below hb6 hx5.lt) LF.out; have c6 := (hb6.cell (p := ⟨q, j, none⟩) hy5.lt).trans c5; have h6 := h5.drew_.below hb6; have hy6 := hy5.drew.below hb6 hy5.lt; have hc6 := hc5.drew.trans (hb6.mono (by exact hc5.size))))
          clear cv5 cv6 c5 c6 h5 hy5 hc5 hx5 hx6 HF
          go_wp2
          go_roundw
          case rel => exact ⟨j + 1, by go_num, by omega, h6, hy6, hc6⟩
          case measure => simp [intOf]; omega
        · go_wp2
          go_ret
          exact ⟨rfl, hbw⟩

theorem stays_walk (A : Option Addr) (l : List Op) (c : Nat) (w : World) (_hc : l.length ≤ c) (_hm : c ≤ maxLen) (hl : Ops w A l) :
    Calls Try.prog 5 #[.slice A l.length c] w (TruePost w) := by
  rcases Nat.lt_or_ge 100 l.length with h2 | h2
  · have g1 : decide ((100 : Int) < (l.length : Int)) = true := by simp; omega
    go_enter Try.func5, Try.ntmps5
    go_wp2_with fail
    refine (awake_all w).mono ?_
    rintro e w1 ⟨rfl, hb1⟩
    go_wp2_with fail
    refine (new_ok 8 w1 (by omega) (by omega)).mono ?_
    rintro e w2 ⟨g, s, rfl, hg, hs, h2', hb2⟩
    have hc2 := hb1.trans (hb2.mono hb1.size)
    go_wp2
    go_ret
    exact ⟨rfl, hc2⟩
  · exact stays_short A l c w hl h2
end Go.Proofs.Ytjhbeebednahhaa.Dk
