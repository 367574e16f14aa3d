/-
  The document's log: the contract of Behind.
-/
import Derived.Test.YtkklplccngdalaaWlR2
import Derived.Test.YtkklplccngdalaaWlW4
namespace Go.Proofs.Ytkklplccngdalaa.Dk
open Go.RowKit

def BehRel (g s : Nat) (M : List (List UInt8)) (l : List GI) (w : World) (i : Value) (wr : World) : Prop :=
  ∃ k : Nat, i = .int .i64 (k : Int) ∧ k ≤ l.length ∧ Md wr g s (behind M (l.take k)) ∧ Below w.heap.size w wr

set_option maxRecDepth 100000 in
set_option maxHeartbeats 2000000 in
theorem behind_all {w : World} {g s : Nat} {M : List (List UInt8)} (A : Option Addr) (l : List GI) (c : Nat) (X : Nat → Prop) (h : Md w g s M) (hG : Grp X w A l) (_hc : l.length ≤ c) (_hm : c ≤ maxLen) (hok : okG M.length l) (hM : M.length ≤ 2048) (hM1 : 1 ≤ M.length) :
    Calls Try.prog 18 #[.pointer (some ⟨g, 0, none⟩), .slice A l.length c] w (MdPost (behind M l) w) := by
  have hlen := okG_len hok
  obtain ⟨cap, hc1, hc2, m0⟩ := h.cells
  obtain ⟨s', c', w1, hr, hs1, hs2, hs3, hs4, hs5, hb1⟩ := run_append_txts (c := cap) h.2.2.2 hM1 hM
  have hx := Box.new w1 55 #[.slice (some ⟨s', 0, none⟩) M.length c']
  have hs6 := hs5.block (Below.heap_alloc w1 (.cells #[.slice (some ⟨s', 0, none⟩) M.length c'] 55) s' hs2)
  have hB2 := hb1.alloc hb1.size (.cells #[.slice (some ⟨s', 0, none⟩) M.length c'] 55)
  have hMd : Md (w1.alloc (.cells #[.slice (some ⟨s', 0, none⟩) M.length c'] 55)) w1.heap.size s' M := ⟨⟨c', hx, hs3, hs4⟩, by omega, by simp; omega, hs6⟩
  have hsz1 := hb1.size
  have HM := Lib.hid hMd
  have HB := Lib.hid hB2
  clear hx hs6 hB2 hMd hs5 hb1 h
  go_enter Try.func18, Try.ntmps18
  go_wp2_with (first | (at_builtin; refine wpList_append_run rfl _ _ _ _ rfl rfl rfl hr ?_) | fail)
  clear hr
  go_loopw [6] (BehRel w1.heap.size s' M l w) (fun i _ => l.length - (intOf i).toNat)
  case atStart => exact ⟨0, rfl, by omega, HM.out, HB.out⟩
  case round =>
    clear HM HB
    obtain ⟨k, rfl, hk, hMd, hnx⟩ := hrel
    by_cases hlt : k < l.length
    · obtain ⟨ad, B, c2, rfl, hlt2, g1, g2, g3, g4, g5, g6⟩ := (hG.below hnx).at_ hlt
      have hxk := hok.1 _ (List.getElem_mem hlt)
      have hbl := behind_len (l.take k) M
      have hbs := behind_snoc M (l.take k) l[k]
      rw [← take_snoc hlt] at hbs
      obtain ⟨cap2, hd1, hd2, m1⟩ := hMd.cells
      rw [hbl] at hd1 m1
      have hx0 := hxk.1
      have hx1 := hxk.2.1
      have hx2 := hxk.2.2
      have hN : l[k].1.toNat < M.length := by omega
      have hcv := conv_lie c2 g5.lie
      have e1 : l[k].1 = ((l[k].1.toNat : Nat) : Int) := by omega
      rw [e1] at g1
      rw [hx2] at g2 hcv
      clear e1 hx0 hx1 hxk g3 g6
      have HLI := Lib.hid g5
      have hg5 := g5
      generalize l[k].1.toNat = N at *
      generalize l[k].2 = X2 at *
      have t0 : ∃ v, wr.cell? ⟨s', N, none⟩ = some v := ⟨_, (hMd.2.2.2 N (by rw [hbl]; exact hN)).1⟩
      obtain ⟨tv, t0⟩ := t0
      have t1 := (hMd.2.2.2 N (by rw [hbl]; exact hN)).2
      obtain ⟨hMn, fMn⟩ := hMd.drew_.txt_ N X2
      have hgs := hMd.2.1
      have hlts := hMd.lt
      rw [← hbs] at hMn
      have hBn : Below w.heap.size w (wr.drew.setCell ⟨s', N, none⟩ (.string ⟨X2.toArray⟩)) := hnx.drew.setCell (p := ⟨s', N, none⟩) hs1 _
      have HMN := Lib.hid hMn
      have HBN := Lib.hid hBn
      have hk0 : (0 : Int) ≤ (k : Int) := Int.natCast_nonneg _
      have hkl : (k : Int) < (l.length : Int) := by omega
      have hN0 : (0 : Int) ≤ (N : Int) := Int.natCast_nonneg _
      have hNl : (N : Int) < (M.length : Int) := by omega
      clear hG hMd hnx hMn hBn fMn hbs g5 hg5
      go_wp2_with fail
      refine still_tail 16 (by kernel_rfl) (by kernel_rfl) fun W hW => ?_
      simp only [List.take_succ_cons, List.take_zero, List.drop_succ_cons, List.drop_zero]
      rw [← hW] at HMN HBN
      have g1d : W.cell? (ad.add (k * 2)) = some (.int .i64 (N : Int)) := hW ▸ g1
      have g2d : W.cell? ⟨(ad.add (k * 2)).block, (ad.add (k * 2)).off + 1, none⟩ = some (.slice B 256 c2) := hW ▸ g2
      have m1d : W.cell? ⟨w1.heap.size, 0, none⟩ = some (.slice (some ⟨s', 0, none⟩) M.length cap2) := hW ▸ m1
      have t0d : W.cell? ⟨s', N, none⟩ = some tv := hW ▸ t0
      have t1d : W.frozen? ⟨s', N, none⟩ = false := hW ▸ t1
      have hcvd : (convert 43 9 (.slice B 256 c2)).run Try.prog W = .ok (.string ⟨X2.toArray⟩) W := by
        rw [hW]
        have := conv_lie c2 (HLI.out.lie.drew)
        rw [hx2] at this
        exact this
      clear hW g1 g2 m1 t0 t1 hcv HLI
      repeat still_step
      refine wpStill_nil ?_
      go_wp2
      go_roundw
      case rel => exact ⟨k + 1, by go_num, by omega, HMN.out, HBN.out⟩
      case measure => simp [intOf]; omega
    · obtain rfl : k = l.length := by omega
      rw [List.take_length] at hMd
      clear hG
      go_wp2
      go_ret
      exact ⟨_, s', rfl, hsz1, hs1, hMd, hnx⟩
end Go.Proofs.Ytkklplccngdalaa.Dk
