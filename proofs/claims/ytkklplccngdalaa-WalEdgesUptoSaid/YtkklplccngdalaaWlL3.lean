/-
  Contracts of the laws' own opened, alike, recovered; Commit as the laws use it.
-/
import Derived.Test.YtkklplccngdalaaWlW8
import Derived.Test.YtkklplccngdalaaWlL2
namespace Go.Proofs.Ytkklplccngdalaa.Dk
open Go.RowKit

section
variable {w : World} {q g s n : Nat} {d : Dsk} {l : List GI} {M m : List (List UInt8)} {A : Option Addr}

def OpenedPost (n : Nat) (w : World) (e : Ending) (w' : World) : Prop :=
  ∃ g s q, e = .returned (.tuple #[.pointer (some ⟨g, 0, none⟩), .pointer (some ⟨q, 0, none⟩), .bool true]) ∧ w.heap.size ≤ g ∧ w.heap.size ≤ s ∧ w.heap.size ≤ q ∧ Lg w' q g s (new n) false ∧ Below w.heap.size w w'
theorem new_len (n : Nat) : (new n).L.length = n := List.length_replicate
set_option maxRecDepth 100000 in
set_option maxHeartbeats 1000000 in
theorem opened_all (N : Int) (n : Nat) (w : World) (hN : N = (n : Int)) (hn : 4 ≤ n) (h2048 : n ≤ 2048) : Calls Try.prog 12 #[.int .i64 N] w (OpenedPost n w) := by
  subst hN
  have hh : (new n).L[0]? = some (headB 0) := by
    show (List.replicate n (full 0))[0]? = _
    rw [head_zero, List.getElem?_replicate, if_pos (by omega)]
  have hL := new_len n
  have HO : Hid (∀ wq g s, Dk wq g s (new n) → Calls Try.prog 26 #[.pointer (some ⟨g, 0, none⟩)] wq (fun e w' => ∃ q, e = .returned (.tuple #[.pointer (some ⟨q, 0, none⟩), .int .i64 0]) ∧ wq.heap.size ≤ q ∧ Lg w' q g s (new n) false ∧ Below wq.heap.size wq w')) := fun wq g s hk => open_st hk rfl (by rw [hL]; exact hn) (by rw [hL]; exact h2048) hh
  clear hh hL
  go_enter Try.func12, Try.ntmps12
  go_wp2_with fail
  refine (new_ok n w (by omega) h2048).mono ?_
  rintro e w1 ⟨g, s, rfl, hg, hs, h1, hb1⟩
  go_wp2_with fail
  refine (HO.out _ g s h1).mono ?_
  rintro e w2 ⟨q, rfl, hq, hL2, hb2⟩
  have hb3 := hb1.trans (hb2.mono hb1.size)
  have hq2 := Nat.le_trans hb1.size hq
  clear h1 hb1 hb2 HO hq
  go_wp2
  exact bodyPost_ret (v := .tuple #[.pointer (some ⟨g, 0, none⟩), .pointer (some ⟨q, 0, none⟩), .bool true]) (by simp [results, Try.results12, go_sem]) rfl ⟨g, s, q, rfl, hg, hs, hq2, hL2, hb3⟩

/-- What Commit says of a group that may be, and leaves. -/
def CPost (n : Nat) (M : List (List UInt8)) (l : List GI) (q g s : Nat) (d : Dsk) (w : World) (e : Ending) (w' : World) : Prop :=
  ∃ D : Dsk, D.L.length = n ∧ i64 D.left ∧ d.wr ≤ D.wr ∧ D.wr ≤ d.wr + 10000 ∧ Fr (Tri q g s) w w' ∧
    ((D.on = true ∧ St n D.L (behind M l) ∧ e = .returned (.int .i64 0) ∧ Lg w' q g s D false ∧ D.wr = d.wr + (comW n l).length ∧ (0 ≤ d.left → ((comW n l).length : Int) ≤ d.left)) ∨
     (D.on = false ∧ 0 ≤ d.left ∧ d.left < (comW n l).length ∧ e = .returned (.int .i64 6) ∧ Lg w' q g s D true ∧ if ((l.length + nIx l + 1 : Nat) : Int) ≤ d.left then Inv n D.L (behind M l) else Inv n D.L M))
theorem commit_inv (c : Nat) (h : Lg w q g s d false) (ho : d.on = true) (hL : d.L.length = n) (hn : 4 ≤ n) (h2048 : n ≤ 2048) (hS : St n d.L M) (hG : Grp (Tri q g s) w A l) (hok : okG (room n) l) (hc : l.length ≤ c) (hm : c ≤ maxLen) (hi : i64 d.left) (hwr : 0 ≤ d.wr ∧ d.wr ≤ 10000000) :
    Calls Try.prog 17 #[.pointer (some ⟨q, 0, none⟩), .slice A l.length c] w (CPost n M l q g s d w) := by
  subst hL
  refine (commit_ok c h ho hn hG hok hc hm hi hwr).mono ?_
  rintro e w' ⟨rfl, h1, f1⟩
  have hci := com_inv rfl hS hn h2048 hok ho
  have hon := puts_on (comW_ok hn hok) ho
  have hw := puts_wr (comW d.L.length l) d
  have hlen := okG_len hok
  have hroom := room_lt (n := d.L.length)
  have hcl : (comW d.L.length l).length ≤ 10000 := by
    rcases Nat.eq_zero_or_pos l.length with h0 | h0
    · have : l = [] := List.length_eq_zero_iff.1 h0
      rw [this]
      simp [comW]
    · rw [comW_len h0]
      unfold nIx
      omega
  refine ⟨puts d (comW d.L.length l), puts_len _ _, puts_left _ hi, hw.1, by omega, f1, ?_⟩
  cases hD : (puts d (comW d.L.length l)).on
  · rw [hD] at h1
    have hci2 := hci.2 hD
    have hno : ¬ (d.left < 0 ∨ ((comW d.L.length l).length : Int) ≤ d.left) := fun h => by
      have := hon.2 h
      rw [hD] at this
      cases this
    refine .inr ⟨rfl, hci2.1, by omega, by rw [er_off hD], h1, hci2.2.2⟩
  · rw [hD] at h1
    have hall := puts_all (comW_ok hn hok) ho hD
    refine .inl ⟨rfl, hci.1 hD, by rw [er_on hD], h1, by rw [hall], fun h0 => ?_⟩
    rcases hon.1 hD with h2 | h2
    · omega
    · exact h2

/-! ### alike -/
theorem neq_txt {a b : List UInt8} (h : a ≠ b) : ((⟨a.toArray⟩ : ByteArray).toList == (⟨b.toArray⟩ : ByteArray).toList) = false := beq_eq_false_iff_ne.2 fun e => h (by
  rw [ByteArray.toList_eq, ByteArray.toList_eq] at e
  simpa using e)
def AlPost (b : Bool) (q g s : Nat) (d : Dsk) (w : World) (e : Ending) (w' : World) : Prop := e = .returned (.bool b) ∧ Lg w' q g s d false ∧ Fr (Tri q g s) w w'
def AlRel (M m : List (List UInt8)) (q g s : Nat) (d : Dsk) (w : World) (i : Value) (wr : World) : Prop :=
  ∃ k : Nat, i = .int .i64 (k : Int) ∧ k ≤ m.length ∧ M.take k = m.take k ∧ Lg wr q g s d false ∧ Fr (Tri q g s) w wr
set_option maxRecDepth 100000 in
set_option maxHeartbeats 2000000 in
theorem alike_all {gm sm : Nat} (h : Lg w q g s d false) (ho : d.on = true) (hL : d.L.length = n) (hn : 4 ≤ n) (h2048 : n ≤ 2048) (hS : St n d.L M) (hM : Md w gm sm m) (hgm : ¬ Tri q g s gm) (hsm : ¬ Tri q g s sm) (hml : m.length = room n) :
    Calls Try.prog 22 #[.pointer (some ⟨q, 0, none⟩), .pointer (some ⟨gm, 0, none⟩)] w (AlPost (decide (M = m)) q g s d w) := by
  subst hL
  have hMl := hS.2.2.1
  have hroom := room_lt (n := d.L.length)
  have HS1 := Lib.hid (lsectors_all h.drew_)
  rw [← hml] at HS1
  obtain ⟨cap, hc1, hc2, m0⟩ := hM.cells
  go_enter Try.func22, Try.ntmps22
  go_wp2_with fail
  refine still_tail 7 (by kernel_rfl) (by kernel_rfl) fun W hW => ?_
  simp only [List.take_succ_cons, List.take_zero, List.drop_succ_cons, List.drop_zero]
  rw [← hW] at HS1
  have m0d : W.cell? ⟨gm, 0, none⟩ = some (.slice (some ⟨sm, 0, none⟩) m.length cap) := hW ▸ m0
  have hLW : Lg W q g s d false := hW ▸ h.drew_
  have hFW : Fr (Tri q g s) w W := hW ▸ (Fr.refl _ w).drew
  clear hW m0
  have HLW := Lib.hid hLW
  have HFW := Lib.hid hFW
  clear hLW hFW
  repeat still_step
  still_call (still_of HS1.out)
  repeat still_step
  refine wpStill_nil ?_
  go_wp2
  clear HS1 m0d
  go_loopw [5] (AlRel M m q g s d w) (fun i _ => m.length - (intOf i).toNat)
  case atStart => exact ⟨0, rfl, by omega, rfl, HLW.out, HFW.out⟩
  case round =>
    clear HLW HFW
    obtain ⟨k, rfl, hk, heq, hLg, hfr⟩ := hrel
    have hMd := hM.fr hfr hgm hsm
    obtain ⟨cap2, hd1, hd2, m1⟩ := hMd.cells
    by_cases hlt : k < m.length
    · have hkM : k < M.length := by omega
      have hsec : d.L[dataAt d.L.length k]? = some M[k] := by rw [hS.2.2.2 k (by omega)]; exact List.getElem?_eq_getElem hkM
      have h256 : M[k].length = 256 := by
        obtain ⟨hk2, hk3⟩ := List.getElem?_eq_some_iff.1 hsec
        exact hLg.2.1.2.2.2.1 _ (hk3 ▸ List.getElem_mem hk2)
      have HR := Lib.hid (lread_ok (k : Int) k M[k] hLg ho hn (by omega) rfl hsec)
      have t1 := (hMd.2.2.2 k hlt).1
      have hk0 : (0 : Int) ≤ (k : Int) := Int.natCast_nonneg _
      have hkl : (k : Int) < (m.length : Int) := by omega
      have htM := take_snoc hkM
      have htm := take_snoc hlt
      have HE : Hid (M[k] = m[k] → M.take (k + 1) = m.take (k + 1)) := fun e => by rw [htM, htm, heq, e]
      have HN : Hid (M[k] ≠ m[k] → decide (M = m) = false) := fun e => decide_eq_false fun h => e (by subst h; rfl)
      have HMd := Lib.hid hMd
      have HF := Lib.hid hfr
      clear hMd hfr hLg htM htm h hM hS hsec
      generalize M[k] = F at *
      generalize m[k] = G at *
      go_wp2_with fail
      refine HR.out.mono ?_
      rintro e w1 ⟨gb, rfl, hgb, hxb, hL1, f1⟩
      have hM1 := HMd.out.fr f1 hgm hsm
      have cv := conv_box 256 hxb.drew h256
      obtain ⟨cap3, hd3, hd4, m2⟩ := hM1.drew_.cells
      have t2 : w1.drew.cell? ⟨sm, k, none⟩ = some (.string ⟨G.toArray⟩) := (World.cell?_of_block (w := wr) (a := ⟨sm, k, none⟩) (f1.block sm HMd.out.lt.2 hsm)).trans t1
      have HF1 := Lib.hid (HF.out.trans f1)
      have HL1 := Lib.hid hL1
      clear HF HMd hM1 hL1 f1 hxb HR m1 t1
      by_cases hFG : F = G
      · have HE2 := HE.out hFG
        subst hFG
        clear HE HN
        go_wp2_with fail
        go_region_held (fun w' => (convert 43 9 (.slice (some ⟨gb, 0, none⟩) 256 256)).run Try.prog w' = .ok (.string ⟨F.toArray⟩) w' ∧ w'.cell? ⟨gm, 0, none⟩ = some (.slice (some ⟨sm, 0, none⟩) m.length cap3) ∧ w'.cell? ⟨sm, k, none⟩ = some (.string ⟨F.toArray⟩)) (first | exact ⟨cv, m2, t2⟩ | assumption) (fail)
        go_wp2
        go_roundw
        case rel => exact ⟨k + 1, by go_num, by omega, HE2, HL1.out.drew_, HF1.out.drew⟩
        case measure => simp [intOf]; omega
      · have hd := HN.out hFG
        have hne := neq_txt hFG
        generalize (⟨F.toArray⟩ : ByteArray) = fb at *
        generalize (⟨G.toArray⟩ : ByteArray) = gB at *
        clear HE HN
        go_wp2_with fail
        go_region_held (fun w' => (convert 43 9 (.slice (some ⟨gb, 0, none⟩) 256 256)).run Try.prog w' = .ok (.string fb) w' ∧ w'.cell? ⟨gm, 0, none⟩ = some (.slice (some ⟨sm, 0, none⟩) m.length cap3) ∧ w'.cell? ⟨sm, k, none⟩ = some (.string gB)) (first | exact ⟨cv, m2, t2⟩ | assumption) (fail)
        go_wp2
        go_ret
        exact ⟨ret_bool hd.symm, HL1.out.drew_, HF1.out.drew⟩
    · obtain rfl : k = m.length := by omega
      rw [List.take_length, List.take_of_length_le (by omega)] at heq
      clear h hM hMd
      go_wp2
      go_ret
      exact ⟨ret_bool (decide_eq_true heq).symm, hLg, hfr⟩

/-! ### recovered -/
def RcPost (n : Nat) (M : List (List UInt8)) (g s : Nat) (d : Dsk) (w : World) (e : Ending) (w' : World) : Prop :=
  ∃ D q, e = .returned (.pointer (some ⟨q, 0, none⟩)) ∧ w.heap.size ≤ q ∧ Lg w' q g s D false ∧ D.on = true ∧ D.L.length = n ∧ St n D.L M ∧ i64 D.left ∧ d.wr ≤ D.wr ∧ D.wr ≤ d.wr + 100000 ∧ Fr (Two g s) w w'
def RcRel (n : Nat) (M : List (List UInt8)) (g s : Nat) (d : Dsk) (w : World) (len : Nat) (i : Value) (wr : World) : Prop :=
  ∃ (k : Nat) (D : Dsk), i = .int .i64 (k : Int) ∧ k ≤ len ∧ Dk wr g s D ∧ D.L.length = n ∧ Inv n D.L M ∧ i64 D.left ∧ d.wr ≤ D.wr ∧ D.wr ≤ d.wr + 5000 * k ∧ Fr (Two g s) w wr
theorem cut_i64 {n : Int} (h : i64 n) (d : Dsk) : i64 (d.cut n).left := by
  unfold Dsk.cut i64 at *
  simp only
  split <;> omega
set_option maxRecDepth 100000 in
set_option maxHeartbeats 2000000 in
theorem recovered_all (cuts : List Int) (c : Nat) (h : Dk w g s d) (hL : d.L.length = n) (hn : 4 ≤ n) (h2048 : n ≤ 2048) (hI : Inv n d.L M) (hi : i64 d.left) (hwr : 0 ≤ d.wr ∧ d.wr ≤ 1000000) (hN : Nums w A cuts) (hA : ∀ ad, A = some ad → 0 < cuts.length → ¬ Two g s ad.block) (hc : cuts.length ≤ 10) :
    Calls Try.prog 21 #[.pointer (some ⟨g, 0, none⟩), .slice A cuts.length c] w (RcPost n M g s d w) := by
  go_enter Try.func21, Try.ntmps21
  go_wp2
  go_loopw [5] (RcRel n M g s d w cuts.length) (fun i _ => cuts.length - (intOf i).toNat)
  case atStart => exact ⟨0, d, rfl, by omega, h, hL, hI, hi, by omega, by omega, Fr.refl _ _⟩
  case round =>
    obtain ⟨k, D, rfl, hk, hD, hDL, hDI, hDi, hw1, hw2, hfr⟩ := hrel
    clear h hL hI hi
    by_cases hlt : k < cuts.length
    · obtain ⟨ad, rfl, had, hcell⟩ := hN.2 (by omega)
      have hnad := hA ad rfl (by omega)
      have hc1 : wr.cell? (ad.add k) = some (.int .i64 cuts[k]) := (World.cell?_of_block (w := w) (a := ad.add k) (by rw [blk_add]; exact hfr.block _ had hnad)).trans (hcell k hlt)
      have h64 := hN.1 _ (List.getElem_mem hlt)
      have hk0 : (0 : Int) ≤ (k : Int) := Int.natCast_nonneg _
      have hkl : (k : Int) < (cuts.length : Int) := by omega
      clear hcell
      generalize cuts[k] = z at *
      go_wp2_with fail
      refine (up_all hD).mono ?_
      rintro e w1 ⟨rfl, h1, f1⟩
      have hc2 : w1.cell? (ad.add k) = some (.int .i64 z) := (World.cell?_of_block (w := wr) (a := ad.add k) (by rw [blk_add]; exact f1.block _ (Nat.lt_of_lt_of_le had hfr.size) hnad)).trans hc1
      have f2 := hfr.trans f1
      clear hD f1 hfr hc1
      go_wp2_with fail
      refine (cut_all z h1).mono ?_
      rintro e w2 ⟨rfl, h2, f3⟩
      have f4 := f2.trans f3
      clear h1 f2 f3 hc2
      have HO := Lib.hid (open_inv (M := M) h2 rfl hDL hn h2048 hDI (cut_i64 h64 _) (by show 0 ≤ D.wr ∧ D.wr ≤ _; omega))
      have hwD : (D.up.cut z).wr = D.wr := rfl
      have HF := Lib.hid f4
      clear h2 f4 hDL hDI hDi
      generalize hDz : D.up.cut z = Dz at *
      clear hDz
      go_wp2_with fail
      refine HO.out.mono ?_
      rintro e w3 ⟨D2, a1, a2, a3, a4, _, a5, a6⟩
      have HF2 := Lib.hid (HF.out.trans a5)
      have hq3 := HF.out.size
      clear HO HF a5
      rcases a6 with ⟨b1, b2, q, rfl, b4, b5⟩ | ⟨b1, b2, b3, rfl, b5⟩
      · go_wp2_with fail
        refine (on_all b5.2.1).mono ?_
        rintro e w' ⟨rfl, rfl⟩
        rw [b1]
        go_wp2_with fail
        refine (cut_all (-1) b5.2.1).mono ?_
        rintro e w4 ⟨rfl, h4, f4⟩
        have hL4 := (b5.disk h4 f4 rfl).1
        have hf5 := HF2.out.trans f4
        clear HF2 f4 h4 b5
        go_wp2
        go_ret
        exact ⟨_, q, rfl, by omega, hL4, b1, a1, b2, by unfold i64; show -9223372036854775808 ≤ (-1 : Int) ∧ (-1 : Int) ≤ 9223372036854775807; omega, by show d.wr ≤ D2.wr; omega, by show D2.wr ≤ _; omega, hf5⟩
      · go_wp2_with fail
        refine (on_all b5).mono ?_
        rintro e w' ⟨rfl, rfl⟩
        rw [b1]
        go_wp2
        go_roundw
        case rel => exact ⟨k + 1, D2, by go_num, by omega, b5, a1, b3, a2, by omega, by omega, HF2.out⟩
        case measure => simp [intOf]; omega
    · obtain rfl : k = cuts.length := by omega
      go_wp2_with fail
      refine (up_all hD).mono ?_
      rintro e w1 ⟨rfl, h1, f1⟩
      have f2 := hfr.trans f1
      have HO := Lib.hid (open_inv (M := M) h1 rfl hDL hn h2048 hDI (by unfold i64; show -9223372036854775808 ≤ (-1 : Int) ∧ (-1 : Int) ≤ 9223372036854775807; omega) (by show 0 ≤ D.wr ∧ D.wr ≤ _; omega))
      have hwD : D.up.wr = D.wr := rfl
      have hlD : D.up.left = -1 := rfl
      have HF := Lib.hid f2
      clear hD f1 hfr h1 f2 hDL hDI hDi
      generalize D.up = Dz at *
      go_wp2_with fail
      refine HO.out.mono ?_
      rintro e w3 ⟨D2, a1, a2, a3, a4, _, a5, a6⟩
      have HF2 := Lib.hid (HF.out.trans a5)
      have hq3 := HF.out.size
      clear HO HF a5
      rcases a6 with ⟨b1, b2, q, rfl, b4, b5⟩ | ⟨b1, b2, b3, rfl, b5⟩
      · go_wp2
        go_ret
        exact ⟨D2, q, rfl, by omega, b5, b1, a1, b2, a2, by omega, by omega, HF2.out⟩
      · exfalso
        omega
end
end Go.Proofs.Ytkklplccngdalaa.Dk
