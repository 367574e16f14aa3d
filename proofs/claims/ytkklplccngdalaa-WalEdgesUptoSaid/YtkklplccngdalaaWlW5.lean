/-
  The contract of settle: a recorded group is written to its data sectors, cut off anywhere.
-/
import Derived.Test.YtkklplccngdalaaWlW4
namespace Go.Proofs.Ytkklplccngdalaa.Dk
open Go.RowKit

section
variable {w : World} {q g s : Nat} {d : Dsk} {A : Option Addr} {l : List GI}
def DaRel (n q g s : Nat) (d : Dsk) (l : List GI) (w : World) (i : Value) (wr : World) : Prop :=
  ∃ k : Nat, i = .int .i64 (k : Int) ∧ k ≤ l.length ∧ Lg wr q g s (puts d (daW n l k)) false ∧ (puts d (daW n l k)).on = true ∧ Fr (Tri q g s) w wr

set_option maxRecDepth 100000 in
set_option maxHeartbeats 2000000 in
theorem settle_all (c : Nat) (h : Lg w q g s d false) (ho : d.on = true) (hn : 4 ≤ d.L.length) (hG : Grp (Tri q g s) w A l) (hok : okG (room d.L.length) l) (_hc : l.length ≤ c) (_hm : c ≤ maxLen) (hi : i64 d.left) (hwr : 0 ≤ d.wr ∧ d.wr ≤ 100000000) :
    Calls Try.prog 34 #[.pointer (some ⟨q, 0, none⟩), .slice A l.length c] w (LPost (.int .i64 (er (puts d (setW d.L.length l)))) q g s (puts d (setW d.L.length l)) (!(puts d (setW d.L.length l)).on) w) := by
  have hlen := okG_len hok
  have hroom := room_lt (n := d.L.length)
  have h2048 := h.2.2.2.2
  go_enter Try.func34, Try.ntmps34
  go_wp2
  go_loopw [10] (DaRel d.L.length q g s d l w) (fun i _ => l.length - (intOf i).toNat)
  case atStart => exact ⟨0, rfl, by omega, h, ho, Fr.refl _ _⟩
  case round =>
    obtain ⟨k, rfl, hk, hL, hon, hfr⟩ := hrel
    by_cases hlt : k < l.length
    · obtain ⟨ad, B, c', rfl, hlt2, g1, g2, g3, g4, g5, g6⟩ := (hG.fr hfr).at_ hlt
      have hx := hok.1 _ (List.getElem_mem hlt)
      have hsucc : puts d (daW d.L.length l (k + 1)) = (puts d (daW d.L.length l k)).write ((dataAt d.L.length l[k].1.toNat : Nat) : Int) l[k].2 := by rw [daW_succ, puts_snoc, gi_eq hlt]
      have hln := puts_len (daW d.L.length l k) d
      have hw1 := puts_wr (daW d.L.length l k) d
      have hspl : (daW d.L.length l k).length = k := by simp [daW]
      have hlf := puts_left (daW d.L.length l k) hi
      have hx0 := hx.1
      have hx1 := hx.2.1
      have hx2 := hx.2.2
      have e1 : l[k].1 = ((l[k].1.toNat : Nat) : Int) := by omega
      rw [e1] at g1
      have hN : l[k].1.toNat < room d.L.length := by omega
      rw [hx2] at g2
      clear e1 hx hx0 hx1 g6
      generalize l[k].1.toNat = N at *
      generalize l[k].2 = X2 at *
      have hD : ∀ wq, Lg wq q g s (puts d (daW d.L.length l k)) false → LieX (Tri q g s) wq B X2 → Calls Try.prog 43 #[.pointer (some ⟨q, 0, none⟩), .int .i64 ((dataAt d.L.length N : Nat) : Int), .slice B 256 c'] wq (LPost (.int .i64 (er (puts d (daW d.L.length l (k + 1))))) q g s (puts d (daW d.L.length l (k + 1))) (!(puts d (daW d.L.length l (k + 1))).on) wq) := fun wq hLq hLi => by
        rw [hsucc]
        exact lwrite_all (dataAt d.L.length N) B X2 c' hLq hon (by rw [hln]; exact data_lt hn hN) hx2 hlf (by rw [hspl] at hw1; omega) hLi.lie (fun ad e t => hLi.off (by rw [hx2]; omega) ad e (Tri.two t))
      have hSp : ∀ wq, Lg wq q g s (puts d (daW d.L.length l k)) false → Calls Try.prog 37 #[.pointer (some ⟨q, 0, none⟩), .int .i64 (N : Int)] wq (Same (.int .i64 ((dataAt d.L.length N : Nat) : Int)) wq) := fun wq hLq => by
        have := data_all N hLq (by rw [hln]; exact hn) (by omega)
        rw [hln] at this
        exact this
      have HD := Lib.hid hD
      have HS := Lib.hid hSp
      have HL := Lib.hid hL
      have HF := Lib.hid hfr
      have HX := Lib.hid g5
      clear hD hSp hL hfr g5 hsucc hln hw1 hspl hlf h hG
      have hk9 : k + 1 ≤ 100000 := by omega
      cases hDon : (puts d (daW d.L.length l (k + 1))).on
      · have HD1 : Hid (∀ wq, Lg wq q g s (puts d (daW d.L.length l k)) false → LieX (Tri q g s) wq B X2 → Calls Try.prog 43 #[.pointer (some ⟨q, 0, none⟩), .int .i64 ((dataAt d.L.length N : Nat) : Int), .slice B 256 c'] wq (LPost (.int .i64 6) q g s (puts d (daW d.L.length l (k + 1))) true wq)) := by
          have := HD.out
          rw [er_off hDon, hDon] at this
          exact this
        have HE := Lib.hid (puts_pre (d := d) (setW_da d.L.length l (show k + 1 ≤ l.length from hlt)) hDon)
        clear HD
        go_wp2_with fail
        refine still_tail 7 (by kernel_rfl) (by kernel_rfl) fun W hW => ?_
        simp only [List.take_succ_cons, List.take_zero, List.drop_succ_cons, List.drop_zero]
        have hLW : Lg W q g s (puts d (daW d.L.length l k)) false := hW ▸ (HL.out.alloc _).drew_
        have hXW : LieX (Tri q g s) W B X2 := hW ▸ (HX.out.fr (((Fr.refl _ _).alloc _).drew))
        have hFW : Fr (Tri q g s) w W := hW ▸ ((HF.out.alloc _).drew)
        have hcW : W.cell? ⟨wr.heap.size, 1, none⟩ = some (.slice B 256 c') := hW ▸ (Box.new wr _ _).cell 1
        have hcV : W.cell? ⟨wr.heap.size, 0, none⟩ = some (.int .i64 (N : Int)) := hW ▸ (Box.new wr _ _).cell 0
        clear hW
        have HLW := Lib.hid hLW
        have HXW := Lib.hid hXW
        have HFW := Lib.hid hFW
        clear hLW hXW hFW
        repeat still_step
        still_call (still_of (HS.out _ HLW.out))
        repeat still_step
        refine wpStill_nil ?_
        go_wp2_with fail
        with_reducible refine (HD1.out _ HLW.out HXW.out).mono ?_
        rintro e w2 ⟨rfl, h2, f2⟩
        have HF2 := HFW.out.trans f2
        clear HFW HLW HXW f2 HL HX HF
        go_wp2
        go_ret
        exact post_off HE.out hDon rfl h2 HF2
      · have HD1 : Hid (∀ wq, Lg wq q g s (puts d (daW d.L.length l k)) false → LieX (Tri q g s) wq B X2 → Calls Try.prog 43 #[.pointer (some ⟨q, 0, none⟩), .int .i64 ((dataAt d.L.length N : Nat) : Int), .slice B 256 c'] wq (LPost (.int .i64 0) q g s (puts d (daW d.L.length l (k + 1))) false wq)) := by
          have := HD.out
          rw [er_on hDon, hDon] at this
          exact this
        clear HD
        go_wp2_with fail
        refine still_tail 7 (by kernel_rfl) (by kernel_rfl) fun W hW => ?_
        simp only [List.take_succ_cons, List.take_zero, List.drop_succ_cons, List.drop_zero]
        have hLW : Lg W q g s (puts d (daW d.L.length l k)) false := hW ▸ (HL.out.alloc _).drew_
        have hXW : LieX (Tri q g s) W B X2 := hW ▸ (HX.out.fr (((Fr.refl _ _).alloc _).drew))
        have hFW : Fr (Tri q g s) w W := hW ▸ ((HF.out.alloc _).drew)
        have hcW : W.cell? ⟨wr.heap.size, 1, none⟩ = some (.slice B 256 c') := hW ▸ (Box.new wr _ _).cell 1
        have hcV : W.cell? ⟨wr.heap.size, 0, none⟩ = some (.int .i64 (N : Int)) := hW ▸ (Box.new wr _ _).cell 0
        clear hW
        have HLW := Lib.hid hLW
        have HXW := Lib.hid hXW
        have HFW := Lib.hid hFW
        clear hLW hXW hFW
        repeat still_step
        still_call (still_of (HS.out _ HLW.out))
        repeat still_step
        refine wpStill_nil ?_
        go_wp2_with fail
        with_reducible refine (HD1.out _ HLW.out HXW.out).mono ?_
        rintro e w2 ⟨rfl, h2, f2⟩
        have HF2 := HFW.out.trans f2
        clear HFW HLW HXW f2 HL HX HF
        go_wp2
        go_roundw
        case rel => exact ⟨k + 1, by go_num, by omega, h2, hDon, HF2⟩
        case measure => simp [intOf]; omega
    · obtain rfl : k = l.length := by omega
      have hrec : puts d (setW d.L.length l) = (puts d (daW d.L.length l l.length)).write ((0 : Nat) : Int) (headB 0) := by unfold setW; rw [puts_snoc]
      have hln := puts_len (daW d.L.length l l.length) d
      have hw1 := puts_wr (daW d.L.length l l.length) d
      have hspl : (daW d.L.length l l.length).length = l.length := by simp [daW]
      have hlf := puts_left (daW d.L.length l l.length) hi
      have hD : ∀ wq gB, Lg wq q g s (puts d (daW d.L.length l l.length)) false → Box wq gB 5 (u8C (headB 0)).toArray → ¬ Tri q g s gB → Calls Try.prog 43 #[.pointer (some ⟨q, 0, none⟩), .int .i64 0, .slice (some ⟨gB, 0, none⟩) 256 256] wq (LPost (.int .i64 (er (puts d (setW d.L.length l)))) q g s (puts d (setW d.L.length l)) (!(puts d (setW d.L.length l)).on) wq) := fun wq gB hLq hBq hnq => by
        rw [hrec]
        exact lwrite_all 0 _ (headB 0) 256 hLq hon (by rw [hln]; omega) (headB_len _) hlf (by rw [hspl] at hw1; omega) (full_lie hBq) (fun ad e t => by injection e with e; subst e; exact hnq (Tri.two t))
      have HD := Lib.hid hD
      have HL := Lib.hid hL
      have HF := Lib.hid hfr
      have HH : Hid (∀ w, Calls Try.prog 47 #[.int .i64 0] w (FullP (headB 0) w)) := fun w => head_all 0 w (by omega)
      clear hrec hln hw1 hspl hlf hD hL hfr hG hok h
      generalize puts d (setW d.L.length l) = D at *
      go_wp2_with fail
      with_reducible refine (HH.out _).mono ?_
      rintro e w2 ⟨gB, rfl, hgB, hxB, hbB⟩
      have hL2 := HL.out.below hbB
      have hnB := tri_new HL.out hgB
      have HF2 := Lib.hid (HF.out.trans (Fr.of_below hbB))
      clear HL HF HH
      go_wp2_with fail
      with_reducible refine (HD.out _ gB hL2 hxB hnB).mono ?_
      rintro e w3 ⟨rfl, h3, f3⟩
      have HF3 := HF2.out.trans f3
      clear HD hL2 hxB HF2 f3
      go_wp2
      go_ret
      exact ⟨rfl, h3, HF3⟩
end
end Go.Proofs.Ytkklplccngdalaa.Dk
