/-
  Contracts of the log's Read and Commit.
-/
import Derived.Test.YtkklplccngdalaaWlW7
namespace Go.Proofs.Ytkklplccngdalaa.Dk
open Go.RowKit

section
variable {w : World} {q g s : Nat} {d : Dsk} {dead : Bool} {l : List GI} {M : List (List UInt8)} {A : Option Addr}

set_option maxRecDepth 100000 in
set_option maxHeartbeats 1000000 in
theorem lread_dead (n : Int) (h : Lg w q g s d dead) (hd : (dead || !d.on) = true) : Calls Try.prog 19 #[.pointer (some ⟨q, 0, none⟩), .int .i64 n] w (LPost (.tuple #[.slice none 0 0, .int .i64 6]) q g s d true w) := by
  have HU := Lib.hid (usable_all h)
  rw [hd] at HU
  clear h
  go_enter Try.func19, Try.ntmps19
  go_wp2_with fail
  refine HU.out.mono ?_
  rintro e w1 ⟨rfl, h1, f1⟩
  go_wp2
  go_ret2
  exact ⟨rfl, h1, f1⟩
def LReadPost (b : List UInt8) (q g s : Nat) (d : Dsk) (w : World) (e : Ending) (w' : World) : Prop :=
  ∃ gb, e = .returned (.tuple #[.slice (some ⟨gb, 0, none⟩) 256 256, .int .i64 0]) ∧ w.heap.size ≤ gb ∧ Box w' gb 72 (u8C b).toArray ∧ Lg w' q g s d false ∧ Fr (Tri q g s) w w'
set_option maxRecDepth 100000 in
set_option maxHeartbeats 2000000 in
theorem lread_ok (n : Int) (k : Nat) (b : List UInt8) (h : Lg w q g s d false) (ho : d.on = true) (hn : 4 ≤ d.L.length) (hk : k < room d.L.length) (hnk : n = (k : Int)) (hb : d.L[dataAt d.L.length k]? = some b) : Calls Try.prog 19 #[.pointer (some ⟨q, 0, none⟩), .int .i64 n] w (LReadPost b q g s d w) := by
  subst hnk
  have HU := Lib.hid (usable_all h)
  rw [ho] at HU
  have hroom := room_lt (n := d.L.length)
  have h2048 := h.2.2.2.2
  have HH : Hid (∀ wq, Lg wq q g s d false → Calls Try.prog 35 #[.pointer (some ⟨q, 0, none⟩), .int .i64 (k : Int)] wq (Same (.bool true) wq)) := fun wq hq => by
    have := has_all (k : Int) hq
    rw [decide_eq_true (by omega)] at this
    exact this
  have HD : Hid (∀ wq, Lg wq q g s d false → Calls Try.prog 37 #[.pointer (some ⟨q, 0, none⟩), .int .i64 (k : Int)] wq (Same (.int .i64 ((dataAt d.L.length k : Nat) : Int)) wq)) := fun wq hq => data_all k hq hn (by omega)
  have HR : Hid (∀ wq, Lg wq q g s d false → Calls Try.prog 36 #[.pointer (some ⟨g, 0, none⟩), .int .i64 ((dataAt d.L.length k : Nat) : Int)] wq (ReadPost b wq)) := fun wq hq => read_at _ _ b hq.2.1 ho rfl hb
  clear h hb
  generalize dataAt d.L.length k = Y at *
  go_enter Try.func19, Try.ntmps19
  go_wp2_with fail
  refine HU.out.mono ?_
  rintro e w1 ⟨rfl, h1, f1⟩
  have HL1 := Lib.hid h1
  obtain ⟨c0, _, _⟩ := h1.cells
  clear HU h1
  go_wp2_with fail
  refine (HH.out _ HL1.out).mono ?_
  rintro e w' ⟨rfl, rfl⟩
  clear HH
  go_wp2_with fail
  have c0d : w1.drew.cell? ⟨q, 0, none⟩ = some (.pointer (some ⟨g, 0, none⟩)) := c0
  go_region_held (fun w' => w'.cell? ⟨q, 0, none⟩ = some (.pointer (some ⟨g, 0, none⟩))) (first | with_reducible exact c0d | with_reducible exact c02 | assumption) (first | (go_at_call 37; (with_reducible refine (HD.out _ HL1.out.drew_).mono ?_); rintro e w' ⟨rfl, rfl⟩) | (go_at_call 36; (with_reducible refine (HR.out _ HL1.out.drew_).mono ?_); rintro e w2 ⟨g2, rfl, hg2, hx2, hb2⟩; have hL2 := HL1.out.drew_.below hb2; have c02 := hL2.cells.1))
  have hf := (f1.drew).trans (Fr.of_below hb2)
  have hg3 : w.heap.size ≤ g2 := Nat.le_trans f1.size hg2
  clear HL1 HD HR c0 c0d f1 hb2
  go_wp2
  go_ret2
  exact ⟨_, rfl, hg3, hx2, hL2, hf⟩

/-! ### Commit -/
set_option maxRecDepth 100000 in
set_option maxHeartbeats 1000000 in
theorem commit_dead (m c : Nat) (h : Lg w q g s d dead) (hd : (dead || !d.on) = true) : Calls Try.prog 17 #[.pointer (some ⟨q, 0, none⟩), .slice A m c] w (LPost (.int .i64 6) q g s d true w) := by
  have HU := Lib.hid (usable_all h)
  rw [hd] at HU
  clear h
  go_enter Try.func17, Try.ntmps17
  go_wp2_with fail
  refine HU.out.mono ?_
  rintro e w1 ⟨rfl, h1, f1⟩
  go_wp2
  go_ret
  exact ⟨rfl, h1, f1⟩
set_option maxRecDepth 100000 in
set_option maxHeartbeats 1000000 in
theorem commit_bad (c : Nat) (h : Lg w q g s d false) (ho : d.on = true) (hG : Grp (Tri q g s) w A l) (hok : ¬ okG (room d.L.length) l) (hc : l.length ≤ c) (hm : c ≤ maxLen) :
    Calls Try.prog 17 #[.pointer (some ⟨q, 0, none⟩), .slice A l.length c] w (LPost (.int .i64 1) q g s d false w) := by
  have HU := Lib.hid (usable_all h)
  rw [ho] at HU
  have HF : Hid (∀ wq, Lg wq q g s d false → Grp (Tri q g s) wq A l → Calls Try.prog 32 #[.pointer (some ⟨q, 0, none⟩), .slice A l.length c] wq (BPost false wq)) := fun wq hq hg => by
    have := fits_all A l c (Tri q g s) hq hg hc hm
    rw [decide_eq_false hok] at this
    exact this
  have HG := Lib.hid hG
  clear h hG
  go_enter Try.func17, Try.ntmps17
  go_wp2_with fail
  refine HU.out.mono ?_
  rintro e w1 ⟨rfl, h1, f1⟩
  have HL1 := Lib.hid h1
  have HG1 := Lib.hid (HG.out.fr f1)
  clear HU h1 HG
  go_wp2_with fail
  refine (HF.out _ HL1.out HG1.out).mono ?_
  rintro e w2 ⟨rfl, hb2⟩
  have h2 := HL1.out.below hb2
  have f2 := f1.trans (Fr.of_below hb2)
  clear HL1 HG1 HF hb2 f1
  go_wp2
  go_ret
  exact ⟨rfl, h2, f2⟩
set_option maxRecDepth 100000 in
set_option maxHeartbeats 2000000 in
theorem commit_ok (c : Nat) (h : Lg w q g s d false) (ho : d.on = true) (hn : 4 ≤ d.L.length) (hG : Grp (Tri q g s) w A l) (hok : okG (room d.L.length) l) (hc : l.length ≤ c) (hm : c ≤ maxLen) (hi : i64 d.left) (hwr : 0 ≤ d.wr ∧ d.wr ≤ 10000000) :
    Calls Try.prog 17 #[.pointer (some ⟨q, 0, none⟩), .slice A l.length c] w (LPost (.int .i64 (er (puts d (comW d.L.length l)))) q g s (puts d (comW d.L.length l)) (!(puts d (comW d.L.length l)).on) w) := by
  have HU := Lib.hid (usable_all h)
  rw [ho] at HU
  have hlen := okG_len hok
  have hroom := room_lt (n := d.L.length)
  have h2048 := h.2.2.2.2
  have HF : Hid (∀ wq, Lg wq q g s d false → Grp (Tri q g s) wq A l → Calls Try.prog 32 #[.pointer (some ⟨q, 0, none⟩), .slice A l.length c] wq (BPost true wq)) := fun wq hq hg => by
    have := fits_all A l c (Tri q g s) hq hg hc hm
    rw [decide_eq_true hok] at this
    exact this
  have HG := Lib.hid hG
  clear h hG
  by_cases hl : l = []
  · have hl0 : l.length = 0 := by rw [hl]; rfl
    have e : puts d (comW d.L.length l) = d := by rw [hl]; rfl
    rw [e, er_on ho, ho]
    have e2 : (!true) = false := rfl
    rw [e2]
    rw [hl0] at HF ⊢
    clear e e2
    go_enter Try.func17, Try.ntmps17
    go_wp2_with fail
    refine HU.out.mono ?_
    rintro e w1 ⟨rfl, h1, f1⟩
    have HL1 := Lib.hid h1
    have HG1 := Lib.hid (HG.out.fr f1)
    clear HU h1 HG
    go_wp2_with fail
    refine (HF.out _ HL1.out HG1.out).mono ?_
    rintro e w2 ⟨rfl, hb2⟩
    have h2 := HL1.out.below hb2
    have f2 := f1.trans (Fr.of_below hb2)
    clear HL1 HG1 HF hb2 f1
    go_wp2
    go_ret
    exact ⟨rfl, h2, f2⟩
  · have hl0 : 0 < l.length := List.length_pos_iff.2 hl
    have b2 : ((l.length : Int) == 0) = false := beq_eq_false_iff_ne.2 (by omega)
    have b3 : (l.length == 0) = false := beq_eq_false_iff_ne.2 (by omega)
    have HE : Hid (puts d (comW d.L.length l) = puts (puts d (recW d.L.length l)) (setW d.L.length l)) := by unfold comW; rw [if_neg hl, puts_append]; exact Lib.hid rfl
    have HR : Hid (∀ wq, Lg wq q g s d false → Grp (Tri q g s) wq A l → Calls Try.prog 33 #[.pointer (some ⟨q, 0, none⟩), .slice A l.length c] wq (LPost (.int .i64 (er (puts d (recW d.L.length l)))) q g s (puts d (recW d.L.length l)) (!(puts d (recW d.L.length l)).on) wq)) := fun wq hq hg =>
      record_all c hq ho hn hg hok hc hm hi (by omega)
    cases hD : (puts d (recW d.L.length l)).on
    · have HE2 : Hid (puts d (comW d.L.length l) = puts d (recW d.L.length l)) := by rw [HE.out, puts_off _ _ hD]; exact Lib.hid rfl
      have HR2 := HR.out
      rw [er_off hD, hD] at HR2
      have HR3 := Lib.hid HR2
      clear HR HR2 HE
      generalize hDD : puts d (recW d.L.length l) = DD at *
      go_enter Try.func17, Try.ntmps17
      go_wp2_with fail
      refine HU.out.mono ?_
      rintro e w1 ⟨rfl, h1, f1⟩
      have HL1 := Lib.hid h1
      have HG1 := Lib.hid (HG.out.fr f1)
      clear HU h1 HG
      go_wp2_with fail
      refine (HF.out _ HL1.out HG1.out).mono ?_
      rintro e w2 ⟨rfl, hb2⟩
      have HL2 := Lib.hid (HL1.out.below hb2)
      have HG2 := Lib.hid (HG1.out.below hb2)
      have f2 := f1.trans (Fr.of_below hb2)
      clear HL1 HG1 HF hb2 f1
      go_wp2_with fail
      refine (HR3.out _ HL2.out HG2.out).mono ?_
      rintro e w3 ⟨rfl, h3, f3⟩
      have f4 := f2.trans f3
      clear HL2 HG2 HR3 f2 f3
      go_wp2
      go_ret
      exact post_off HE2.out hD rfl h3 f4
    · have HR2 := HR.out
      rw [er_on hD, hD] at HR2
      have HR3 := Lib.hid HR2
      have hln := puts_len (recW d.L.length l) d
      have hlf := puts_left (recW d.L.length l) hi
      have hw1 := puts_wr (recW d.L.length l) d
      rw [recW_len] at hw1
      have hnx : nIx l ≤ 2048 := by unfold nIx; omega
      have HT : Hid (∀ wq, Lg wq q g s (puts d (recW d.L.length l)) false → Grp (Tri q g s) wq A l → Calls Try.prog 34 #[.pointer (some ⟨q, 0, none⟩), .slice A l.length c] wq (LPost (.int .i64 (er (puts d (comW d.L.length l)))) q g s (puts d (comW d.L.length l)) (!(puts d (comW d.L.length l)).on) wq)) := fun wq hq hg => by
        have := settle_all (d := puts d (recW d.L.length l)) c hq hD (by rw [hln]; exact hn) hg (by rw [hln]; exact hok) hc hm hlf (by omega)
        rw [hln, ← HE.out] at this
        exact this
      clear HR HR2 HE hln hlf hw1 hi hwr
      generalize puts d (recW d.L.length l) = DD at *
      generalize puts d (comW d.L.length l) = DC at *
      go_enter Try.func17, Try.ntmps17
      go_wp2_with fail
      refine HU.out.mono ?_
      rintro e w1 ⟨rfl, h1, f1⟩
      have HL1 := Lib.hid h1
      have HG1 := Lib.hid (HG.out.fr f1)
      clear HU h1 HG
      go_wp2_with fail
      refine (HF.out _ HL1.out HG1.out).mono ?_
      rintro e w2 ⟨rfl, hb2⟩
      have HL2 := Lib.hid (HL1.out.below hb2)
      have HG2 := Lib.hid (HG1.out.below hb2)
      have f2 := f1.trans (Fr.of_below hb2)
      clear HL1 HG1 HF hb2 f1
      go_wp2_with fail
      refine (HR3.out _ HL2.out HG2.out).mono ?_
      rintro e w3 ⟨rfl, h3, f3⟩
      have f4 := f2.trans f3
      have HL3 := Lib.hid h3
      have HG3 := Lib.hid (HG2.out.fr f3)
      clear HL2 HG2 HR3 f2 f3 h3
      go_wp2_with fail
      refine (HT.out _ HL3.out HG3.out).mono ?_
      rintro e w4 ⟨rfl, h4, f5⟩
      have f6 := f4.trans f5
      clear HL3 HG3 HT f4 f5
      go_wp2
      go_ret
      exact ⟨rfl, h4, f6⟩
end
end Go.Proofs.Ytkklplccngdalaa.Dk
