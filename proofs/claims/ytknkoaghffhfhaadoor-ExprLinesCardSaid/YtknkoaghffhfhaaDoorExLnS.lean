/-
  ExprLines: the walk where there is a tree of two parts.
-/
import Derived.Test.YtknkoaghffhfhaaDoorExLn0
import Derived.Deep.QuietTactic
import Derived.BigQuiet
namespace Go.Proofs.YtknkoaghffhfhaaDoor.Ep
open Go.RowKit Lx

theorem kin4 {w : World} {g off q : Nat} {x y : Ex} (h : Kin w g off x y) (hn : g ≠ q) (x0 x1 x2 x3 : Value) : Kin ((((w.setCell ⟨q, 0, none⟩ x0).setCell ⟨q, 1, none⟩ x1).setCell ⟨q, 2, none⟩ x2).setCell ⟨q, 3, none⟩ x3) g off x y :=
  h.block ((Below.heap_setCell _ _ _ _ hn).trans ((Below.heap_setCell _ _ _ _ hn).trans ((Below.heap_setCell _ _ _ _ hn).trans (Below.heap_setCell _ _ _ _ hn)))) (by simp [World.setCell])

set_option maxRecDepth 100000 in
set_option maxHeartbeats 8000000 in
theorem lines_some (i k : Nat) (hi : i < 13) (hk : k < 13) (w : World) (hTab : Tab w) (hO : Ops w) (op n : Int) (nm : List UInt8) (x y : Ex) (f a : Int) (hpn : parseP (lnT i k) = (some (.mk op n nm [x, y]), f, a)) :
    Calls Tryd.prog 6 #[.int .i64 i, .int .i64 k] w fun e w' => e = .returned (.bool true) ∧ Below w.heap.size w w' := by
  have zi := lnS_len i hi
  have zk := lnS_len k hk
  have d1 : decide ((13 : Int) ≤ (i : Int)) = false := by simp; omega
  have d2 : decide ((13 : Int) ≤ (k : Int)) = false := by simp; omega
  have i0 : (0 : Int) ≤ (i : Int) := by omega
  have i1 : (i : Int) < 13 := by omega
  have k0 : (0 : Int) ≤ (k : Int) := by omega
  have k1 : (k : Int) < 13 := by omega
  go_enter Tryd.func6, Tryd.ntmps6
  go_wp2_with fail
  refine (awake_any _ hO hTab).mono ?_
  rintro e w1 ⟨rfl, hb1⟩
  have hO1 := hO.below hb1 hO.lt
  go_wp2_with fail
  generalize hW : (w1.alloc (Obj.cells #[.string ⟨#[43]⟩, .string ⟨#[45]⟩, .string ⟨#[42]⟩, .string ⟨#[47]⟩, .string ⟨#[37]⟩, .string ⟨#[60]⟩, .string ⟨#[60, 61]⟩, .string ⟨#[62]⟩, .string ⟨#[62, 61]⟩, .string ⟨#[61, 61]⟩, .string ⟨#[33, 61]⟩, .string ⟨#[38]⟩, .string ⟨#[124]⟩] 9)).alloc (Obj.cells #[.int .i64 4, .int .i64 4, .int .i64 5, .int .i64 5, .int .i64 5, .int .i64 3, .int .i64 3, .int .i64 3, .int .i64 3, .int .i64 3, .int .i64 3, .int .i64 2, .int .i64 1] 3) = W
  have hbW : Below w1.heap.size w1 W := by rw [← hW]; exact ((Below.refl _ _).alloc (Nat.le_refl _) _).alloc (by simp) _
  have hxS : Box W w1.heap.size 9 #[.string ⟨#[43]⟩, .string ⟨#[45]⟩, .string ⟨#[42]⟩, .string ⟨#[47]⟩, .string ⟨#[37]⟩, .string ⟨#[60]⟩, .string ⟨#[60, 61]⟩, .string ⟨#[62]⟩, .string ⟨#[62, 61]⟩, .string ⟨#[61, 61]⟩, .string ⟨#[33, 61]⟩, .string ⟨#[38]⟩, .string ⟨#[124]⟩] := by rw [← hW]; exact (Box.new w1 _ _).alloc _
  have hxL : Box W (w1.heap.size + 1) 3 #[.int .i64 4, .int .i64 4, .int .i64 5, .int .i64 5, .int .i64 5, .int .i64 3, .int .i64 3, .int .i64 3, .int .i64 3, .int .i64 3, .int .i64 3, .int .i64 2, .int .i64 1] := by
    have := Box.new (w1.alloc (Obj.cells #[.string ⟨#[43]⟩, .string ⟨#[45]⟩, .string ⟨#[42]⟩, .string ⟨#[47]⟩, .string ⟨#[37]⟩, .string ⟨#[60]⟩, .string ⟨#[60, 61]⟩, .string ⟨#[62]⟩, .string ⟨#[62, 61]⟩, .string ⟨#[61, 61]⟩, .string ⟨#[33, 61]⟩, .string ⟨#[38]⟩, .string ⟨#[124]⟩] 9)) 3 #[.int .i64 4, .int .i64 4, .int .i64 5, .int .i64 5, .int .i64 5, .int .i64 3, .int .i64 3, .int .i64 3, .int .i64 3, .int .i64 3, .int .i64 3, .int .i64 2, .int .i64 1]
    rw [← hW]; simpa using this
  have hOW := hO1.below hbW hO1.lt
  have hl1 := hxS.lt
  have hl2 := hxL.lt
  have HS : Hid (∀ X, Below W.heap.size W X → X.cell? ⟨w1.heap.size, i, none⟩ = some (.string ⟨(lnS i).toArray⟩) ∧ X.cell? ⟨w1.heap.size, k, none⟩ = some (.string ⟨(lnS k).toArray⟩)) := fun X hb => ⟨(hb.cell (p := ⟨w1.heap.size, i, none⟩) hl1).trans ((hxS.cell i).trans (ln_s i hi)), (hb.cell (p := ⟨w1.heap.size, k, none⟩) hl1).trans ((hxS.cell k).trans (ln_s k hk))⟩
  have HL : Hid (∀ X, Below W.heap.size W X → X.cell? ⟨w1.heap.size + 1, i, none⟩ = some (.int .i64 (lnL i)) ∧ X.cell? ⟨w1.heap.size + 1, k, none⟩ = some (.int .i64 (lnL k))) := fun X hb => ⟨(hb.cell (p := ⟨w1.heap.size + 1, i, none⟩) hl2).trans ((hxL.cell i).trans (ln_l i hi)), (hb.cell (p := ⟨w1.heap.size + 1, k, none⟩) hl2).trans ((hxL.cell k).trans (ln_l k hk))⟩
  have HB : Hid (∀ X, Below W.heap.size W X → Below w.heap.size w X) := fun X hb => (hb1.trans (hbW.mono hb1.size)).trans (hb.mono (Nat.le_trans hb1.size hbW.size))
  have hall := ln_all ⟨i, hi⟩ ⟨k, hk⟩
  unfold lnOK at hall
  simp only at hall
  rw [hpn] at hall
  simp only [Bool.and_eq_true, decide_eq_true_eq] at hall
  have HALL := Lib.hid hall
  have HP := Lib.hid hpn
  clear hall hpn hW hbW hxS hxL hl1 hl2 hb1 hO1
  have HPW := Lib.hid (ln_some i k hi hk _ f a HP.out)
  have hOd : Ops W.drew := ⟨hOW.blk⟩
  have hOz : Ops (W.alloc (Obj.cells #[.int .i64 0, .int .i64 0, .string ⟨#[]⟩, .slice none 0 0] 24)).drew := ⟨(hOW.alloc (Obj.cells #[.int .i64 0, .int .i64 0, .string ⟨#[]⟩, .slice none 0 0] 24)).blk⟩
  have hBd : Below W.heap.size W W.drew := (Below.refl _ W).drew
  have hBz : Below W.heap.size W (W.alloc (Obj.cells #[.int .i64 0, .int .i64 0, .string ⟨#[]⟩, .slice none 0 0] 24)).drew := ((Below.refl _ W).alloc (Nat.le_refl _) _).drew
  have sd := HS.out _ hBd
  have sz := HS.out _ hBz
  have sz' := HS.out _ ((Below.refl _ W).alloc (Nat.le_refl _) (Obj.cells #[.int .i64 0, .int .i64 0, .string ⟨#[]⟩, .slice none 0 0] 24))
  have hOW' := Lib.hid hOW
  have hPA : (Calls Tryd.prog 12 #[.string (CatS i k)] W.drew (fun e w' => ∃ v, e = .returned (.tuple #[v, .int .i64 f, .int .i64 a]) ∧ TwoV W.heap.size w' op n nm x y v ∧ Below W.heap.size W w')) := (HPW.out W.drew hOd).mono fun e w' ⟨v, h, hT, hb⟩ => ⟨v, h, hT.two, hBd.trans hb⟩
  have hPB : (Calls Tryd.prog 12 #[.string (CatS i k)] (W.alloc (Obj.cells #[.int .i64 0, .int .i64 0, .string ⟨#[]⟩, .slice none 0 0] 24)).drew (fun e w' => ∃ v, e = .returned (.tuple #[v, .int .i64 f, .int .i64 a]) ∧ TwoV (W.heap.size + 1) w' op n nm x y v ∧ Below W.heap.size W w' ∧ Box w' W.heap.size 24 #[.int .i64 0, .int .i64 0, .string ⟨#[]⟩, .slice none 0 0])) := (HPW.out (W.alloc (Obj.cells #[.int .i64 0, .int .i64 0, .string ⟨#[]⟩, .slice none 0 0] 24)).drew hOz).mono fun e w' ⟨v, h, hT, hb⟩ => ⟨v, h, (by have := hT.two; have e : (W.alloc (Obj.cells #[.int .i64 0, .int .i64 0, .string ⟨#[]⟩, .slice none 0 0] 24)).drew.heap.size = W.heap.size + 1 := (by show (W.alloc _).heap.size = _; simp); rw [e] at this; exact this), hBz.trans (hb.mono (by show W.heap.size ≤ (W.alloc _).heap.size; simp)), (Box.new W 24 #[.int .i64 0, .int .i64 0, .string ⟨#[]⟩, .slice none 0 0]).drew.below hb (by show W.heap.size < (W.alloc _).heap.size; simp)⟩
  unfold CatS at hPA hPB
  have HPA := Lib.hid hPA
  have HPB := Lib.hid hPB
  clear hPA hPB HPW hOd hOz hBd hBz hOW
  go_cut [8, 9, 10] (fun v8 v9 v10 wx => SomeR op n nm x y f a W v8 v9 v10 wx)
  case first =>
    go_region_held (fun w' => w'.cell? ⟨w1.heap.size, i, none⟩ = some (.string ⟨(lnS i).toArray⟩) ∧ w'.cell? ⟨w1.heap.size, k, none⟩ = some (.string ⟨(lnS k).toArray⟩)) (first | with_reducible exact sd | with_reducible exact sz | with_reducible exact sz' | with_reducible exact s2 | with_reducible exact sA | with_reducible exact sB)
      (first | (go_at_call 12; (with_reducible refine HPA.out.mono ?_); rintro e w2 ⟨v, rfl, hT, hW2⟩; have s2 := HS.out _ hW2; obtain ⟨cap, g, off, rfl, hcap, hlo, hkin⟩ := hT; have sA := HS.out _ (hW2.alloc hW2.size (Obj.cells #[.int .i64 0, .int .i64 0, .string ⟨#[]⟩, .slice none 0 0] 24)); have bA := hW2.alloc hW2.size (Obj.cells #[.int .i64 op, .int .i64 n, .string ⟨nm.toArray⟩, .slice (some ⟨g, off, none⟩) 2 cap] 24); have sB := HS.out _ bA; have hxA := Box.new w2 24 #[.int .i64 op, .int .i64 n, .string ⟨nm.toArray⟩, .slice (some ⟨g, off, none⟩) 2 cap]; have hkA := hkin.block (Below.heap_alloc w2 (Obj.cells #[.int .i64 op, .int .i64 n, .string ⟨nm.toArray⟩, .slice (some ⟨g, off, none⟩) 2 cap] 24) g hkin.1) (by simp); skip) | (go_at_call 12; (with_reducible refine HPB.out.mono ?_); rintro e w2 ⟨v, rfl, hT, hW2, hzz⟩; have s2 := HS.out _ hW2; obtain ⟨z0, z1, z2, z3, z4, z5, z6, z7⟩ := hzz.four; obtain ⟨cap, g, off, rfl, hcap, hlo, hkin⟩ := hT; have bA := below_set4 hW2 (Nat.le_refl W.heap.size) (.int .i64 op) (.int .i64 n) (.string ⟨nm.toArray⟩) (.slice (some ⟨g, off, none⟩) 2 cap); have sA := HS.out _ bA; have sB := sA; have hxA := hzz.set4 (.int .i64 op) (.int .i64 n) (.string ⟨nm.toArray⟩) (.slice (some ⟨g, off, none⟩) 2 cap); have hkA := kin4 hkin (show g ≠ W.heap.size by omega) (.int .i64 op) (.int .i64 n) (.string ⟨nm.toArray⟩) (.slice (some ⟨g, off, none⟩) 2 cap); skip))
    all_goals (go_wp2_with fail; go_meet; exact ⟨_, cap, g, off, rfl, rfl, rfl, hxA, hcap, hkA, bA⟩)
  case rest =>
    obtain ⟨z, cap, g, off, rfl, rfl, rfl, hx, hcap, hkin, hbx⟩ := hcut
    obtain ⟨c1, c2⟩ := HS.out _ hbx
    obtain ⟨m1, m2⟩ := HL.out _ hbx
    have hB := HB.out _ hbx
    obtain ⟨z0, z1, z2, z3, z4, z5, z6, z7⟩ := hx.four
    obtain ⟨hgl, x0, x2, y0, y2⟩ := hkin
    obtain ⟨⟨rfl, h33⟩, hop⟩ := HALL.out
    clear HS HL HB HALL HP HPA HPB sd sz sz' hbx hx
    generalize lnL i = li at *
    generalize lnL k = lk at *
    have q1 : (2 : Int) ≤ (cap : Int) := by omega
    by_cases hle : lk ≤ li
    · rw [if_pos hle] at hop
      simp only [Bool.and_eq_true, decide_eq_true_eq] at hop
      obtain ⟨⟨rfl, ho⟩, hn⟩ := hop
      rw [ho] at x0
      rw [hn] at y2
      have b1 : decide (lk ≤ li) = true := by simpa using hle
      by_cases h3 : li = 3
      · have h4 : lk ≠ 3 := fun e => by simp [h3, e] at h33
        have b2 : (li == 3) = true := by simp [h3]
        have b3 : (lk == 3) = false := beq_eq_false_iff_ne.2 h4
        clear h33 h3 h4 ho hn
        go_wp2_with fail
        go_quiet (fail)
        go_wp2
        go_ret
        exact ⟨rfl, hB.os, hB.tape, hB.output, hB.size, hB.block⟩
      · have b2 : (li == 3) = false := beq_eq_false_iff_ne.2 h3
        clear h33 h3 ho hn
        go_wp2_with fail
        go_quiet (fail)
        go_wp2
        go_ret
        exact ⟨rfl, hB.os, hB.tape, hB.output, hB.size, hB.block⟩
    · rw [if_neg hle] at hop
      simp only [Bool.and_eq_true, decide_eq_true_eq] at hop
      obtain ⟨⟨rfl, ho⟩, hn⟩ := hop
      rw [ho] at y0
      rw [hn] at x2
      have b1 : decide (lk ≤ li) = false := by simpa using hle
      by_cases h3 : li = 3
      · have h4 : lk ≠ 3 := fun e => by omega
        have b2 : (li == 3) = true := by simp [h3]
        have b3 : (lk == 3) = false := beq_eq_false_iff_ne.2 h4
        clear h33 h3 h4 ho hn
        go_wp2_with fail
        go_quiet (fail)
        go_wp2
        go_ret
        exact ⟨rfl, hB.os, hB.tape, hB.output, hB.size, hB.block⟩
      · have b2 : (li == 3) = false := beq_eq_false_iff_ne.2 h3
        clear h33 h3 ho hn
        go_wp2_with fail
        go_quiet (fail)
        go_wp2
        go_ret
        exact ⟨rfl, hB.os, hB.tape, hB.output, hB.size, hB.block⟩
end Go.Proofs.YtknkoaghffhfhaaDoor.Ep
