/-
  Contracts of the document's Slots, Sum, Free and Same, and of the laws' own small.
-/
import Derived.Test.YthgoapcafjijfaaPgW1
namespace Go.Proofs.Ythgoapcafjijfaa.Pg
open Go.RowKit

def SlRel (n : Nat) (w : World) (i : Value) (wr : World) : Prop := ∃ j : Nat, i = .int .i64 (j : Int) ∧ 1 ≤ j ∧ j ≤ 5 ∧ 32 * (j - 1) < n ∧ w = wr
set_option maxRecDepth 100000 in
set_option maxHeartbeats 400000 in
theorem refSlots_all (p : Rec) (B : Option Addr) (c : Nat) (w : World) :
    Calls Try.prog 19 #[.agg #[.string p.1, .slice B p.2.length c]] w (Val (.int .i64 ((slotsP p : Nat) : Int)) w) := by
  obtain ⟨s, b⟩ := p
  simp only
  have hb := (Below.refl w.heap.size w).alloc (Nat.le_refl _) (.cells #[.string s, .slice B b.length c] 37)
  have hS : slotsP (s, b) = if 1 ≤ s.size ∧ s.size ≤ 20 ∧ 2 + s.size + b.length ≤ 128 then (2 + s.size + b.length + 31) / 32 else 0 := rfl
  have HS := Lib.hid hS
  clear hS
  generalize slotsP (s, b) = S at *
  generalize hn : s.size = n at *
  generalize b.length = m at *
  by_cases g1 : n = 0
  · have d1 : ((n : Int) == 0) = true := by simp; omega
    go_enter Try.func19, Try.ntmps19
    go_wp2
    all_goals first | (exfalso; omega) | skip
    go_ret
    exact ⟨ret_int (by rw [HS.out, if_neg (by omega)]; rfl), hb⟩
  · have d1 : ((n : Int) == 0) = false := beq_eq_false_iff_ne.2 (by omega)
    by_cases g2 : 20 < n
    · have d2 : decide ((20 : Int) < (n : Int)) = true := decide_eq_true (by omega)
      go_enter Try.func19, Try.ntmps19
      go_wp2
      all_goals first | (exfalso; omega) | skip
      go_ret
      exact ⟨ret_int (by rw [HS.out, if_neg (by omega)]; rfl), hb⟩
    · have d2 : decide ((20 : Int) < (n : Int)) = false := decide_eq_false (by omega)
      by_cases g3 : 126 < m
      · have d3 : decide ((126 : Int) < (m : Int)) = true := decide_eq_true (by omega)
        go_enter Try.func19, Try.ntmps19
        go_wp2
        all_goals first | (exfalso; omega) | skip
        go_ret
        exact ⟨ret_int (by rw [HS.out, if_neg (by omega)]; rfl), hb⟩
      · have d3 : decide ((126 : Int) < (m : Int)) = false := decide_eq_false (by omega)
        have iw : IntKind.i64.wrap (2 + (n : Int) + (m : Int)) = 2 + (n : Int) + (m : Int) := by rw [IntKind.wrap_i64]; omega
        go_enter Try.func19, Try.ntmps19
        go_wp2
        all_goals first | (exfalso; omega) | skip
        go_loopw [4] (SlRel (2 + n + m) (w.alloc (.cells #[.string s, .slice B m c] 37))) (fun i _ => 5 - (intOf i).toNat)
        case atStart => exact ⟨1, rfl, by omega, by omega, by omega, rfl⟩
        case round =>
          obtain ⟨j, rfl, j1, j2, j3, rfl⟩ := hrel
          by_cases h5 : j ≤ 4
          · by_cases hle : 2 + n + m ≤ 32 * j
            · go_wp2
              all_goals first | (exfalso; omega) | skip
              go_ret
              exact ⟨ret_int (by rw [HS.out, if_pos (by omega)]; omega), hb⟩
            · go_wp2
              all_goals first | (exfalso; omega) | skip
              go_roundw
              case rel => exact ⟨j + 1, by go_num, by omega, by omega, by omega, rfl⟩
              case measure => simp [intOf]; omega
          · go_wp2
            all_goals first | (exfalso; omega) | skip
            go_ret
            exact ⟨ret_int (by rw [HS.out, if_neg (by omega)]; rfl), hb⟩

def SumPost (l : List Rec) (w : World) (e : Ending) (w' : World) : Prop :=
  ∃ n : Int, e = .returned (.int .i64 n) ∧ ((allP l ∧ 0 ≤ n ∧ n ≤ 11 ∧ (n ≤ 7 → n = (sumP l : Int)) ∧ (7 < n → 7 < sumP l)) ∨ (¬ allP l ∧ n = -1)) ∧ Below w.heap.size w w'
def SumRel (l : List Rec) (w : World) (s i : Value) (wr : World) : Prop :=
  ∃ k S : Nat, i = .int .i64 (k : Int) ∧ s = .int .i64 (S : Int) ∧ k ≤ l.length ∧ allP (l.take k) ∧ S ≤ 11 ∧ (S ≤ 7 → S = sumP (l.take k)) ∧ (7 < S → 7 < sumP (l.take k)) ∧ Below w.heap.size w wr
set_option maxRecDepth 100000 in
set_option maxHeartbeats 1000000 in
theorem refSum_all (X : Nat → Prop) (A : Option Addr) (l : List Rec) (c : Nat) (w : World) (h : Recs X w A l) (hs : l.length ≤ 1000000) :
    Calls Try.prog 22 #[.slice A l.length c] w (SumPost l w) := by
  go_enter Try.func22, Try.ntmps22
  go_wp2
  go_loopw [3, 4] (SumRel l w) (fun _ i _ => l.length - (intOf i).toNat)
  case atStart => exact ⟨0, 0, rfl, rfl, by omega, by intro p hp; simp at hp, by omega, fun _ => rfl, fun h => by omega, Below.refl _ _⟩
  case round =>
    obtain ⟨k, S, rfl, rfl, hk, hall, hS, hS1, hS2, hw⟩ := hrel
    by_cases hlt : k < l.length
    · obtain ⟨ad, B, c', rfl, hlt2, g1, g2, g3, g4, g5, g6⟩ := (h.below (hw.mono (Nat.le_refl _))).at_ hlt
      have hmem := List.getElem_mem hlt
      have hsum := sum_take hlt
      have hal := Lib.hid (all_take hlt hall)
      have hno : Hid (¬ recP l[k] → ¬ allP l) := fun hn ha => hn (ha _ hmem)
      have h4 := slots_four l[k]
      have hpos := Lib.hid (@slots_pos l[k])
      have hnop := Lib.hid (@slots_no l[k])
      clear hall g5 hmem h
      generalize l[k] = p at *
      go_wp2_with fail
      refine (refSlots_all p B c' _).mono ?_
      rintro e w2 ⟨rfl, hb2⟩
      have hB2 := hw.trans (hb2.mono hw.size)
      clear hb2 hw
      by_cases hr : recP p
      · have hp := hpos.out hr
        have e0 : (((slotsP p : Nat) : Int) == 0) = false := beq_eq_false_iff_ne.2 (by omega)
        have ha := Lib.hid (hal.out hr)
        clear hpos hnop hno hal
        generalize slotsP p = q at *
        by_cases h8 : S < 8
        · have hs1 := hS1 (by omega)
          have HT := Lib.hid hsum
          have HS := Lib.hid hs1
          clear hS1 hS2 hsum hs1
          go_wp2
          all_goals first | (exfalso; omega) | skip
          go_roundw
          case rel => exact ⟨k + 1, S + q, by go_num, by go_num, by omega, ha.out, by omega, fun _ => by have := HT.out; have := HS.out; omega, fun _ => by have := HT.out; have := HS.out; omega, hB2⟩
          case measure => simp [intOf]; omega
        · have hs2 := Lib.hid (hS2 (by omega))
          have HT := Lib.hid hsum
          clear hS1 hS2 hsum
          go_wp2
          all_goals first | (exfalso; omega) | skip
          go_roundw
          case rel => exact ⟨k + 1, S, by go_num, by go_num, by omega, ha.out, by omega, fun _ => by omega, fun _ => by have := HT.out; have := hs2.out; omega, hB2⟩
          case measure => simp [intOf]; omega
      · have e0 := hnop.out hr
        have hna := Lib.hid (hno.out hr)
        rw [e0]
        clear hpos hnop hno hal hsum hS1 hS2
        go_wp2
        go_ret
        exact ⟨-1, rfl, .inr ⟨hna.out, rfl⟩, hB2⟩
    · obtain rfl : k = l.length := by omega
      rw [List.take_length] at hall hS1 hS2
      have HP : Hid (allP l ∧ 0 ≤ (S : Int) ∧ (S : Int) ≤ 11 ∧ ((S : Int) ≤ 7 → (S : Int) = (sumP l : Int)) ∧ (7 < (S : Int) → 7 < sumP l)) := ⟨hall, by omega, by omega, fun h => by have := hS1 (by omega); omega, fun h => hS2 (by omega)⟩
      clear h hS1 hS2 hall
      go_wp2
      go_ret
      exact ⟨(S : Int), rfl, .inl HP.out, hw⟩

set_option maxRecDepth 100000 in
set_option maxHeartbeats 400000 in
theorem refFree_all (X : Nat → Prop) (A : Option Addr) (l : List Rec) (c : Nat) (w : World) (h : Recs X w A l) (hs : l.length ≤ 1000000) :
    Calls Try.prog 14 #[.slice A l.length c] w (Val (.int .i64 ((freeP l : Nat) : Int)) w) := by
  have HU := Lib.hid (refSum_all X A l c w h hs)
  clear h
  go_enter Try.func14, Try.ntmps14
  go_wp2_with fail
  with_reducible refine HU.out.mono ?_
  rintro e w1 ⟨n, rfl, h1, hb⟩
  rcases h1 with ⟨ha, n0, n1, n2, n3⟩ | ⟨ha, rfl⟩
  · have hf : freeP l = 7 - sumP l := if_pos ha
    have HF := Lib.hid hf
    have d0 : decide (n < 0) = false := decide_eq_false (by omega)
    by_cases h7 : 7 < n
    · have HT := Lib.hid (n3 h7)
      have d1 : decide (7 < n) = true := decide_eq_true h7
      clear HU hf n2 n3
      go_wp2
      all_goals first | (exfalso; omega) | skip
      go_ret
      exact ⟨ret_int (by have := HT.out; rw [HF.out]; omega), hb⟩
    · have HT := Lib.hid (n2 (by omega))
      have d1 : decide (7 < n) = false := decide_eq_false h7
      clear HU hf n2 n3
      go_wp2
      all_goals first | (exfalso; omega) | skip
      go_ret
      exact ⟨ret_int (by have := HT.out; rw [HF.out]; omega), hb⟩
  · have hf : freeP l = 0 := if_neg ha
    have HF := Lib.hid hf
    clear HU hf
    go_wp2
    go_ret
    exact ⟨ret_int (by rw [HF.out]; rfl), hb⟩

/-! ### Same -/
theorem str_ne {s t : ByteArray} (h : s ≠ t) : (s.toList == t.toList) = false := beq_eq_false_iff_ne.2 fun e => h (by
  cases s; cases t
  simp only [ByteArray.toList_eq] at e
  congr 1
  exact Array.toList_inj.1 e)
def SmRel (l m : List Rec) (w : World) (i : Value) (wr : World) : Prop := ∃ k : Nat, i = .int .i64 (k : Int) ∧ k ≤ l.length ∧ l.take k = m.take k ∧ Below w.heap.size w wr
set_option maxRecDepth 100000 in
set_option maxHeartbeats 2000000 in
theorem same_all (X Y : Nat → Prop) (A B : Option Addr) (l m : List Rec) (c c' : Nat) (w : World) (h : Recs X w A l) (k : Recs Y w B m) (hl : l.length ≤ 1000000) (_hm : m.length ≤ 1000000) :
    Calls Try.prog 17 #[.slice A l.length c, .slice B m.length c'] w (Val (.bool (decide (l = m))) w) := by
  by_cases hlm : l.length = m.length
  · have HLM := Lib.hid hlm
    rw [← hlm]
    clear hlm
    go_enter Try.func17, Try.ntmps17
    go_wp2
    go_loopw [5] (SmRel l m w) (fun i _ => l.length - (intOf i).toNat)
    case atStart => exact ⟨0, rfl, by omega, by simp, Below.refl _ _⟩
    case round =>
      obtain ⟨i, rfl, hi, heq, hw⟩ := hrel
      by_cases hlt : i < l.length
      · have hlt' : i < m.length := by have := HLM.out; omega
        obtain ⟨ad, D, d, rfl, _, g1, g2, _, _, g5, _⟩ := (h.below hw).at_ hlt
        obtain ⟨ad', D', d', rfl, _, g1', g2', _, _, g5', _⟩ := (k.below hw).at_ hlt'
        have v1 := fun n => conv_lie d (g5.lie.drewN n)
        have v2 := fun n => conv_lie d' (g5'.lie.drewN n)
        have HNE : Hid (l[i] ≠ m[i] → l ≠ m) := fun hne he => hne (by simp [he])
        have HEQ : Hid (l[i] = m[i] → l.take (i + 1) = m.take (i + 1)) := fun he => by
          rw [take_snoc hlt, take_snoc hlt', heq, he]
        have hi0 : (0 : Int) ≤ (i : Int) := by omega
        have hi1 : (i : Int) < (l.length : Int) := by omega
        clear heq h k g5 g5'
        generalize l[i] = p at *
        generalize m[i] = q at *
        obtain ⟨p1, p2⟩ := p
        obtain ⟨q1, q2⟩ := q
        simp only at g1 g2 g1' g2' v1 v2
        by_cases e1 : p1 = q1
        · subst e1
          by_cases e2 : p2 = q2
          · subst e2
            have HT := Lib.hid (HEQ.out rfl)
            clear HEQ HNE
            go_wp2_with fail
            go_quiet (fail)
            go_wp2
            go_roundw
            case rel => exact ⟨i + 1, by go_num, by omega, HT.out, below_drewN hw _⟩
            case measure => simp [intOf]; omega
          · have d2 : (p2 == q2) = false := beq_eq_false_iff_ne.2 e2
            have hd := Lib.hid (decide_eq_false (HNE.out (fun e => e2 (by injection e))))
            clear HEQ HNE e2
            go_wp2_with fail
            go_quiet (fail)
            go_wp2
            go_ret
            exact ⟨ret_bool hd.out.symm, below_drewN hw _⟩
        · have d1 : (p1.toList == q1.toList) = false := str_ne e1
          have hd := Lib.hid (decide_eq_false (HNE.out (fun e => e1 (by injection e))))
          clear HEQ HNE e1 v1 v2
          go_wp2_with fail
          go_quiet (fail)
          go_wp2
          go_ret
          exact ⟨ret_bool hd.out.symm, below_drewN hw _⟩
      · obtain rfl : i = l.length := by omega
        have hd : Hid (decide (l = m) = true) := decide_eq_true (by
          have e := heq
          rw [HLM.out, List.take_length] at e
          rw [← HLM.out, List.take_length] at e
          exact e)
        clear h k heq
        go_wp2
        go_ret
        exact ⟨ret_bool hd.out.symm, hw⟩
  · have hd := Lib.hid (decide_eq_false (show ¬ l = m from fun e => hlm (by rw [e])))
    have b1 : ((l.length : Int) == (m.length : Int)) = false := beq_eq_false_iff_ne.2 (by omega)
    clear h k
    generalize l.length = x at *
    generalize m.length = y at *
    go_enter Try.func17, Try.ntmps17
    go_wp2
    all_goals first | (exfalso; omega) | skip
    go_ret
    exact ⟨ret_bool hd.out.symm, Below.refl _ _⟩
end Go.Proofs.Ythgoapcafjijfaa.Pg
