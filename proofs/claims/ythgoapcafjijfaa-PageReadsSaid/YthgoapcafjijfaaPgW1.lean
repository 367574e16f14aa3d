/-
  Contracts of page's Slots, used, Free, increasing, and of the document's Slots, Sum, Free.
-/
import Derived.Test.YthgoapcafjijfaaPgB
namespace Go.Proofs.Ythgoapcafjijfaa.Pg
open Go.RowKit

/-- A call has answered v; nothing that was there has turned. -/
def Val (v : Value) (w : World) (e : Ending) (w' : World) : Prop := e = .returned v ∧ Below w.heap.size w w'

set_option maxRecDepth 100000 in
set_option maxHeartbeats 400000 in
theorem slots_all (p : Rec) (B : Option Addr) (c : Nat) (w : World) (h1 : p.1.size ≤ 1000000) (h2 : p.2.length ≤ 1000000) :
    Calls Try.prog 18 #[.agg #[.string p.1, .slice B p.2.length c]] w (Val (.int .i64 ((slotsP p : Nat) : Int)) w) := by
  obtain ⟨s, b⟩ := p
  simp only at h1 h2 ⊢
  have hb := (Below.refl w.heap.size w).alloc (Nat.le_refl _) (.cells #[.string s, .slice B b.length c] 37)
  have hS : slotsP (s, b) = if 1 ≤ s.size ∧ s.size ≤ 20 ∧ 2 + s.size + b.length ≤ 128 then (2 + s.size + b.length + 31) / 32 else 0 := rfl
  have HS := Lib.hid hS
  clear hS
  generalize slotsP (s, b) = S at *
  generalize hn : s.size = n at *
  generalize b.length = m at *
  by_cases g1 : n < 1
  · have d1 : decide ((n : Int) < 1) = true := decide_eq_true (by omega)
    go_enter Try.func18, Try.ntmps18
    go_wp2
    all_goals first | (exfalso; omega) | skip
    go_ret
    exact ⟨ret_int (by rw [HS.out, if_neg (by omega)]; rfl), hb⟩
  · have d1 : decide ((n : Int) < 1) = false := decide_eq_false (by omega)
    by_cases g2 : 20 < n
    · have d2 : decide ((20 : Int) < (n : Int)) = true := decide_eq_true (by omega)
      go_enter Try.func18, Try.ntmps18
      go_wp2
      all_goals first | (exfalso; omega) | skip
      go_ret
      exact ⟨ret_int (by rw [HS.out, if_neg (by omega)]; rfl), hb⟩
    · have d2 : decide ((20 : Int) < (n : Int)) = false := decide_eq_false (by omega)
      by_cases g3 : 128 < 2 + n + m
      · go_enter Try.func18, Try.ntmps18
        go_wp2
        all_goals first | (exfalso; omega) | skip
        go_ret
        exact ⟨ret_int (by rw [HS.out, if_neg (by omega)]; rfl), hb⟩
      · go_enter Try.func18, Try.ntmps18
        go_wp2
        all_goals first | (exfalso; omega) | skip
        go_ret
        exact ⟨ret_int (by rw [HS.out, if_pos (by omega)]; omega), hb⟩

def smP (l : List Rec) : Prop := l.length ≤ 1000000 ∧ ∀ p ∈ l, p.1.size ≤ 1000000 ∧ p.2.length ≤ 1000000
theorem take_snoc {l : List Rec} {k : Nat} (h : k < l.length) : l.take (k + 1) = l.take k ++ [l[k]] := List.take_succ_eq_append_getElem h
theorem sum_take {l : List Rec} {k : Nat} (h : k < l.length) : sumP (l.take (k + 1)) = sumP (l.take k) + slotsP l[k] := by
  rw [take_snoc h, sum_append]
  simp [sumP]
theorem sum_take_le (l : List Rec) (k : Nat) : sumP (l.take k) ≤ 4 * l.length := by
  have := sum_le (l.take k)
  rw [List.length_take] at this
  omega
theorem all_take {l : List Rec} {k : Nat} (h : k < l.length) (a : allP (l.take k)) (r : recP l[k]) : allP (l.take (k + 1)) := by
  rw [take_snoc h]
  intro p hp
  rcases List.mem_append.1 hp with hp | hp
  · exact a p hp
  · rw [List.mem_singleton.1 hp]
    exact r
def UsedPost (l : List Rec) (w : World) (e : Ending) (w' : World) : Prop :=
  ∃ (n : Nat) (b : Bool), e = .returned (.tuple #[.int .i64 (n : Int), .bool b]) ∧ (b = true → allP l ∧ n = sumP l) ∧ (b = false → ¬ allP l ∧ n = 0) ∧ Below w.heap.size w w'
def UsedRel (l : List Rec) (w : World) (s i : Value) (wr : World) : Prop :=
  ∃ k : Nat, i = .int .i64 (k : Int) ∧ s = .int .i64 ((sumP (l.take k) : Nat) : Int) ∧ k ≤ l.length ∧ allP (l.take k) ∧ Below w.heap.size w wr
set_option maxRecDepth 100000 in
set_option maxHeartbeats 1000000 in
theorem used_all (X : Nat → Prop) (A : Option Addr) (l : List Rec) (c : Nat) (w : World) (h : Recs X w A l) (hs : smP l) :
    Calls Try.prog 20 #[.slice A l.length c] w (UsedPost l w) := by
  have hlen := hs.1
  go_enter Try.func20, Try.ntmps20
  go_wp2
  go_loopw [4, 10] (UsedRel l w) (fun _ i _ => l.length - (intOf i).toNat)
  case atStart => exact ⟨0, rfl, rfl, by omega, by intro p hp; simp at hp, Below.refl _ _⟩
  case round =>
    obtain ⟨k, rfl, rfl, hk, hall, hw⟩ := hrel
    by_cases hlt : k < l.length
    · obtain ⟨ad, B, c', rfl, hlt2, g1, g2, g3, g4, g5, g6⟩ := (h.below (hw.mono (Nat.le_refl _))).at_ hlt
      have hsz := hs.2 _ (List.getElem_mem hlt)
      have hmem := List.getElem_mem hlt
      have hsum := Lib.hid (sum_take hlt)
      have hsl := sum_take_le l k
      have hal := Lib.hid (all_take hlt hall)
      have hno : Hid (¬ recP l[k] → ¬ allP l) := fun hn ha => hn (ha _ hmem)
      have h4 := slots_four l[k]
      have hpos := Lib.hid (@slots_pos l[k])
      have hnop := Lib.hid (@slots_no l[k])
      clear hall g5 hmem h
      generalize l[k] = p at *
      have hB := hw.alloc hw.size (.cells #[.string p.1, .slice B p.2.length c'] 37)
      go_wp2_with fail
      refine (slots_all p B c' _ hsz.1 hsz.2).mono ?_
      rintro e w2 ⟨rfl, hb2⟩
      have hB2 := hB.trans (hb2.mono hB.size)
      clear hB hb2 hw
      by_cases hr : recP p
      · have hp := hpos.out hr
        have e0 : (((slotsP p : Nat) : Int) == 0) = false := beq_eq_false_iff_ne.2 (by omega)
        have ha := Lib.hid (hal.out hr)
        clear hpos hnop hno hal
        generalize slotsP p = S at *
        generalize sumP (l.take k) = T at *
        go_wp2
        all_goals first | (exfalso; omega) | skip
        go_roundw
        case rel => exact ⟨k + 1, by go_num, by rw [hsum.out]; go_num, by omega, ha.out, hB2⟩
        case measure => simp [intOf]; omega
      · have e0 := hnop.out hr
        have hna := Lib.hid (hno.out hr)
        rw [e0]
        clear hpos hnop hno hal hsum
        go_wp2
        go_ret2
        exact ⟨0, false, rfl, (fun h => by cases h), fun _ => ⟨hna.out, rfl⟩, hB2⟩
    · obtain rfl : k = l.length := by omega
      rw [List.take_length] at hall
      rw [List.take_length]
      clear h
      go_wp2
      go_ret2
      exact ⟨sumP l, true, rfl, fun _ => ⟨hall, rfl⟩, (fun h => by cases h), hw⟩

set_option maxRecDepth 100000 in
set_option maxHeartbeats 1000000 in
theorem free_all (X : Nat → Prop) (A : Option Addr) (l : List Rec) (c : Nat) (w : World) (h : Recs X w A l) (hs : smP l) :
    Calls Try.prog 13 #[.slice A l.length c] w (Val (.int .i64 ((freeP l : Nat) : Int)) w) := by
  have HU := Lib.hid (used_all X A l c w h hs)
  have hsl := sum_le l
  have hl := hs.1
  clear h hs
  go_enter Try.func13, Try.ntmps13
  go_wp2_with fail
  with_reducible refine HU.out.mono ?_
  rintro e w1 ⟨n, b, rfl, h1, h2, hb⟩
  cases b with
  | true =>
    obtain ⟨ha, rfl⟩ := h1 rfl
    have hf : freeP l = 7 - sumP l := if_pos ha
    have HF := Lib.hid hf
    clear h1 h2 HU hf
    go_wp2
    all_goals
      go_ret
      exact ⟨ret_int (by rw [HF.out]; omega), hb⟩
  | false =>
    obtain ⟨ha, rfl⟩ := h2 rfl
    have hf : freeP l = 0 := if_neg ha
    have HF := Lib.hid hf
    clear h1 h2 HU hf
    go_wp2
    go_ret
    exact ⟨ret_int (by rw [HF.out]; rfl), hb⟩

def incTo (l : List Rec) (k : Nat) : Prop := ∀ i (h : i + 1 < l.length), i < k → less l[i].1 l[i + 1].1 = true
theorem incTo_succ {l : List Rec} {k : Nat} (h : incTo l k) (hk : k + 1 < l.length) (e : less l[k].1 l[k + 1].1 = true) : incTo l (k + 1) := fun i hi hlt => by
  by_cases hik : i = k
  · subst hik
    exact e
  · exact h i hi (by omega)
def IncRel (l : List Rec) (w : World) (i : Value) (wr : World) : Prop := ∃ k : Nat, i = .int .i64 ((k : Int) + 1) ∧ (k = 0 ∨ k + 1 ≤ l.length) ∧ incTo l k ∧ Below w.heap.size w wr
set_option maxRecDepth 100000 in
set_option maxHeartbeats 1000000 in
theorem increasing_all (X : Nat → Prop) (A : Option Addr) (l : List Rec) (c : Nat) (w : World) (h : Recs X w A l) (hs : l.length ≤ 1000000) :
    Calls Try.prog 21 #[.slice A l.length c] w (Val (.bool (decide (incP l))) w) := by
  go_enter Try.func21, Try.ntmps21
  go_wp2
  go_loopw [3] (IncRel l w) (fun i _ => l.length - (intOf i).toNat)
  case atStart => exact ⟨0, rfl, .inl rfl, fun i _ h => by omega, Below.refl _ _⟩
  case round =>
    obtain ⟨k, rfl, hk, hto, hw⟩ := hrel
    have h := h.below hw
    by_cases hlt : k + 1 < l.length
    · obtain ⟨ad, B, c', rfl, hlt2, g1, _, _, _, _, s1⟩ := h.at_ (i := k) (by omega)
      obtain ⟨ad', B', c'', e, _, g2, _, _, _, _, s2⟩ := h.at_ (i := k + 1) hlt
      injection e with e
      subst e
      have hk0 : (0 : Int) ≤ (k : Int) := Int.natCast_nonneg _
      have hto' := Lib.hid (incTo_succ hto hlt)
      have hno : Hid (less l[k].1 l[k + 1].1 = false → ¬ incP l) := fun hf hi => by rw [inc_at hi hlt] at hf; cases hf
      clear hto h
      have hi1 : ((k : Int) + 1) < (l.length : Int) := by omega
      generalize l[k].1 = s at *
      generalize l[k + 1].1 = t at *
      unfold less at hto' hno
      cases hL : Op.bytesLess s.toList t.toList with
      | true =>
        have ha := Lib.hid (hto'.out hL)
        clear hto' hno
        go_wp2_with fail
        go_quiet (fail)
        go_wp2
        go_roundw
        case rel => exact ⟨k + 1, by go_num, .inr hlt, ha.out, below_drewN hw _⟩
        case measure => simp [intOf]; omega
      | false =>
        have ha := Lib.hid (hno.out hL)
        clear hto' hno
        go_wp2_with fail
        go_quiet (fail)
        go_wp2
        go_ret
        exact ⟨ret_bool (decide_eq_false ha.out).symm, below_drewN hw _⟩
    · have hd := Lib.hid (decide_eq_true (inc_of fun i hi => hto i hi (by omega)))
      have hi1 : ¬ ((k : Int) + 1) < (l.length : Int) := by omega
      clear h
      go_wp2
      all_goals first | (exfalso; omega) | skip
      go_ret
      exact ⟨ret_bool hd.out.symm, hw⟩
end Go.Proofs.Ythgoapcafjijfaa.Pg
