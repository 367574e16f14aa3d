/-
  Contracts of tags.Find (with slices.IndexFunc at tags), limit and Check.
-/
import Derived.Test.YtppffmmngomijaaTgB
namespace Go.Proofs.Ytppffmmngomijaa.Tg
open Go.RowKit Lx

theorem beq_str (x y : ByteArray) : (x.toList == y.toList) = decide (x = y) := by
  rw [ByteArray.toList_eq, ByteArray.toList_eq, Bool.eq_iff_iff, beq_iff_eq, decide_eq_true_iff]
  constructor
  · intro h
    cases x; cases y
    simpa using h
  · rintro rfl; rfl

set_option maxRecDepth 100000 in
theorem pred_any (t : Tg) (s : ByteArray) (p : Nat) (w : World) (hp : w.cell? ⟨p, 0, none⟩ = some (.string s)) (hpl : p < w.heap.size) :
    Calls Try.prog 35 #[.agg #[.string t.nm, .bool t.out, .int .i64 t.lo, .int .i64 t.hi], .pointer (some ⟨p, 0, none⟩)] w fun e w' => e = .returned (.bool (decide (t.nm = s))) ∧ Below w.heap.size w w' := by
  have hne : p ≠ w.heap.size := by omega
  obtain ⟨nm, out, lo, hi⟩ := t
  go_enter Try.func35, Try.ntmps35
  go_wp2
  go_ret
  exact ⟨ret_bool (beq_str _ _), (Below.refl _ w).alloc (Nat.le_refl _) _⟩

set_option maxRecDepth 100000 in
set_option maxHeartbeats 1000000 in
theorem index_any (l : List Tg) (s : ByteArray) (a : Option Addr) (cap p : Nat) (w : World) (hl : l.length ≤ 1000000) (hT : Tags w a l) (hp : w.cell? ⟨p, 0, none⟩ = some (.string s)) (hpl : p < w.heap.size) :
    Calls Try.prog 34 #[.slice a l.length cap, .func (.func 35) #[] #[.pointer (some ⟨p, 0, none⟩)]] w fun e w' => e = .returned (.int .i64 (findI l s)) ∧ Below w.heap.size w w' := by
  have HT := Lib.hid hT
  clear hT
  generalize hX : findI l s = X
  have HX : Hid ((match findF s (l.drop 0) 0 with | some k => (k : Int) | none => -1) = X) := by unfold Hid; rw [← hX]; rfl
  clear hX
  generalize hL : l.length = len at *
  have HL := Lib.hid hL
  clear hL
  go_enter Try.func34, Try.ntmps34
  go_wp2
  go_loopw [8] (fun i wr => ∃ k : Nat, k ≤ len ∧ i = .int .i64 k ∧ Hid ((match findF s (l.drop k) k with | some k => (k : Int) | none => -1) = X) ∧ Below w.heap.size w wr) (fun i _ => len - (intOf i).toNat)
  case atStart => exact ⟨0, by omega, rfl, HX, Below.refl _ _⟩
  case round =>
    obtain ⟨k, hkl, rfl, HS, hbr⟩ := hrel
    by_cases hlt : k < len
    · have hki : k < l.length := by rw [HL.out]; exact hlt
      obtain ⟨g, off, rfl, hg, c0, c1, c2, c3⟩ := Tags.at4 HT.out hki
      have HF := Lib.hid (findF_drop s l k hki)
      have hp' := hp
      rw [← hbr.cell (p := ⟨g, _, none⟩) hg] at c0 c1 c2 c3
      rw [← hbr.cell (p := ⟨p, 0, none⟩) hpl] at hp'
      have hgr : g < wr.heap.size := Nat.lt_of_lt_of_le hg hbr.size
      have hpr : p < wr.heap.size := Nat.lt_of_lt_of_le hpl hbr.size
      have HP := pred_any l[k] s p wr hp' hpr
      generalize l[k] = t at *
      clear hp'
      by_cases hq : t.nm = s
      · have HX2 : Hid (X = (k : Int)) := by unfold Hid; rw [← HS.out, HF.out, if_pos hq]
        rw [decide_eq_true hq] at HP
        clear hq
        go_wp2_with (go_at_call 35; refine HP.mono ?_; rintro e w1 ⟨rfl, hb1⟩)
        go_ret
        exact ⟨ret_int HX2.out.symm, hbr.trans (hb1.mono hbr.size)⟩
      · have HX2 : Hid ((match findF s (l.drop (k + 1)) (k + 1) with | some k => (k : Int) | none => -1) = X) := by unfold Hid; rw [← HS.out, HF.out, if_neg hq]
        rw [decide_eq_false hq] at HP
        clear hq
        go_wp2_with (go_at_call 35; refine HP.mono ?_; rintro e w1 ⟨rfl, hb1⟩)
        go_roundw
        case rel => exact ⟨k + 1, by omega, by go_num, HX2, hbr.trans (hb1.mono hbr.size)⟩
        case measure => simp [intOf]; omega
    · have HX2 : Hid (X = -1) := by
        unfold Hid; rw [← HS.out, List.drop_eq_nil_of_le (by rw [HL.out]; omega)]; rfl
      go_wp2
      go_ret
      exact ⟨ret_int HX2.out.symm, hbr⟩

set_option maxRecDepth 100000 in
set_option maxHeartbeats 1000000 in
theorem Find_any (l : List Tg) (s : ByteArray) (a : Option Addr) (cap : Nat) (w : World) (hl : l.length ≤ 1000000) (hT : Tags w a l) :
    Calls Try.prog 16 #[.slice a l.length cap, .string s] w fun e w' => e = .returned (.int .i64 (findI l s)) ∧ Below w.heap.size w w' := by
  have HP := index_any l s a cap w.heap.size _ hl (hT.alloc (.cells #[.string s] 9)) ((Box.new w 9 #[.string s]).cell 0) (by simp)
  go_enter Try.func16, Try.ntmps16
  go_wp2_with fail
  refine HP.mono ?_
  rintro e w1 ⟨rfl, hb⟩
  go_wp2
  go_ret
  exact ⟨rfl, below_new hb⟩

set_option maxRecDepth 100000 in
theorem limit_any (t : Tg) (n : Int) (w : World) :
    Calls Try.prog 30 #[.agg #[.string t.nm, .bool t.out, .int .i64 t.lo, .int .i64 t.hi], .int .i64 n] w fun e w' => e = .returned (.int .i64 (max t.lo (min t.hi n))) ∧ Below w.heap.size w w' := by
  obtain ⟨nm, out, lo, hi⟩ := t
  go_enter Try.func30, Try.ntmps30
  go_wp2
  all_goals go_ret
  all_goals refine ⟨ret_int ?_, (Below.refl _ w).alloc (Nat.le_refl _) _⟩
  all_goals simp only [Int.max_def, Int.min_def] at *
  all_goals (repeat' split) <;> omega

theorem take_cut (a : Option Addr) (l : List Tg) (k cap : Nat) (h : k ≤ l.length) : (Value.slice a k cap) = .slice a (l.take k).length cap := by rw [List.length_take, Nat.min_eq_left h]

theorem findI_neg (l : List Tg) (s : ByteArray) : findZ l s = none ↔ ¬ (0 : Int) ≤ findI l s := by
  unfold findI
  cases findZ l s with
  | none => simp
  | some k => simp

set_option maxRecDepth 100000 in
set_option maxHeartbeats 2000000 in
theorem Check_any (l : List Tg) (a : Option Addr) (cap : Nat) (w : World) (hl : l.length ≤ 1000000) (hcap : l.length ≤ cap) (hT : Tags w a l) :
    Calls Try.prog 14 #[.slice a l.length cap] w fun e w' => e = .returned (.int .i64 (checkT l)) ∧ Below w.heap.size w w' := by
  have HT := Lib.hid hT
  clear hT
  have HX : Hid (checkT l = if 12 < l.length then 2 else checkF l l.length 0) := rfl
  generalize checkT l = X at *
  generalize hL : l.length = len at *
  have HL := Lib.hid hL
  clear hL
  by_cases h12 : 12 < len
  · have HX2 : Hid (X = 2) := by unfold Hid; rw [HX.out, if_pos h12]
    go_enter Try.func14, Try.ntmps14
    go_wp2
    go_ret
    exact ⟨ret_int HX2.out.symm, Below.refl _ _⟩
  · have HX2 : Hid (checkF l (len - 0) 0 = X) := by unfold Hid; rw [HX.out, if_neg h12]; rfl
    clear HX
    go_enter Try.func14, Try.ntmps14
    go_wp2
    go_loopw [10] (fun i wr => ∃ k : Nat, k ≤ len ∧ i = .int .i64 k ∧ Hid (checkF l (len - k) k = X) ∧ Below w.heap.size w wr) (fun i _ => len - (intOf i).toNat)
    case atStart => exact ⟨0, by omega, rfl, HX2, Below.refl _ _⟩
    case round =>
      obtain ⟨k, hkl, rfl, HS, hbr⟩ := hrel
      by_cases hlt : k < len
      · have hki : k < l.length := by rw [HL.out]; exact hlt
        obtain ⟨g, off, rfl, hg, c0, c1, c2, c3⟩ := Tags.at4 HT.out hki
        have HF : Hid (checkF l (len - k) k = if fairT l[k] = false then 1 else if findZ (l.take k) l[k].nm ≠ none then 5 else checkF l (len - (k + 1)) (k + 1)) := by
          unfold Hid
          have e : len - k = (len - (k + 1)) + 1 := by omega
          rw [e]
          simp only [checkF]
          rw [List.getD_eq_getElem?_getD, List.getElem?_eq_getElem hki]
          rfl
        rw [← hbr.cell (p := ⟨g, _, none⟩) hg] at c0 c1 c2 c3
        have hgr : g < wr.heap.size := Nat.lt_of_lt_of_le hg hbr.size
        have HTk : Tags wr (some ⟨g, off, none⟩) (l.take k) := RowF.take (RowF.upto HT.out hbr (Nat.le_refl _)) k
        have hkc : k ≤ cap := by omega
        have hlk : (l.take k).length = k := by rw [List.length_take]; omega
        have HN := Name_any l[k].nm
        have HP : ∀ w2, Below wr.heap.size wr w2 → Calls Try.prog 16 #[.slice (some ⟨g, off, none⟩) k cap, .string l[k].nm] w2 fun e w' => e = .returned (.int .i64 (findI (l.take k) l[k].nm)) ∧ Below w2.heap.size w2 w' := fun w2 hb2 => by
          have := Find_any (l.take k) l[k].nm (some ⟨g, off, none⟩) cap w2 (by rw [hlk]; omega) (RowF.upto HTk hb2 (Nat.le_refl _))
          rw [hlk] at this
          exact this
        have HI := Lib.hid (findI_neg (l.take k) l[k].nm)
        have HFa : Hid (fairT l[k] = (Lx.nameB l[k].nm.data.toList && decide (l[k].lo ≤ l[k].hi))) := rfl
        generalize findI (l.take k) l[k].nm = z at *
        generalize findZ (l.take k) l[k].nm = zz at *
        generalize fairT l[k] = fa at *
        generalize l[k] = t at *
        obtain ⟨nm, out, lo, hi⟩ := t
        simp only at *
        clear HTk hlk
        go_wp2_with fail
        refine (HN _).mono ?_
        rintro e w1 ⟨rfl, hb1⟩
        have hx := (Box.new wr 51 #[.string nm, .bool out, .int .i64 lo, .int .i64 hi]).below hb1 (by simp)
        have hb1' := below_new hb1
        have hbw := hbr.trans (hb1'.mono hbr.size)
        obtain ⟨d0, d1, d2, d3⟩ : w1.cell? ⟨wr.heap.size, 0, none⟩ = some (.string nm) ∧ w1.cell? ⟨wr.heap.size, 1, none⟩ = some (.bool out) ∧ w1.cell? ⟨wr.heap.size, 2, none⟩ = some (.int .i64 lo) ∧ w1.cell? ⟨wr.heap.size, 3, none⟩ = some (.int .i64 hi) := ⟨hx.cell 0, hx.cell 1, hx.cell 2, hx.cell 3⟩
        have hP1 := HP w1 hb1'
        clear hb1 c0 c1 c2 c3
        generalize hnb : Lx.nameB nm.data.toList = nb at *
        cases nb with
        | false =>
          have HX3 : Hid (X = 1) := by unfold Hid; rw [← HS.out, HF.out, if_pos (by rw [HFa.out]; rfl)]
          go_wp2_with fail
          go_ret
          exact ⟨ret_int HX3.out.symm, hbw⟩
        | true =>
          by_cases hlh : lo ≤ hi
          · have HF2 : Hid ((if zz ≠ none then 5 else checkF l (len - (k + 1)) (k + 1)) = X) := by
              have hfa : fa = true := by rw [HFa.out]; simp [hlh]
              subst hfa
              unfold Hid; rw [← HS.out, HF.out]; simp
            have dg : decide (hi < lo) = false := by simp; omega
            clear hlh
            by_cases hz : (0 : Int) ≤ z
            · have HX3 : Hid (X = 5) := by
                have hzz : zz ≠ none := by rw [ne_eq, HI.out]; omega
                unfold Hid; rw [← HF2.out, if_pos hzz]
              go_wp2_with fail
              go_region_with (go_at_call 16; refine (HP _ (by exact below_drew hb1')).mono ?_; rintro e w2 ⟨rfl, hb2⟩; have hbw2 := hbw.trans (((below_drew (Below.refl w1.heap.size w1)).trans hb2).mono hbw.size))
              go_wp2_with fail
              go_ret
              exact ⟨ret_int HX3.out.symm, hbw2⟩
            · have HX3 : Hid (checkF l (len - (k + 1)) (k + 1) = X) := by
                have hzz : zz = none := by have hi := HI.out; rw [hi]; first | exact hz | omega
                unfold Hid; rw [← HF2.out, if_neg (by simp [hzz])]
              have hz' : z < 0 := by omega
              go_wp2_with fail
              go_region_with (go_at_call 16; refine (HP _ (by exact below_drew hb1')).mono ?_; rintro e w2 ⟨rfl, hb2⟩; have hbw2 := hbw.trans (((below_drew (Below.refl w1.heap.size w1)).trans hb2).mono hbw.size))
              go_wp2_with fail
              go_roundw
              case rel => exact ⟨k + 1, by omega, by go_num, HX3, hbw2⟩
              case measure => simp [intOf]; omega
          · have HX3 : Hid (X = 1) := by unfold Hid; rw [← HS.out, HF.out, if_pos (by rw [HFa.out]; simp [hlh])]
            have dg : decide (hi < lo) = true := by simp; omega
            clear hlh
            go_wp2_with fail
            go_ret
            exact ⟨ret_int HX3.out.symm, hbw⟩
      · have HX3 : Hid (X = 0) := by
          unfold Hid; rw [← HS.out, show len - k = 0 by omega]; rfl
        go_wp2
        go_ret
        exact ⟨ret_int HX3.out.symm, hbr⟩
end Go.Proofs.Ytppffmmngomijaa.Tg
