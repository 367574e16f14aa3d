/-
  What the laws of layer 9 ask of what comes in: cells, Light; Place, Bools, Texts.
-/
import Derived.Test.YtohljihndoodfaaDoorRgL1
import Derived.Test.YtohljihndoodfaaDoorExBk
namespace Go.Proofs.YtohljihndoodfaaDoor.Rg
open Go.RowKit Lx Ep

def CePost (n : Nat) (w : World) (e : Ending) (w' : World) : Prop := ∃ b : Bool, e = .returned (.bool b) ∧ (b = true → n ≤ 100) ∧ w = w'
set_option maxRecDepth 100000 in
set_option maxHeartbeats 2000000 in
theorem cells_any (env : List (Nm × Int)) (v : Value) (w : World) (hE : EnvA w env v) : Calls Tryd.prog 16 #[v] w (CePost env.length w) := by
  obtain ⟨⟨a, cap, rfl, hc, hm, hk⟩, -⟩ := hE
  by_cases h100 : 100 < env.length
  · generalize env.length = len at *
    go_enter Tryd.func16, Tryd.ntmps16
    go_wp2
    all_goals first | (exfalso; omega) | skip
    go_ret
    exact ⟨false, rfl, (fun h => by cases h), rfl⟩
  · have HK := Lib.hid hk
    clear hk
    generalize hL : env.length = len at *
    have HL := Lib.hid hL
    clear hL
    go_enter Tryd.func16, Tryd.ntmps16
    go_wp2
    all_goals first | (exfalso; omega) | skip
    go_loopw [3] (fun i wr => ∃ k : Nat, k ≤ len ∧ i = .int .i64 k ∧ w = wr) (fun i _ => len - (intOf i).toNat)
    case atStart => exact ⟨0, by omega, rfl, rfl⟩
    case round =>
      obtain ⟨k, hkl, rfl, rfl⟩ := hrel
      by_cases hlt : k < len
      · have hki : k < env.length := by rw [HL.out]; exact hlt
        obtain ⟨g, off, rfl, hg, hat⟩ := HK.out (List.ne_nil_of_length_pos (by omega))
        obtain ⟨c0, -⟩ := hat k hki
        generalize (env[k]).1 = x at *
        have hklt : ((k : Nat) : Int) < (len : Int) := by omega
        clear hat
        by_cases hx : 200 < x.length
        · go_wp2
          all_goals first | (exfalso; omega) | skip
          go_ret
          exact ⟨false, rfl, (fun h => by cases h), rfl⟩
        · go_wp2
          all_goals first | (exfalso; omega) | skip
          go_roundw
          case rel => exact ⟨k + 1, hlt, by go_num, trivial⟩
          case measure => simp [intOf]; omega
      · go_wp2
        go_ret
        exact ⟨true, rfl, fun _ => by omega, rfl⟩

/-- What Light's yes says. -/
def LtOk (l : List Ru) : Prop := l.length ≤ 50 ∧ ∀ r ∈ l, r.nm.length ≤ 200 ∧ r.code.length ≤ 50
def LgPost (l : List Ru) (w : World) (e : Ending) (w' : World) : Prop := ∃ b : Bool, e = .returned (.bool b) ∧ (b = true → LtOk l) ∧ Below w.heap.size w w'
set_option maxRecDepth 100000 in
set_option maxHeartbeats 4000000 in
theorem Light_any (l : List Ru) (A : Option Addr) (cap : Nat) (w : World) (hR : Rungs w A l) : Calls Tryd.prog 9 #[.slice A l.length cap] w (LgPost l w) := by
  by_cases h50 : 50 < l.length
  · have hno : ∀ w', Below w.heap.size w w' → LgPost l w (.returned (.bool false)) w' := fun w' hb => ⟨false, rfl, (fun h => by cases h), hb⟩
    generalize l.length = len at *
    go_enter Tryd.func9, Tryd.ntmps9
    go_wp2
    all_goals first | (exfalso; omega) | skip
    go_ret
    exact hno _ (Below.refl _ _)
  · have HR := Lib.hid hR
    clear hR
    have HNo : Hid (∀ w', Below w.heap.size w w' → LgPost l w (.returned (.bool false)) w') := fun w' hb => ⟨false, rfl, (fun h => by cases h), hb⟩
    generalize hL : l.length = len at *
    have HL := Lib.hid hL
    clear hL
    go_enter Tryd.func9, Tryd.ntmps9
    go_wp2
    all_goals first | (exfalso; omega) | skip
    go_loopw [3] (fun i wr => ∃ k : Nat, k ≤ len ∧ i = .int .i64 k ∧ Hid (∀ r ∈ l.take k, r.nm.length ≤ 200 ∧ r.code.length ≤ 50) ∧ Hid (Below w.heap.size w wr)) (fun i _ => len - (intOf i).toNat)
    case atStart => exact ⟨0, by omega, rfl, fun r hr => by simp at hr, Below.refl _ _⟩
    case round =>
      obtain ⟨k, hkl, rfl, HS, HB⟩ := hrel
      by_cases hlt : k < len
      · have hki : k < l.length := by rw [HL.out]; exact hlt
        obtain ⟨g, off, rfl, hg, hCd, c0, c1, c2⟩ := Rungs.at3 (HR.out.below HB.out) hki
        have HTk : Hid (l.take (k + 1) = l.take k ++ [l[k]]) := List.take_succ_eq_append_getElem hki
        have HG := Lib.hid hg
        have HA : ∀ wx, Below w.heap.size w wx → wx.cell? ⟨g, off + k * 3 + 2, none⟩ = some (.slice (l[k]).ca (l[k]).code.length (l[k]).cc) ∧ Code wx (l[k]).ca (l[k]).code := fun wx hb => by
          obtain ⟨g', off', e, _, hC', _, _, c2'⟩ := Rungs.at3 (HR.out.below hb) hki
          injection e with e
          injection e with e1 e2
          subst e1 e2
          exact ⟨c2', hC'⟩
        have HA := Lib.hid HA
        generalize l[k] = r at *
        have hklt : ((k : Nat) : Int) < (len : Int) := by omega
        by_cases hc : 50 < r.code.length
        · have d0 : decide ((50 : Int) < (r.code.length : Int)) = true := by simp; omega
          clear hCd HA
          generalize r.code.length = m at *
          go_wp2
          all_goals first | (exfalso; omega) | skip
          all_goals go_ret
          all_goals exact HNo.out _ HB.out
        have d0 : decide ((50 : Int) < (r.code.length : Int)) = false := by simp; omega
        by_cases hn : 200 < r.nm.length
        · clear hCd HA
          generalize r.code.length = m at *
          go_wp2
          all_goals first | (exfalso; omega) | skip
          all_goals go_ret
          all_goals exact HNo.out _ HB.out
        have HS2 : Hid (∀ x ∈ l.take (k + 1), x.nm.length ≤ 200 ∧ x.code.length ≤ 50) := by
          intro x hx
          rw [HTk.out] at hx
          rcases List.mem_append.1 hx with hx | hx
          · exact HS.out x hx
          · simp only [List.mem_singleton] at hx
            subst hx
            exact ⟨by omega, by omega⟩
        clear hCd
        generalize hcm : r.code.length = m at *
        have HCm := Lib.hid hcm
        clear hcm HS HTk
        go_wp2
        all_goals first | (exfalso; omega) | skip
        go_loopw [4] (fun i wz => ∃ j : Nat, j ≤ m ∧ i = .int .i64 j ∧ Hid (Below w.heap.size w wz)) (fun i _ => m - (intOf i).toNat)
        case atStart => exact ⟨0, by omega, rfl, HB⟩
        case round =>
          obtain ⟨j, hjm, rfl, HB2⟩ := hrel
          clear c0 c1 c2
          obtain ⟨c2, hCd⟩ := HA.out _ HB2.out
          have hgz : g < _ := Nat.lt_of_lt_of_le HG.out (Nat.le_refl _)
          by_cases hjl : j < m
          · have hji : j < r.code.length := by rw [HCm.out]; exact hjl
            obtain ⟨g2, off2, e2, hg2, hE, q0, q1, q2, q3, q4, q5⟩ := Code.at6 hCd hji
            rw [e2] at c2
            clear e2
            generalize r.code[j] = i at *
            have hjm2 : ((j : Nat) : Int) < (m : Int) := by omega
            have hWt := weight_any i.e (fun _ => True) _ 200 _ hE.1 (by omega) (by omega)
            unfold exOf exV at hWt
            clear hCd hE HCm HS2 HA
            generalize i.e.kids.length = km at *
            by_cases hx : 200 < i.nm.length
            · have d1 : decide ((200 : Int) < (i.nm.length : Int)) = true := by simp; omega
              clear hWt
              go_wp2
              all_goals first | (exfalso; omega) | skip
              all_goals go_ret
              all_goals exact HNo.out _ HB2.out
            have d1 : decide ((200 : Int) < (i.nm.length : Int)) = false := by simp; omega
            go_wp2_with fail
            all_goals first | (exfalso; omega) | skip
            refine hWt.mono ?_
            rintro e w4 ⟨z, rfl, hz0, hz4, hb4⟩
            have HB4 := Lib.hid (HB2.out.trans (hb4.mono HB2.out.size))
            clear hWt hb4 c2 q0 q1 q2 q3 q4 q5 HB2
            by_cases hz : z = 0
            · have b0 : (z == 0) = true := by simpa using hz
              clear hz
              go_wp2
              go_ret
              exact HNo.out _ HB4.out
            · have b0 : (z == 0) = false := by simpa using hz
              clear hz
              go_wp2
              go_roundw
              case rel => exact ⟨j + 1, hjl, by go_num, HB4⟩
              case measure => simp [intOf]; omega
          · clear hCd
            go_wp2
            go_roundw
            case rel => exact ⟨k + 1, hlt, by go_num, HS2, HB2⟩
            case measure => simp [intOf]; omega
      · have HF : Hid (∀ w', Below w.heap.size w w' → LgPost l w (.returned (.bool true)) w') := fun w' hb => ⟨true, rfl, fun _ => ⟨by rw [HL.out]; omega, by have := HS.out; rw [List.take_of_length_le (by rw [HL.out]; omega)] at this; exact this⟩, hb⟩
        clear HS HNo
        go_wp2
        go_ret
        exact HF.out _ HB.out

/-- Where a name stands. -/
def placeP (R : List Nm) (x : Nm) : Int := if x ∈ R then (R.idxOf x : Int) else -1
def plG (x : Nm) : List Nm → Nat → Int
  | [], _ => -1
  | y :: r, k => if y = x then (k : Int) else plG x r (k + 1)
theorem plG_eq (x : Nm) : ∀ (l : List Nm) (k : Nat), plG x l k = if x ∈ l then ((l.idxOf x + k : Nat) : Int) else -1
  | [], k => by simp [plG]
  | y :: r, k => by
    unfold plG
    by_cases h : y = x
    · subst h; simp
    · rw [if_neg h, plG_eq x r (k + 1)]
      have hx : x ≠ y := fun e => h e.symm
      by_cases hm : x ∈ r
      · rw [if_pos hm, if_pos (List.mem_cons_of_mem _ hm)]
        rw [List.idxOf_cons]
        have : (y == x) = false := by simpa using h
        rw [this]
        simp only [cond_false]
        omega
      · rw [if_neg hm, if_neg (by simp [hx, hm])]
theorem plG_drop {x : Nm} {l : List Nm} {k : Nat} (h : k < l.length) : plG x (l.drop k) k = if l[k] = x then (k : Int) else plG x (l.drop (k + 1)) (k + 1) := by
  rw [List.drop_eq_getElem_cons h, plG]
set_option maxRecDepth 100000 in
set_option maxHeartbeats 2000000 in
theorem Place_any (R : List Nm) (A : Option Addr) (c : Nat) (x : Nm) (w : World) (hS : Strs w A R) (hl : R.length ≤ 1000000) :
    Calls Tryd.prog 22 #[.slice A R.length c, .string ⟨x.toArray⟩] w fun e w' => e = .returned (.int .i64 (placeP R x)) ∧ w = w' := by
  have HX : Hid (plG x (R.drop 0) 0 = placeP R x) := by
    unfold Hid placeP
    rw [plG_eq]
    simp
  generalize placeP R x = X at *
  have HS := Lib.hid hS
  clear hS
  generalize hL : R.length = len at *
  have HL := Lib.hid hL
  clear hL
  go_enter Tryd.func22, Tryd.ntmps22
  go_wp2
  go_loopw [5] (fun i wr => ∃ k : Nat, k ≤ len ∧ i = .int .i64 k ∧ Hid (plG x (R.drop k) k = X) ∧ w = wr) (fun i _ => len - (intOf i).toNat)
  case atStart => exact ⟨0, by omega, rfl, HX, rfl⟩
  case round =>
    obtain ⟨k, hkl, rfl, HK, rfl⟩ := hrel
    by_cases hlt : k < len
    · have hki : k < R.length := by rw [HL.out]; exact hlt
      obtain ⟨g, off, rfl, hg, c0⟩ := Strs.at1 HS.out hki
      have HD := Lib.hid (plG_drop (x := x) hki)
      generalize R[k] = y at *
      have hklt : ((k : Nat) : Int) < (len : Int) := by omega
      by_cases hy : y = x
      · have HF : Hid (X = (k : Int)) := by unfold Hid; rw [← HK.out, HD.out, if_pos hy]
        have hbq : (y == x) = true := by simpa using hy
        clear hy HD HK
        go_wp2
        go_ret
        exact ⟨ret_int HF.out.symm, rfl⟩
      · have HF : Hid (plG x (R.drop (k + 1)) (k + 1) = X) := by unfold Hid; rw [← HK.out, HD.out, if_neg hy]
        have hbq : (y == x) = false := by simpa using hy
        clear hy HD HK
        go_wp2
        go_roundw
        case rel => exact ⟨k + 1, hlt, by go_num, HF, trivial⟩
        case measure => simp [intOf]; omega
    · have HF : Hid (X = -1) := by unfold Hid; rw [← HK.out, List.drop_eq_nil_of_le (by rw [HL.out]; omega), plG]
      clear HK
      go_wp2
      go_ret
      exact ⟨ret_int HF.out.symm, rfl⟩

theorem Bools_drop {a b : List Bool} {k : Nat} (h : k < a.length) (h2 : k < b.length) : (a.drop k = b.drop k) ↔ (a[k] = b[k] ∧ a.drop (k + 1) = b.drop (k + 1)) := by
  rw [List.drop_eq_getElem_cons h, List.drop_eq_getElem_cons h2, List.cons.injEq]
set_option maxRecDepth 100000 in
set_option maxHeartbeats 2000000 in
theorem Bools_any (a b : List Bool) (A B : Option Addr) (c d : Nat) (w : World) (hA : Bools w A a) (hB : Bools w B b) (hl : a.length ≤ 1000000) :
    Calls Tryd.prog 21 #[.slice A a.length c, .slice B b.length d] w fun e w' => e = .returned (.bool (decide (a = b))) ∧ Below w.heap.size w w' := by
  by_cases hln : a.length = b.length
  · have HX : Hid (decide (a.drop 0 = b.drop 0) = decide (a = b)) := rfl
    generalize decide (a = b) = X at *
    have HA := Lib.hid hA
    have HB := Lib.hid hB
    clear hA hB
    rw [← hln]
    generalize hL : a.length = len at *
    have HL := Lib.hid hL
    have HL2 := Lib.hid hln
    clear hL hln
    go_enter Tryd.func21, Tryd.ntmps21
    go_wp2
    all_goals first | (exfalso; omega) | skip
    go_loopw [5] (fun i wr => ∃ k : Nat, k ≤ len ∧ i = .int .i64 k ∧ Hid (decide (a.drop k = b.drop k) = X) ∧ Hid (Below w.heap.size w wr)) (fun i _ => len - (intOf i).toNat)
    case atStart => exact ⟨0, by omega, rfl, HX, Below.refl _ _⟩
    case round =>
      obtain ⟨k, hkl, rfl, HK, HBr⟩ := hrel
      by_cases hlt : k < len
      · have hka : k < a.length := by rw [HL.out]; exact hlt
        have hkb : k < b.length := by rw [← HL2.out]; exact hlt
        obtain ⟨g, off, rfl, hg, c0⟩ := Bools.at1 (RowF.below HA.out HBr.out) hka
        obtain ⟨g2, off2, rfl, hg2, c1⟩ := Bools.at1 (RowF.below HB.out HBr.out) hkb
        have HD := Lib.hid (Bools_drop hka hkb)
        generalize a[k] = x at *
        generalize b[k] = y at *
        have hklt : ((k : Nat) : Int) < (len : Int) := by omega
        by_cases hy : x = y
        · have HF : Hid (decide (a.drop (k + 1) = b.drop (k + 1)) = X) := by
            unfold Hid; rw [← HK.out, Bool.eq_iff_iff, decide_eq_true_iff, decide_eq_true_iff, HD.out]; simp [hy]
          have hq : (x != y) = false := by simp [hy]
          clear HD HK
          go_wp2_with fail
          go_quiet (fail)
          go_wp2
          all_goals first | (exfalso; simp_all; done) | skip
          go_roundw
          case rel => exact ⟨k + 1, hlt, by go_num, HF, below_drewN HBr.out _⟩
          case measure => simp [intOf]; omega
        · have HF : Hid (X = false) := by
            unfold Hid; rw [← HK.out, decide_eq_false_iff_not, HD.out]; exact fun h => hy h.1
          have hq : (x != y) = true := by simpa using hy
          clear HD HK
          go_wp2_with fail
          go_quiet (fail)
          go_wp2
          all_goals first | (exfalso; simp_all; done) | skip
          go_ret
          exact ⟨ret_bool HF.out.symm, below_drewN HBr.out _⟩
      · have HF : Hid (X = true) := by
          unfold Hid; rw [← HK.out, List.drop_eq_nil_of_le (by rw [HL.out]; omega), List.drop_eq_nil_of_le (by rw [← HL2.out]; omega)]; rfl
        clear HK
        go_wp2
        go_ret
        exact ⟨ret_bool HF.out.symm, HBr.out⟩
  · have hne : decide (a = b) = false := decide_eq_false (fun e => hln (by rw [e]))
    rw [hne]
    have hb : ((a.length : Int) != (b.length : Int)) = true := by simp; omega
    have hb2 : (a.length != b.length) = true := by simpa using hln
    generalize a.length = n at *
    generalize b.length = m at *
    go_enter Tryd.func21, Tryd.ntmps21
    go_wp2
    all_goals first | (exfalso; omega) | skip
    go_ret
    exact ⟨rfl, Below.refl _ _⟩

theorem Texts_drop {a b : List Nm} {k : Nat} (h : k < a.length) (h2 : k < b.length) : (a.drop k = b.drop k) ↔ (a[k] = b[k] ∧ a.drop (k + 1) = b.drop (k + 1)) := by
  rw [List.drop_eq_getElem_cons h, List.drop_eq_getElem_cons h2, List.cons.injEq]
set_option maxRecDepth 100000 in
set_option maxHeartbeats 2000000 in
theorem Texts_any (a b : List Nm) (A B : Option Addr) (c d : Nat) (w : World) (hA : Strs w A a) (hB : Strs w B b) (hl : a.length ≤ 1000000) :
    Calls Tryd.prog 11 #[.slice A a.length c, .slice B b.length d] w fun e w' => e = .returned (.bool (decide (a = b))) ∧ Below w.heap.size w w' := by
  by_cases hln : a.length = b.length
  · have HX : Hid (decide (a.drop 0 = b.drop 0) = decide (a = b)) := rfl
    generalize decide (a = b) = X at *
    have HA := Lib.hid hA
    have HB := Lib.hid hB
    clear hA hB
    rw [← hln]
    generalize hL : a.length = len at *
    have HL := Lib.hid hL
    have HL2 := Lib.hid hln
    clear hL hln
    go_enter Tryd.func11, Tryd.ntmps11
    go_wp2
    all_goals first | (exfalso; omega) | skip
    go_loopw [5] (fun i wr => ∃ k : Nat, k ≤ len ∧ i = .int .i64 k ∧ Hid (decide (a.drop k = b.drop k) = X) ∧ Hid (Below w.heap.size w wr)) (fun i _ => len - (intOf i).toNat)
    case atStart => exact ⟨0, by omega, rfl, HX, Below.refl _ _⟩
    case round =>
      obtain ⟨k, hkl, rfl, HK, HBr⟩ := hrel
      by_cases hlt : k < len
      · have hka : k < a.length := by rw [HL.out]; exact hlt
        have hkb : k < b.length := by rw [← HL2.out]; exact hlt
        obtain ⟨g, off, rfl, hg, c0⟩ := Strs.at1 (RowF.below HA.out HBr.out) hka
        obtain ⟨g2, off2, rfl, hg2, c1⟩ := Strs.at1 (RowF.below HB.out HBr.out) hkb
        have HD := Lib.hid (Texts_drop hka hkb)
        generalize a[k] = x at *
        generalize b[k] = y at *
        have hklt : ((k : Nat) : Int) < (len : Int) := by omega
        by_cases hy : x = y
        · have HF : Hid (decide (a.drop (k + 1) = b.drop (k + 1)) = X) := by
            unfold Hid; rw [← HK.out, Bool.eq_iff_iff, decide_eq_true_iff, decide_eq_true_iff, HD.out]; simp [hy]
          have hbq : (x != y) = false := by simp [hy]
          have hbq2 : (x == y) = true := by simpa using hy
          clear HD HK
          go_wp2_with fail
          go_quiet (fail)
          go_wp2
          all_goals first | (exfalso; simp_all; done) | skip
          go_roundw
          case rel => exact ⟨k + 1, hlt, by go_num, HF, below_drewN HBr.out _⟩
          case measure => simp [intOf]; omega
        · have HF : Hid (X = false) := by
            unfold Hid; rw [← HK.out, decide_eq_false_iff_not, HD.out]; exact fun h => hy h.1
          have hbq : (x != y) = true := by simpa using hy
          have hbq2 : (x == y) = false := by simpa using hy
          clear HD HK
          go_wp2_with fail
          go_quiet (fail)
          go_wp2
          all_goals first | (exfalso; simp_all; done) | skip
          go_ret
          exact ⟨ret_bool HF.out.symm, below_drewN HBr.out _⟩
      · have HF : Hid (X = true) := by
          unfold Hid; rw [← HK.out, List.drop_eq_nil_of_le (by rw [HL.out]; omega), List.drop_eq_nil_of_le (by rw [← HL2.out]; omega)]; rfl
        clear HK
        go_wp2
        go_ret
        exact ⟨ret_bool HF.out.symm, HBr.out⟩
  · have hne : decide (a = b) = false := decide_eq_false (fun e => hln (by rw [e]))
    rw [hne]
    have hb : ((a.length : Int) != (b.length : Int)) = true := by simp; omega
    have hb2 : (a.length != b.length) = true := by simpa using hln
    generalize a.length = n at *
    generalize b.length = m at *
    go_enter Tryd.func11, Tryd.ntmps11
    go_wp2
    all_goals first | (exfalso; omega) | skip
    go_ret
    exact ⟨rfl, Below.refl _ _⟩


end Go.Proofs.YtohljihndoodfaaDoor.Rg
