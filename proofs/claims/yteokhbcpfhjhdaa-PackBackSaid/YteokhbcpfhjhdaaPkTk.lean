/-
  The contract of the laws' own taken; what is laid is taken, and nothing else is.
-/
import Derived.Test.YteokhbcpfhjhdaaPkW9
import Derived.Test.YteokhbcpfhjhdaaPkOneW
import Derived.Deep.RegionHeld
namespace Go.Proofs.Yteokhbcpfhjhdaa.Pk
open Go.RowKit

/-- One thing taken: what is left, if it was there. -/
def tk (l : List UInt8) (x : It) : Option (List UInt8) :=
  if x.kind = 0 ∨ x.kind = 3 then (if (rInt l false).1 = x.n ∧ (rInt l false).2.2 = false then some (rInt l false).2.1 else none)
  else if x.kind = 1 then (if (rBool l false).1 = x.b ∧ (rBool l false).2.2 = false then some (rBool l false).2.1 else none)
  else if x.kind = 2 then (if (rText l false (x.s.size : Int)).1 = x.s.data.toList ∧ (rText l false (x.s.size : Int)).2.2 = false then some (rText l false (x.s.size : Int)).2.1 else none)
  else some l
def takenB : List UInt8 → List It → Bool
  | l, [] => decide (l.length = 0)
  | l, x :: xs => match tk l x with
    | none => false
    | some l' => takenB l' xs
theorem takenB_cons (l : List UInt8) (x : It) (xs : List It) : takenB l (x :: xs) = match tk l x with | none => false | some l' => takenB l' xs := rfl

theorem tk_laid {l l' : List UInt8} {x : It} (h : tk l x = some l') : l = itB x ++ l' := by
  unfold tk at h
  unfold itB
  split at h
  · rename_i hk
    rw [if_pos hk]
    split at h
    · rename_i hc
      injection h with h
      obtain ⟨n, l2, _, hr, hl⟩ := rInt_ok hc.2
      rw [hr] at hc h
      simp only at hc h
      rw [← hc.1, ← h]
      exact hl
    · cases h
  · rename_i hk
    rw [if_neg hk]
    split at h
    · rename_i hk1
      rw [if_pos hk1]
      split at h
      · rename_i hc
        injection h with h
        obtain ⟨v, l2, hr, hl⟩ := rBool_ok hc.2
        rw [hr] at hc h
        simp only at hc h
        rw [← hc.1, ← h]
        exact hl
      · cases h
    · rename_i hk1
      rw [if_neg hk1]
      split at h
      · rename_i hk2
        rw [if_pos hk2]
        split at h
        · rename_i hc
          injection h with h
          obtain ⟨s, l2, hr, hl, _⟩ := rText_ok hc.2
          rw [hr] at hc h
          simp only at hc h
          rw [← hc.1, ← h]
          have e : (x.s.size : Int) = (s.length : Int) := by rw [hc.1]; simp
          rw [e]
          exact hl
        · cases h
      · injection h with h
        rename_i hk2
        rw [if_neg hk2, h]
        rfl
theorem taken_laid {p : List UInt8} {its : List It} (h : takenB p its = true) : p = laidL its := by
  induction its generalizing p with
  | nil =>
    simp only [takenB, decide_eq_true_eq] at h
    rw [List.length_eq_zero_iff.1 h]
    rfl
  | cons x xs ih =>
    rw [takenB_cons] at h
    split at h
    · cases h
    · rename_i l' hl
      rw [tk_laid hl, ih h]
      simp [laidL]

theorem tk_it (x : It) (h : x.Right) (hs : x.s.size ≤ 2000) (t : List UInt8) : tk (itB x ++ t) x = some t := by
  unfold tk itB
  split
  · have e : rInt (bs x.n ++ t) false = (x.n, t, false) := by
      unfold rInt
      rw [dec_bs x.n t h.2.1]
      simp
    rw [e]
    simp
  · split
    · have e : rBool ([if x.b then 1 else 0] ++ t) false = (x.b, t, false) := by
        unfold rBool
        cases x.b <;> simp
      rw [e]
      simp
    · split
      · have e : rText (bs (x.s.size : Int) ++ x.s.data.toList ++ t) false (x.s.size : Int) = (x.s.data.toList, t, false) := by
          have hd : dec (bs (x.s.size : Int) ++ (x.s.data.toList ++ t)) = some ((x.s.size : Int), (bs (x.s.size : Int)).length) := dec_bs _ _ (by unfold i64; omega)
          unfold rText decC
          rw [List.append_assoc, hd]
          have hsz : x.s.data.toList.length = x.s.size := by simp
          simp only [Bool.false_eq_true, if_false]
          rw [if_neg (by omega)]
          simp only [Int.toNat_natCast]
          rw [if_pos (by simp), List.drop_left, ← List.drop_drop, List.drop_left]
          rw [← hsz, List.take_left, List.drop_left]
        rw [e]
        simp
      · rfl
theorem laid_taken (its : List It) (h : ∀ x ∈ its, x.Right ∧ x.s.size ≤ 2000) : takenB (laidL its) its = true := by
  induction its with
  | nil => rfl
  | cons x xs ih =>
    have e : laidL (x :: xs) = itB x ++ laidL xs := by simp [laidL]
    rw [takenB_cons, e, tk_it x (h x (by simp)).1 (h x (by simp)).2]
    exact ih (fun y hy => h y (by simp [hy]))

def TakenPost (b : List UInt8) (its : List It) (w : World) (e : Ending) (w' : World) : Prop := e = .returned (.bool (takenB b its)) ∧ Below w.heap.size w w'
def TakenRel (b : List UInt8) (its : List It) (S : Nat → Prop) (g : Nat) (w : World) (i : Value) (wr : World) : Prop :=
  ∃ (k : Nat) (l : List UInt8), i = .int .i64 (k : Int) ∧ k ≤ its.length ∧ Rr 61 S wr g l false ∧ Below w.heap.size w wr ∧ l.length ≤ b.length ∧ takenB b its = takenB l (its.drop k)

theorem rInt_le (l : List UInt8) : (rInt l false).2.1.length ≤ l.length := by
  unfold rInt; simp only [Bool.false_eq_true, if_false]; split <;> simp
theorem rBool_le (l : List UInt8) : (rBool l false).2.1.length ≤ l.length := by
  unfold rBool; simp only [Bool.false_eq_true, if_false]; split
  · simp
  · split <;> simp
theorem rText_le (l : List UInt8) (m : Int) : (rText l false m).2.1.length ≤ l.length := by
  unfold rText; simp only [Bool.false_eq_true, if_false]; split
  · simp
  · split <;> simp

set_option maxRecDepth 100000 in
set_option maxHeartbeats 8000000 in
theorem taken_all (A : Option Addr) (b : List UInt8) (c : Nat) (B : Option Addr) (its : List It) (d : Nat) (w : World) (hl : Lie w A b) (hb4 : b.length ≤ 140737488355328) (hi : Its w B its) (hd : its.length ≤ d) (hdm : d ≤ maxLen) :
    Calls Try.prog 19 #[.slice A b.length c, .slice B its.length d] w (TakenPost b its w) := by
  unfold maxLen at hdm
  go_enter Try.func19, Try.ntmps19
  go_wp2_with fail
  refine (read_all A b c w hl hb4).mono ?_
  rintro e w1 ⟨g, rfl, hg, hr1, hb1⟩
  have hS : ∀ b, (w.heap.size ≤ b ∧ b < g) → b ≠ g := fun b h => by omega
  go_wp2_with fail
  go_loopw [6] (TakenRel b its (fun b => w.heap.size ≤ b ∧ b < g) g w) (fun i _ => its.length - (intOf i).toNat)
  case atStart => exact ⟨0, b, rfl, by omega, hr1, hb1, Nat.le_refl _, rfl⟩
  case round =>
    obtain ⟨k, l, rfl, hk, hr, hbw, hlb, htk⟩ := hrel
    clear hr1 hb1
    have HT := Lib.hid htk
    clear htk
    by_cases hlt : k < its.length
    · have hir := hi.below hbw
      have HI := Lib.hid (hi.at_ hlt)
      have HD := Lib.hid (List.drop_eq_getElem_cons hlt)
      obtain ⟨ad, rfl, hab, hat, hright⟩ := hir.at_ hlt
      obtain ⟨i0, i1, i2, i3, i4⟩ := hat.cells
      have hkd : (k : Int) < (its.length : Int) := by omega
      clear hat
      have hsz : its[k].s.size ≤ 9223372036854775807 := hright.2.2.1
      clear hright
      have HC : Hid (∀ w', Below w.heap.size w w' → ItAt w' ad k its[k]) := by
        obtain ⟨ad', e, hab', hat', _⟩ := HI.out
        injection e with e
        subst e
        intro w' hb'
        have hk' : ∀ j, w'.cell? (ad.add j) = w.cell? (ad.add j) := fun j => hb'.cell (p := ad.add j) (by rw [blk_add]; exact hab')
        unfold ItAt
        simp only [hk']
        exact hat'
      clear HI
      have HX : Hid (takenB b its = match tk l its[k] with | none => false | some l' => takenB l' (its.drop (k + 1))) := by unfold Hid; rw [HT.out, HD.out, takenB_cons]
      clear HT HD
      generalize its[k] = x at *
      obtain ⟨xk, xn, xb, xs, xm⟩ := x
      simp only at i0 i1 i2 i3 i4 hsz
      by_cases hk0 : xk = 0
      · subst hk0
        have hle : (rInt l false).2.1.length ≤ l.length := rInt_le l
        have HK : Hid (tk l ⟨0, xn, xb, xs, xm⟩ = if (rInt l false).1 = xn ∧ (rInt l false).2.2 = false then some (rInt l false).2.1 else none) := by unfold Hid tk; simp
        obtain ⟨v, l', bad, hrd⟩ : ∃ v l' bad, rInt l false = (v, l', bad) := ⟨_, _, _, rfl⟩
        have HR := Lib.hid hrd
        rw [hrd] at hle HK
        clear hrd
        simp only at hle HK
        by_cases hsame : v = xn
        · have hq : (v == xn) = true := beq_iff_eq.2 hsame
          cases bad with
          | false =>
            have HN : Hid (takenB b its = takenB l' (its.drop (k + 1))) := by unfold Hid; rw [HX.out, HK.out, if_pos ⟨hsame, rfl⟩]
            clear HX HK hsame
            go_wp2_with fail
            go_region_held (fun w' => w'.cell? ⟨(ad.add (k * 5)).block, (ad.add (k * 5)).off + 1, none⟩ = some (.int .i64 xn)) (first | exact i1 | exact j1 | assumption)
              (first | (go_at_call 20; refine (rint_all _ g l false _ (by exact hr.below (Below.refl _ _).drew) hS).mono ?_; rintro e w6 ⟨rfl, hr6, hg6⟩; rw [HR.out] at hr6 ⊢; have hc6 := below_gr hbw.drew hg6 (by exact hbw.size) hg; obtain ⟨j0, j1, j2, j3, j4⟩ := (HC.out w6 hc6).cells))
            all_goals go_wp2_with fail
            all_goals refine (rerr_all _ g l' false _ (by exact hr6)).mono ?_
            all_goals rintro e w7 ⟨rfl, rfl⟩
            all_goals rw [show errV false = 0 from rfl]
            all_goals go_wp2
            all_goals go_roundw
            all_goals first | exact ⟨k + 1, l', by go_num, by omega, hr6, hc6, by omega, HN.out⟩ | (simp [intOf]; omega)
          | true =>
            have HN : Hid (takenB b its = false) := by unfold Hid; rw [HX.out, HK.out, if_neg (fun h => by cases h.2)]
            clear HX HK hsame
            go_wp2_with fail
            go_region_held (fun w' => w'.cell? ⟨(ad.add (k * 5)).block, (ad.add (k * 5)).off + 1, none⟩ = some (.int .i64 xn)) (first | exact i1 | exact j1 | assumption)
              (first | (go_at_call 20; refine (rint_all _ g l false _ (by exact hr.below (Below.refl _ _).drew) hS).mono ?_; rintro e w6 ⟨rfl, hr6, hg6⟩; rw [HR.out] at hr6 ⊢; have hc6 := below_gr hbw.drew hg6 (by exact hbw.size) hg; obtain ⟨j0, j1, j2, j3, j4⟩ := (HC.out w6 hc6).cells))
            all_goals go_wp2_with fail
            all_goals refine (rerr_all _ g l' true _ (by exact hr6)).mono ?_
            all_goals rintro e w7 ⟨rfl, rfl⟩
            all_goals rw [show errV true = 30 from rfl]
            all_goals go_wp2
            all_goals go_ret
            all_goals exact ⟨ret_bool HN.out.symm, hc6⟩
        · have hq : (v == xn) = false := beq_eq_false_iff_ne.2 hsame
          have HN : Hid (takenB b its = false) := by unfold Hid; rw [HX.out, HK.out, if_neg (fun h => hsame h.1)]
          clear HX HK hsame
          go_wp2_with fail
          go_region_held (fun w' => w'.cell? ⟨(ad.add (k * 5)).block, (ad.add (k * 5)).off + 1, none⟩ = some (.int .i64 xn)) (first | exact i1 | exact j1 | assumption)
            (first | (go_at_call 20; refine (rint_all _ g l false _ (by exact hr.below (Below.refl _ _).drew) hS).mono ?_; rintro e w6 ⟨rfl, hr6, hg6⟩; rw [HR.out] at hr6 ⊢; have hc6 := below_gr hbw.drew hg6 (by exact hbw.size) hg; obtain ⟨j0, j1, j2, j3, j4⟩ := (HC.out w6 hc6).cells))
          all_goals go_wp2
          all_goals go_ret
          all_goals exact ⟨ret_bool HN.out.symm, hc6⟩
      · have hk0' : (xk == 0) = false := beq_eq_false_iff_ne.2 hk0
        by_cases hk1 : xk = 1
        · subst hk1
          have hle : (rBool l false).2.1.length ≤ l.length := rBool_le l
          have HK : Hid (tk l ⟨1, xn, xb, xs, xm⟩ = if (rBool l false).1 = xb ∧ (rBool l false).2.2 = false then some (rBool l false).2.1 else none) := by unfold Hid tk; simp
          obtain ⟨v, l', bad, hrd⟩ : ∃ v l' bad, rBool l false = (v, l', bad) := ⟨_, _, _, rfl⟩
          have HR := Lib.hid hrd
          rw [hrd] at hle HK
          clear hrd
          simp only at hle HK
          by_cases hsame : v = xb
          · have hq : (v == xb) = true := beq_iff_eq.2 hsame
            cases bad with
            | false =>
              have HN : Hid (takenB b its = takenB l' (its.drop (k + 1))) := by unfold Hid; rw [HX.out, HK.out, if_pos ⟨hsame, rfl⟩]
              clear HX HK hsame
              go_wp2_with fail
              go_region_held (fun w' => w'.cell? ⟨(ad.add (k * 5)).block, (ad.add (k * 5)).off + 2, none⟩ = some (.bool xb)) (first | exact i2 | exact j2 | assumption)
                (first | (go_at_call 22; refine (rbool_all _ g l false _ (by exact hr.below (Below.refl _ _).drew) hS).mono ?_; rintro e w6 ⟨rfl, hr6, hg6⟩; rw [HR.out] at hr6 ⊢; have hc6 := below_gr hbw.drew hg6 (by exact hbw.size) hg; obtain ⟨j0, j1, j2, j3, j4⟩ := (HC.out w6 hc6).cells))
              all_goals go_wp2_with fail
              all_goals refine (rerr_all _ g l' false _ (by exact hr6)).mono ?_
              all_goals rintro e w7 ⟨rfl, rfl⟩
              all_goals rw [show errV false = 0 from rfl]
              all_goals go_wp2
              all_goals go_roundw
              all_goals first | exact ⟨k + 1, l', by go_num, by omega, hr6, hc6, by omega, HN.out⟩ | (simp [intOf]; omega)
            | true =>
              have HN : Hid (takenB b its = false) := by unfold Hid; rw [HX.out, HK.out, if_neg (fun h => by cases h.2)]
              clear HX HK hsame
              go_wp2_with fail
              go_region_held (fun w' => w'.cell? ⟨(ad.add (k * 5)).block, (ad.add (k * 5)).off + 2, none⟩ = some (.bool xb)) (first | exact i2 | exact j2 | assumption)
                (first | (go_at_call 22; refine (rbool_all _ g l false _ (by exact hr.below (Below.refl _ _).drew) hS).mono ?_; rintro e w6 ⟨rfl, hr6, hg6⟩; rw [HR.out] at hr6 ⊢; have hc6 := below_gr hbw.drew hg6 (by exact hbw.size) hg; obtain ⟨j0, j1, j2, j3, j4⟩ := (HC.out w6 hc6).cells))
              all_goals go_wp2_with fail
              all_goals refine (rerr_all _ g l' true _ (by exact hr6)).mono ?_
              all_goals rintro e w7 ⟨rfl, rfl⟩
              all_goals rw [show errV true = 30 from rfl]
              all_goals go_wp2
              all_goals go_ret
              all_goals exact ⟨ret_bool HN.out.symm, hc6⟩
          · have hq : (v == xb) = false := beq_eq_false_iff_ne.2 hsame
            have HN : Hid (takenB b its = false) := by unfold Hid; rw [HX.out, HK.out, if_neg (fun h => hsame h.1)]
            clear HX HK hsame
            go_wp2_with fail
            go_region_held (fun w' => w'.cell? ⟨(ad.add (k * 5)).block, (ad.add (k * 5)).off + 2, none⟩ = some (.bool xb)) (first | exact i2 | exact j2 | assumption)
              (first | (go_at_call 22; refine (rbool_all _ g l false _ (by exact hr.below (Below.refl _ _).drew) hS).mono ?_; rintro e w6 ⟨rfl, hr6, hg6⟩; rw [HR.out] at hr6 ⊢; have hc6 := below_gr hbw.drew hg6 (by exact hbw.size) hg; obtain ⟨j0, j1, j2, j3, j4⟩ := (HC.out w6 hc6).cells))
            all_goals go_wp2
            all_goals go_ret
            all_goals exact ⟨ret_bool HN.out.symm, hc6⟩
        · have hk1' : (xk == 1) = false := beq_eq_false_iff_ne.2 hk1
          by_cases hk2 : xk = 2
          · subst hk2
            have hle : (rText l false (xs.size : Int)).2.1.length ≤ l.length := rText_le l _
            have HK : Hid (tk l ⟨2, xn, xb, xs, xm⟩ = if (rText l false (xs.size : Int)).1 = xs.data.toList ∧ (rText l false (xs.size : Int)).2.2 = false then some (rText l false (xs.size : Int)).2.1 else none) := by unfold Hid tk; simp
            obtain ⟨v, l', bad, hrd⟩ : ∃ v l' bad, rText l false (xs.size : Int) = (v, l', bad) := ⟨_, _, _, rfl⟩
            have HR := Lib.hid hrd
            rw [hrd] at hle HK
            clear hrd
            simp only at hle HK
            by_cases hsame : v = xs.data.toList
            · have hq : (v == xs.toList) = true := by rw [ByteArray.toList_eq]; exact beq_iff_eq.2 hsame
              cases bad with
              | false =>
                have HN : Hid (takenB b its = takenB l' (its.drop (k + 1))) := by unfold Hid; rw [HX.out, HK.out, if_pos ⟨hsame, rfl⟩]
                clear HX HK hsame
                go_wp2_with fail
                go_region_held (fun w' => w'.cell? ⟨(ad.add (k * 5)).block, (ad.add (k * 5)).off + 3, none⟩ = some (.string xs)) (first | exact i3 | exact j3 | assumption)
                  (first | (go_at_call 24; refine (rtext_all _ g l false (xs.size : Int) _ (by exact hr.below (Below.refl _ _).drew) hS (by omega)).mono ?_; rintro e w6 ⟨rfl, hr6, hg6⟩; rw [HR.out] at hr6 ⊢; have hc6 := below_gr hbw.drew hg6 (by exact hbw.size) hg; obtain ⟨j0, j1, j2, j3, j4⟩ := (HC.out w6 hc6).cells))
                all_goals go_wp2_with fail
                all_goals refine (rerr_all _ g l' false _ (by exact hr6)).mono ?_
                all_goals rintro e w7 ⟨rfl, rfl⟩
                all_goals rw [show errV false = 0 from rfl]
                all_goals go_wp2
                all_goals go_roundw
                all_goals first | exact ⟨k + 1, l', by go_num, by omega, hr6, hc6, by omega, HN.out⟩ | (simp [intOf]; omega)
              | true =>
                have HN : Hid (takenB b its = false) := by unfold Hid; rw [HX.out, HK.out, if_neg (fun h => by cases h.2)]
                clear HX HK hsame
                go_wp2_with fail
                go_region_held (fun w' => w'.cell? ⟨(ad.add (k * 5)).block, (ad.add (k * 5)).off + 3, none⟩ = some (.string xs)) (first | exact i3 | exact j3 | assumption)
                  (first | (go_at_call 24; refine (rtext_all _ g l false (xs.size : Int) _ (by exact hr.below (Below.refl _ _).drew) hS (by omega)).mono ?_; rintro e w6 ⟨rfl, hr6, hg6⟩; rw [HR.out] at hr6 ⊢; have hc6 := below_gr hbw.drew hg6 (by exact hbw.size) hg; obtain ⟨j0, j1, j2, j3, j4⟩ := (HC.out w6 hc6).cells))
                all_goals go_wp2_with fail
                all_goals refine (rerr_all _ g l' true _ (by exact hr6)).mono ?_
                all_goals rintro e w7 ⟨rfl, rfl⟩
                all_goals rw [show errV true = 30 from rfl]
                all_goals go_wp2
                all_goals go_ret
                all_goals exact ⟨ret_bool HN.out.symm, hc6⟩
            · have hq : (v == xs.toList) = false := by rw [ByteArray.toList_eq]; exact beq_eq_false_iff_ne.2 hsame
              have HN : Hid (takenB b its = false) := by unfold Hid; rw [HX.out, HK.out, if_neg (fun h => hsame h.1)]
              clear HX HK hsame
              go_wp2_with fail
              go_region_held (fun w' => w'.cell? ⟨(ad.add (k * 5)).block, (ad.add (k * 5)).off + 3, none⟩ = some (.string xs)) (first | exact i3 | exact j3 | assumption)
                (first | (go_at_call 24; refine (rtext_all _ g l false (xs.size : Int) _ (by exact hr.below (Below.refl _ _).drew) hS (by omega)).mono ?_; rintro e w6 ⟨rfl, hr6, hg6⟩; rw [HR.out] at hr6 ⊢; have hc6 := below_gr hbw.drew hg6 (by exact hbw.size) hg; obtain ⟨j0, j1, j2, j3, j4⟩ := (HC.out w6 hc6).cells))
              all_goals go_wp2
              all_goals go_ret
              all_goals exact ⟨ret_bool HN.out.symm, hc6⟩
          · have hk2' : (xk == 2) = false := beq_eq_false_iff_ne.2 hk2
            by_cases hk3 : xk = 3
            · subst hk3
              have hle : (rInt l false).2.1.length ≤ l.length := rInt_le l
              have HK : Hid (tk l ⟨3, xn, xb, xs, xm⟩ = if (rInt l false).1 = xn ∧ (rInt l false).2.2 = false then some (rInt l false).2.1 else none) := by unfold Hid tk; simp
              obtain ⟨v, l', bad, hrd⟩ : ∃ v l' bad, rInt l false = (v, l', bad) := ⟨_, _, _, rfl⟩
              have HR := Lib.hid hrd
              rw [hrd] at hle HK
              clear hrd
              simp only at hle HK
              by_cases hsame : v = xn
              · have hq : (v == xn) = true := beq_iff_eq.2 hsame
                cases bad with
                | false =>
                  have HN : Hid (takenB b its = takenB l' (its.drop (k + 1))) := by unfold Hid; rw [HX.out, HK.out, if_pos ⟨hsame, rfl⟩]
                  clear HX HK hsame
                  go_wp2_with fail
                  refine (rint_all _ g l false wr hr hS).mono ?_
                  rintro e w6 ⟨rfl, hr6, hg6⟩
                  rw [HR.out] at hr6 ⊢
                  have hc6 := below_gr hbw hg6 hbw.size hg
                  obtain ⟨j0, j1, j2, j3, j4⟩ := (HC.out w6 hc6).cells
                  simp only at j0 j1 j2 j3 j4
                  all_goals go_wp2_with fail
                  all_goals refine (rerr_all _ g l' false _ (by exact hr6)).mono ?_
                  all_goals rintro e w7 ⟨rfl, rfl⟩
                  all_goals rw [show errV false = 0 from rfl]
                  all_goals go_wp2
                  all_goals go_roundw
                  all_goals first | exact ⟨k + 1, l', by go_num, by omega, hr6, hc6, by omega, HN.out⟩ | (simp [intOf]; omega)
                | true =>
                  have HN : Hid (takenB b its = false) := by unfold Hid; rw [HX.out, HK.out, if_neg (fun h => by cases h.2)]
                  clear HX HK hsame
                  go_wp2_with fail
                  refine (rint_all _ g l false wr hr hS).mono ?_
                  rintro e w6 ⟨rfl, hr6, hg6⟩
                  rw [HR.out] at hr6 ⊢
                  have hc6 := below_gr hbw hg6 hbw.size hg
                  obtain ⟨j0, j1, j2, j3, j4⟩ := (HC.out w6 hc6).cells
                  simp only at j0 j1 j2 j3 j4
                  all_goals go_wp2_with fail
                  all_goals refine (rerr_all _ g l' true _ (by exact hr6)).mono ?_
                  all_goals rintro e w7 ⟨rfl, rfl⟩
                  all_goals rw [show errV true = 30 from rfl]
                  all_goals go_wp2
                  all_goals go_ret
                  all_goals exact ⟨ret_bool HN.out.symm, hc6⟩
              · have hq : (v == xn) = false := beq_eq_false_iff_ne.2 hsame
                have HN : Hid (takenB b its = false) := by unfold Hid; rw [HX.out, HK.out, if_neg (fun h => hsame h.1)]
                clear HX HK hsame
                go_wp2_with fail
                refine (rint_all _ g l false wr hr hS).mono ?_
                rintro e w6 ⟨rfl, hr6, hg6⟩
                rw [HR.out] at hr6 ⊢
                have hc6 := below_gr hbw hg6 hbw.size hg
                obtain ⟨j0, j1, j2, j3, j4⟩ := (HC.out w6 hc6).cells
                simp only at j0 j1 j2 j3 j4
                all_goals go_wp2
                all_goals go_ret
                all_goals exact ⟨ret_bool HN.out.symm, hc6⟩
            · have hk3' : (xk == 3) = false := beq_eq_false_iff_ne.2 hk3
              have HN : Hid (takenB b its = takenB l (its.drop (k + 1))) := by
                have e : tk l ⟨xk, xn, xb, xs, xm⟩ = some l := by
                  unfold tk
                  simp [hk0, hk1, hk2, hk3]
                unfold Hid
                rw [HX.out, e]
              clear hk0 hk1 hk2 hk3
              go_wp2_with fail
              refine (rerr_all _ g l false wr hr).mono ?_
              rintro e w7 ⟨rfl, rfl⟩
              have he : errV false = 0 := rfl
              rw [he]
              clear he
              go_wp2
              go_roundw
              case rel => exact ⟨k + 1, l, by go_num, by omega, hr, hbw, hlb, HN.out⟩
              case measure => simp [intOf]; omega
    · have HE : Hid (takenB b its = decide (l.length = 0)) := by
        unfold Hid
        rw [HT.out, List.drop_of_length_le (by omega)]
        rfl
      clear HT
      go_wp2_with fail
      refine (rleft_all _ g l false wr hr).mono ?_
      rintro e w7 ⟨rfl, rfl⟩
      go_wp2
      go_ret
      refine ⟨ret_bool ?_, hbw⟩
      rw [HE.out, Bool.eq_iff_iff]
      simp
end Go.Proofs.Yteokhbcpfhjhdaa.Pk
