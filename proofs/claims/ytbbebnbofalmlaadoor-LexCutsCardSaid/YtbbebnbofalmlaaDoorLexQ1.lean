/-
  The contracts of the document's own past, word and part.
-/
import Derived.Test.YtbbebnbofalmlaaDoorLexR5
import Derived.BigQuiet
import Derived.Deep.QuietTactic
namespace Go.Proofs.YtbbebnbofalmlaaDoor.Lx
open Go.RowKit

/-- How many runes are passed over: in a remark, or not. -/
def pastR : Bool → List Nat → Nat
  | _, [] => 0
  | true, r :: rs => if r = 10 then 1 + pastR false rs else 1 + pastR true rs
  | false, r :: rs => if clsI (r : Int) = 6 then 1 + pastR true rs else if clsI (r : Int) = 1 then 1 + pastR false rs else 0
theorem pastR_le : ∀ (b : Bool) (R : List Nat), pastR b R ≤ R.length
  | _, [] => by simp [pastR]
  | true, r :: rs => by
    have h1 := pastR_le true rs
    have h2 := pastR_le false rs
    unfold pastR; split <;> simp <;> omega
  | false, r :: rs => by
    have h1 := pastR_le true rs
    have h2 := pastR_le false rs
    unfold pastR; split
    · simp; omega
    · split <;> simp <;> omega
theorem drop_at (R : List Nat) (k : Nat) (h : k < R.length) : R.drop k = R.getD k 0 :: R.drop (k + 1) := by
  rw [List.drop_eq_getElem_cons h, List.getD_eq_getElem?_getD, List.getElem?_eq_getElem h]; rfl

theorem ret_nat {a b : Nat} (h : a = b) : Ending.returned (.int .i64 (a : Int)) = .returned (.int .i64 (b : Int)) := by rw [h]

/-- A row of numbers that lies in memory. -/
def Rd (w : World) (A : Option Addr) (R : List Nat) : Prop :=
  ∀ k (_hk : k < R.length), ∃ g, A = some ⟨g, 0, none⟩ ∧ g < w.heap.size ∧ ∀ j (_hj : j < R.length), w.cell? ⟨g, j, none⟩ = some (.int .i64 ((R.getD j 0 : Nat) : Int))
theorem Rd.below {w w' : World} {A : Option Addr} {R : List Nat} (h : Rd w A R) (hb : Below w.heap.size w w') : Rd w' A R := by
  intro k hk
  obtain ⟨g, h1, h2, h3⟩ := h k hk
  exact ⟨g, h1, Nat.lt_of_lt_of_le h2 hb.size, fun j hj => (hb.cell (p := ⟨g, j, none⟩) h2).trans (h3 j hj)⟩
theorem Rd.alloc {w : World} {A : Option Addr} {R : List Nat} (h : Rd w A R) (o : Obj) : Rd (w.alloc o) A R := h.below ((Below.refl _ w).alloc (Nat.le_refl _) o)

set_option maxHeartbeats 8000000 in
theorem word_ref (s : ByteArray) (A1 A2 : Option Addr) (R : List Nat) (c1 n2 c2 i : Nat) (w : World) (hR : R.length ≤ 20000) (hi : i ≤ R.length) (hrd : Rd w A1 R) :
    Calls Tryd.prog 41 #[.agg #[.string s, .slice A1 R.length c1, .slice A2 n2 c2], .int .i64 i] w fun e w' => e = .returned (.int .i64 ((i + ((R.drop i).takeWhile fun (r : Nat) => isWI (r : Int)).length : Nat) : Int)) ∧ Below w.heap.size w w' := by
  have HD := Lib.hid (hrd.alloc (.cells #[.string s, .slice A1 R.length c1, .slice A2 n2 c2] 47))
  have hbf : Below w.heap.size w (w.alloc (.cells #[.string s, .slice A1 R.length c1, .slice A2 n2 c2] 47)) := (Below.refl _ w).alloc (Nat.le_refl _) _
  clear hrd
  generalize hX : i + ((R.drop i).takeWhile fun (r : Nat) => isWI (r : Int)).length = X
  have HX := Lib.hid hX
  clear hX
  go_enter Tryd.func41, Tryd.ntmps41
  go_wp2_with fail
  go_loop [1] (fun i => ∃ k : Nat, k ≤ R.length ∧ i = .int .i64 k ∧ Hid (k + ((R.drop k).takeWhile fun (r : Nat) => isWI (r : Int)).length = X)) (fun i => R.length - (intOf i).toNat)
  case atStart => exact ⟨i, hi, rfl, HX.out⟩
  case round =>
    obtain ⟨k, hk, rfl, HJ⟩ := hrel
    by_cases hlt : k < R.length
    · obtain ⟨g, rfl, hgl, hcell⟩ := HD.out k hlt
      have hc := hcell k hlt
      have HA := Lib.hid (drop_at R k hlt)
      clear HD hcell
      rcases hw : isWI ((R.getD k 0 : Nat) : Int) with _ | _
      · have HF : Hid (k = X) := by
          have := HJ.out; rw [HA.out, List.takeWhile_cons_of_neg (by simpa using hw)] at this; exact this
        generalize R.getD k 0 = rk at *
        go_wp2_with (go_at_call 35; refine (wordy_any _ _).mono ?_; rintro e w' ⟨rfl, rfl⟩)
        go_ret
        exact ⟨ret_nat HF.out, hbf⟩
      · have HF : Hid (k + 1 + ((R.drop (k + 1)).takeWhile fun (r : Nat) => isWI (r : Int)).length = X) := by
          have := HJ.out; rw [HA.out, List.takeWhile_cons_of_pos (by simpa using hw)] at this; unfold Hid; rw [← this]; simp; omega
        generalize R.getD k 0 = rk at *
        go_wp2_with (go_at_call 35; refine (wordy_any _ _).mono ?_; rintro e w' ⟨rfl, rfl⟩)
        go_round
        case rel => exact ⟨k + 1, by omega, by go_num, HF.out⟩
        case measure => simp [intOf]; omega
    · have HF : Hid (k = X) := by
        have := HJ.out; rw [List.drop_of_length_le (by omega)] at this; exact this
      go_wp2_with fail
      go_ret
      exact ⟨ret_nat HF.out, hbf⟩

set_option maxHeartbeats 8000000 in
theorem past_ref (s : ByteArray) (A1 A2 : Option Addr) (R : List Nat) (c1 n2 c2 i : Nat) (w : World) (hR : R.length ≤ 20000) (hi : i ≤ R.length) (hrd : Rd w A1 R) :
    Calls Tryd.prog 31 #[.agg #[.string s, .slice A1 R.length c1, .slice A2 n2 c2], .int .i64 i] w fun e w' => e = .returned (.int .i64 ((i + pastR false (R.drop i) : Nat) : Int)) ∧ Below w.heap.size w w' := by
  have HD := Lib.hid (hrd.alloc (.cells #[.string s, .slice A1 R.length c1, .slice A2 n2 c2] 47))
  have hbf : Below w.heap.size w (w.alloc (.cells #[.string s, .slice A1 R.length c1, .slice A2 n2 c2] 47)) := (Below.refl _ w).alloc (Nat.le_refl _) _
  clear hrd
  generalize hX : i + pastR false (R.drop i) = X
  have HX := Lib.hid hX
  clear hX
  go_enter Tryd.func31, Tryd.ntmps31
  go_wp2_with fail
  go_loop [1] (fun i => ∃ k : Nat, k ≤ R.length ∧ i = .int .i64 k ∧ Hid (k + pastR false (R.drop k) = X)) (fun i => R.length - (intOf i).toNat)
  case atStart => exact ⟨i, hi, rfl, HX.out⟩
  case round =>
    obtain ⟨k, hk, rfl, HJ⟩ := hrel
    by_cases hlt : k < R.length
    · obtain ⟨g, rfl, hgl, hcell⟩ := HD.out k hlt
      have hc := hcell k hlt
      have HA := Lib.hid (drop_at R k hlt)
      have HC := Lib.hid hcell
      clear HD hcell
      by_cases h6 : clsI ((R.getD k 0 : Nat) : Int) = 6
      · have HF : Hid (k + pastR true (R.drop k) = X) := by
          have h10 : R.getD k 0 ≠ 10 := by intro e; rw [e] at h6; revert h6; decide
          have := HJ.out; rw [HA.out] at this ⊢; unfold pastR at this ⊢; rw [if_pos h6] at this; rw [if_neg h10]; exact this
        have b6 : (clsI ((R.getD k 0 : Nat) : Int) == 6) = true := beq_iff_eq.2 h6
        have h10 : R.getD k 0 ≠ 10 := by intro e; rw [e] at h6; revert h6; decide
        have H10 := Lib.hid h10
        clear h6 h10
        generalize hrk : R.getD k 0 = rk at *
        have HRK := Lib.hid hrk
        clear hrk
        go_wp2_with (go_at_call 17; refine (refClass_any _ _).mono ?_; rintro e w' ⟨rfl, rfl⟩)
        clear hc
        go_loop [1] (fun i => ∃ q : Nat, k ≤ q ∧ q ≤ R.length ∧ i = .int .i64 q ∧ Hid (q + pastR true (R.drop q) = X)) (fun i => R.length - (intOf i).toNat)
        case atStart => exact ⟨k, by omega, by omega, rfl, HF.out⟩
        case round =>
          obtain ⟨q, hkq, hq, rfl, HQ⟩ := hrel
          by_cases hql : q < R.length
          · have hc := HC.out q hql
            have HB := Lib.hid (drop_at R q hql)
            by_cases h10 : R.getD q 0 = 10
            · have HG : Hid (q + pastR false (R.drop q) = X) := by
                have := HQ.out; rw [HB.out, h10] at this ⊢; unfold pastR at this ⊢; rw [if_pos rfl] at this; rw [if_neg (by decide), if_pos (by decide)]; exact this
              have hne : q ≠ k := by intro e; subst e; exact H10.out (HRK.out.symm.trans h10)
              have bq : (((R.getD q 0 : Nat) : Int) != 10) = false := by rw [h10]; rfl
              clear h10
              generalize R.getD q 0 = rq at *
              go_wp2_with fail
              go_round
              case rel => exact ⟨q, by omega, rfl, HG.out⟩
              case measure => simp [intOf]; omega
            · have HG : Hid (q + 1 + pastR true (R.drop (q + 1)) = X) := by
                have := HQ.out; rw [HB.out] at this; unfold pastR at this; rw [if_neg h10] at this; unfold Hid; omega
              have bq : (((R.getD q 0 : Nat) : Int) != 10) = true := by rw [bne_iff_ne]; omega
              clear h10
              generalize R.getD q 0 = rq at *
              go_wp2_with fail
              go_round
              case rel => exact ⟨q + 1, by omega, by omega, by go_num, HG.out⟩
              case measure => simp [intOf]; omega
          · have HG : Hid (q + pastR false (R.drop q) = X) := by
              have := HQ.out; rw [List.drop_of_length_le (by omega)] at this ⊢; exact this
            go_wp2_with fail
            go_round
            case rel => exact ⟨q, by omega, rfl, HG.out⟩
            case measure => simp [intOf]; omega
      · have b6 : (clsI ((R.getD k 0 : Nat) : Int) == 6) = false := beq_eq_false_iff_ne.2 h6
        by_cases h1 : clsI ((R.getD k 0 : Nat) : Int) = 1
        · have HF : Hid (k + 1 + pastR false (R.drop (k + 1)) = X) := by
            have := HJ.out; rw [HA.out] at this; unfold pastR at this; rw [if_neg h6, if_pos h1] at this; unfold Hid; omega
          have b1 : (clsI ((R.getD k 0 : Nat) : Int) != 1) = false := by rw [h1]; rfl
          clear h6 h1
          generalize R.getD k 0 = rk at *
          go_wp2_with (go_at_call 17; refine (refClass_any _ _).mono ?_; rintro e w' ⟨rfl, rfl⟩)
          go_round
          case rel => exact ⟨k + 1, by omega, by go_num, HF.out⟩
          case measure => simp [intOf]; omega
        · have HF : Hid (k = X) := by
            have := HJ.out; rw [HA.out] at this; unfold pastR at this; rw [if_neg h6, if_neg h1] at this; unfold Hid; omega
          have b1 : (clsI ((R.getD k 0 : Nat) : Int) != 1) = true := bne_iff_ne.2 h1
          clear h6 h1
          generalize R.getD k 0 = rk at *
          go_wp2_with (go_at_call 17; refine (refClass_any _ _).mono ?_; rintro e w' ⟨rfl, rfl⟩)
          go_ret
          exact ⟨ret_nat HF.out, hbf⟩
    · have HF : Hid (k = X) := by
        have := HJ.out; rw [List.drop_of_length_le (by omega)] at this; exact this
      go_wp2_with fail
      go_ret
      exact ⟨ret_nat HF.out, hbf⟩

set_option maxHeartbeats 8000000 in
theorem part_ref (s : ByteArray) (A1 A2 : Option Addr) (P : List Nat) (n1 c1 c2 i k : Nat) (w : World) (hi : i < P.length) (hk : k < P.length) (hle : P.getD i 0 ≤ P.getD k 0) (hs : P.getD k 0 ≤ s.size) (_hss : s.size ≤ 20000) (_hP : P.length ≤ 20001) (hrd : Rd w A2 P) :
    Calls Tryd.prog 42 #[.agg #[.string s, .slice A1 n1 c1, .slice A2 P.length c2], .int .i64 i, .int .i64 k] w fun e w' => e = .returned (.string (s.extract (P.getD i 0) (P.getD k 0))) ∧ Below w.heap.size w w' := by
  obtain ⟨g, rfl, hgl, hcell⟩ := hrd.alloc (.cells #[.string s, .slice A1 n1 c1, .slice A2 P.length c2] 47) i hi
  have hbf : Below w.heap.size w (w.alloc (.cells #[.string s, .slice A1 n1 c1, .slice (some ⟨g, 0, none⟩) P.length c2] 47)) := (Below.refl _ w).alloc (Nat.le_refl _) _
  have hci := hcell i hi
  have hck := hcell k hk
  clear hcell hrd
  generalize P.getD i 0 = a at *
  generalize P.getD k 0 = b at *
  generalize P.length = n at *
  have hsl : ∀ W, (Instr.slice 9 (.string s) (some (.int .i64 (a : Int))) (some (.int .i64 (b : Int))) none).run Tryd.prog W = .ok (.string (s.extract a b)) W := fun W => by
    have := run_slice_string (P := Tryd.prog) (w := W) 9 s .i64 .i64 (a : Int) (b : Int) Tryd.underlying9 (by omega) (by omega) (by omega)
    simpa using this
  go_enter Tryd.func42, Tryd.ntmps42
  go_wp2_with fail
  go_quiet (fail)
  go_wp2_with fail
  go_ret
  exact ⟨rfl, below_drewN hbf _⟩
end Go.Proofs.YtbbebnbofalmlaaDoor.Lx
