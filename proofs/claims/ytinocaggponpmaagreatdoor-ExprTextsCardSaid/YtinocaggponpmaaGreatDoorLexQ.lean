/-
  The contracts of the document's own past, word and part.
  The contract of the document's own quoted.
  The contract of the document's own token.
  What the document's own token comes to, beside the program's: plain facts, and its contract.
  The contract of the document's own Cut: the same as the program's.
-/
import Derived.Test.YtinocaggponpmaaGreatDoorLexR5
import Derived.Test.YtinocaggponpmaaGreatDoorLexR2
import Derived.Test.YtinocaggponpmaaGreatDoorLexU
import Derived.Test.YtinocaggponpmaaGreatDoorLexW9
import Derived.BigQuiet
import Derived.Deep.QuietTactic
namespace Go.Proofs.YtinocaggponpmaaGreatDoor.Lx
open Go.RowKit

/-- How many runes are passed over: in a remark, or not. -/
def pastR : Bool → List Nat → Nat
  | _, [] => 0
  | true, r :: rs => if r = 10 then 1 + pastR false rs else 1 + pastR true rs
  | false, r :: rs => if clsI (r : Int) = 6 then 1 + pastR true rs else if clsI (r : Int) = 1 then 1 + pastR false rs else 0
theorem pastR_le : ∀ (b : Bool) (R : List Nat), pastR b R ≤ R.length
  | _, [] => by simp [pastR]
  | true, r :: rs => by
    have h1 := pastR_le true rs
    have h2 := pastR_le false rs
    unfold pastR; split <;> simp <;> omega
  | false, r :: rs => by
    have h1 := pastR_le true rs
    have h2 := pastR_le false rs
    unfold pastR; split
    · simp; omega
    · split <;> simp <;> omega
theorem drop_at (R : List Nat) (k : Nat) (h : k < R.length) : R.drop k = R.getD k 0 :: R.drop (k + 1) := by
  rw [List.drop_eq_getElem_cons h, List.getD_eq_getElem?_getD, List.getElem?_eq_getElem h]; rfl

theorem ret_nat {a b : Nat} (h : a = b) : Ending.returned (.int .i64 (a : Int)) = .returned (.int .i64 (b : Int)) := by rw [h]

/-- A row of numbers that lies in memory. -/
def Rd (w : World) (A : Option Addr) (R : List Nat) : Prop :=
  ∀ k (_hk : k < R.length), ∃ g, A = some ⟨g, 0, none⟩ ∧ g < w.heap.size ∧ ∀ j (_hj : j < R.length), w.cell? ⟨g, j, none⟩ = some (.int .i64 ((R.getD j 0 : Nat) : Int))
theorem Rd.below {w w' : World} {A : Option Addr} {R : List Nat} (h : Rd w A R) (hb : Below w.heap.size w w') : Rd w' A R := by
  intro k hk
  obtain ⟨g, h1, h2, h3⟩ := h k hk
  exact ⟨g, h1, Nat.lt_of_lt_of_le h2 hb.size, fun j hj => (hb.cell (p := ⟨g, j, none⟩) h2).trans (h3 j hj)⟩
theorem Rd.alloc {w : World} {A : Option Addr} {R : List Nat} (h : Rd w A R) (o : Obj) : Rd (w.alloc o) A R := h.below ((Below.refl _ w).alloc (Nat.le_refl _) o)

set_option maxHeartbeats 8000000 in
theorem word_ref (s : ByteArray) (A1 A2 : Option Addr) (R : List Nat) (c1 n2 c2 i : Nat) (w : World) (hR : R.length ≤ 20000) (hi : i ≤ R.length) (hrd : Rd w A1 R) :
    Calls Tryz.prog 71 #[.agg #[.string s, .slice A1 R.length c1, .slice A2 n2 c2], .int .i64 i] w fun e w' => e = .returned (.int .i64 ((i + ((R.drop i).takeWhile fun (r : Nat) => isWI (r : Int)).length : Nat) : Int)) ∧ Below w.heap.size w w' := by
  have HD := Lib.hid (hrd.alloc (.cells #[.string s, .slice A1 R.length c1, .slice A2 n2 c2] 71))
  have hbf : Below w.heap.size w (w.alloc (.cells #[.string s, .slice A1 R.length c1, .slice A2 n2 c2] 71)) := (Below.refl _ w).alloc (Nat.le_refl _) _
  clear hrd
  generalize hX : i + ((R.drop i).takeWhile fun (r : Nat) => isWI (r : Int)).length = X
  have HX := Lib.hid hX
  clear hX
  go_enter Tryz.func71, Tryz.ntmps71
  go_wp2_with fail
  go_loop [1] (fun i => ∃ k : Nat, k ≤ R.length ∧ i = .int .i64 k ∧ Hid (k + ((R.drop k).takeWhile fun (r : Nat) => isWI (r : Int)).length = X)) (fun i => R.length - (intOf i).toNat)
  case atStart => exact ⟨i, hi, rfl, HX.out⟩
  case round =>
    obtain ⟨k, hk, rfl, HJ⟩ := hrel
    by_cases hlt : k < R.length
    · obtain ⟨g, rfl, hgl, hcell⟩ := HD.out k hlt
      have hc := hcell k hlt
      have HA := Lib.hid (drop_at R k hlt)
      clear HD hcell
      rcases hw : isWI ((R.getD k 0 : Nat) : Int) with _ | _
      · have HF : Hid (k = X) := by
          have := HJ.out; rw [HA.out, List.takeWhile_cons_of_neg (by simpa using hw)] at this; exact this
        generalize R.getD k 0 = rk at *
        go_wp2_with (go_at_call 90; refine (wordy_any _ _).mono ?_; rintro e w' ⟨rfl, rfl⟩)
        go_ret
        exact ⟨ret_nat HF.out, hbf⟩
      · have HF : Hid (k + 1 + ((R.drop (k + 1)).takeWhile fun (r : Nat) => isWI (r : Int)).length = X) := by
          have := HJ.out; rw [HA.out, List.takeWhile_cons_of_pos (by simpa using hw)] at this; unfold Hid; rw [← this]; simp; omega
        generalize R.getD k 0 = rk at *
        go_wp2_with (go_at_call 90; refine (wordy_any _ _).mono ?_; rintro e w' ⟨rfl, rfl⟩)
        go_round
        case rel => exact ⟨k + 1, by omega, by go_num, HF.out⟩
        case measure => simp [intOf]; omega
    · have HF : Hid (k = X) := by
        have := HJ.out; rw [List.drop_of_length_le (by omega)] at this; exact this
      go_wp2_with fail
      go_ret
      exact ⟨ret_nat HF.out, hbf⟩

set_option maxHeartbeats 8000000 in
theorem past_ref (s : ByteArray) (A1 A2 : Option Addr) (R : List Nat) (c1 n2 c2 i : Nat) (w : World) (hR : R.length ≤ 20000) (hi : i ≤ R.length) (hrd : Rd w A1 R) :
    Calls Tryz.prog 43 #[.agg #[.string s, .slice A1 R.length c1, .slice A2 n2 c2], .int .i64 i] w fun e w' => e = .returned (.int .i64 ((i + pastR false (R.drop i) : Nat) : Int)) ∧ Below w.heap.size w w' := by
  have HD := Lib.hid (hrd.alloc (.cells #[.string s, .slice A1 R.length c1, .slice A2 n2 c2] 71))
  have hbf : Below w.heap.size w (w.alloc (.cells #[.string s, .slice A1 R.length c1, .slice A2 n2 c2] 71)) := (Below.refl _ w).alloc (Nat.le_refl _) _
  clear hrd
  generalize hX : i + pastR false (R.drop i) = X
  have HX := Lib.hid hX
  clear hX
  go_enter Tryz.func43, Tryz.ntmps43
  go_wp2_with fail
  go_loop [1] (fun i => ∃ k : Nat, k ≤ R.length ∧ i = .int .i64 k ∧ Hid (k + pastR false (R.drop k) = X)) (fun i => R.length - (intOf i).toNat)
  case atStart => exact ⟨i, hi, rfl, HX.out⟩
  case round =>
    obtain ⟨k, hk, rfl, HJ⟩ := hrel
    by_cases hlt : k < R.length
    · obtain ⟨g, rfl, hgl, hcell⟩ := HD.out k hlt
      have hc := hcell k hlt
      have HA := Lib.hid (drop_at R k hlt)
      have HC := Lib.hid hcell
      clear HD hcell
      by_cases h6 : clsI ((R.getD k 0 : Nat) : Int) = 6
      · have HF : Hid (k + pastR true (R.drop k) = X) := by
          have h10 : R.getD k 0 ≠ 10 := by intro e; rw [e] at h6; revert h6; decide
          have := HJ.out; rw [HA.out] at this ⊢; unfold pastR at this ⊢; rw [if_pos h6] at this; rw [if_neg h10]; exact this
        have b6 : (clsI ((R.getD k 0 : Nat) : Int) == 6) = true := beq_iff_eq.2 h6
        have h10 : R.getD k 0 ≠ 10 := by intro e; rw [e] at h6; revert h6; decide
        have H10 := Lib.hid h10
        clear h6 h10
        generalize hrk : R.getD k 0 = rk at *
        have HRK := Lib.hid hrk
        clear hrk
        go_wp2_with (go_at_call 70; refine (refClass_any _ _).mono ?_; rintro e w' ⟨rfl, rfl⟩)
        clear hc
        go_loop [1] (fun i => ∃ q : Nat, k ≤ q ∧ q ≤ R.length ∧ i = .int .i64 q ∧ Hid (q + pastR true (R.drop q) = X)) (fun i => R.length - (intOf i).toNat)
        case atStart => exact ⟨k, by omega, by omega, rfl, HF.out⟩
        case round =>
          obtain ⟨q, hkq, hq, rfl, HQ⟩ := hrel
          by_cases hql : q < R.length
          · have hc := HC.out q hql
            have HB := Lib.hid (drop_at R q hql)
            by_cases h10 : R.getD q 0 = 10
            · have HG : Hid (q + pastR false (R.drop q) = X) := by
                have := HQ.out; rw [HB.out, h10] at this ⊢; unfold pastR at this ⊢; rw [if_pos rfl] at this; rw [if_neg (by decide), if_pos (by decide)]; exact this
              have hne : q ≠ k := by intro e; subst e; exact H10.out (HRK.out.symm.trans h10)
              have bq : (((R.getD q 0 : Nat) : Int) != 10) = false := by rw [h10]; rfl
              clear h10
              generalize R.getD q 0 = rq at *
              go_wp2_with fail
              go_round
              case rel => exact ⟨q, by omega, rfl, HG.out⟩
              case measure => simp [intOf]; omega
            · have HG : Hid (q + 1 + pastR true (R.drop (q + 1)) = X) := by
                have := HQ.out; rw [HB.out] at this; unfold pastR at this; rw [if_neg h10] at this; unfold Hid; omega
              have bq : (((R.getD q 0 : Nat) : Int) != 10) = true := by rw [bne_iff_ne]; omega
              clear h10
              generalize R.getD q 0 = rq at *
              go_wp2_with fail
              go_round
              case rel => exact ⟨q + 1, by omega, by omega, by go_num, HG.out⟩
              case measure => simp [intOf]; omega
          · have HG : Hid (q + pastR false (R.drop q) = X) := by
              have := HQ.out; rw [List.drop_of_length_le (by omega)] at this ⊢; exact this
            go_wp2_with fail
            go_round
            case rel => exact ⟨q, by omega, rfl, HG.out⟩
            case measure => simp [intOf]; omega
      · have b6 : (clsI ((R.getD k 0 : Nat) : Int) == 6) = false := beq_eq_false_iff_ne.2 h6
        by_cases h1 : clsI ((R.getD k 0 : Nat) : Int) = 1
        · have HF : Hid (k + 1 + pastR false (R.drop (k + 1)) = X) := by
            have := HJ.out; rw [HA.out] at this; unfold pastR at this; rw [if_neg h6, if_pos h1] at this; unfold Hid; omega
          have b1 : (clsI ((R.getD k 0 : Nat) : Int) != 1) = false := by rw [h1]; rfl
          clear h6 h1
          generalize R.getD k 0 = rk at *
          go_wp2_with (go_at_call 70; refine (refClass_any _ _).mono ?_; rintro e w' ⟨rfl, rfl⟩)
          go_round
          case rel => exact ⟨k + 1, by omega, by go_num, HF.out⟩
          case measure => simp [intOf]; omega
        · have HF : Hid (k = X) := by
            have := HJ.out; rw [HA.out] at this; unfold pastR at this; rw [if_neg h6, if_neg h1] at this; unfold Hid; omega
          have b1 : (clsI ((R.getD k 0 : Nat) : Int) != 1) = true := bne_iff_ne.2 h1
          clear h6 h1
          generalize R.getD k 0 = rk at *
          go_wp2_with (go_at_call 70; refine (refClass_any _ _).mono ?_; rintro e w' ⟨rfl, rfl⟩)
          go_ret
          exact ⟨ret_nat HF.out, hbf⟩
    · have HF : Hid (k = X) := by
        have := HJ.out; rw [List.drop_of_length_le (by omega)] at this; exact this
      go_wp2_with fail
      go_ret
      exact ⟨ret_nat HF.out, hbf⟩

set_option maxHeartbeats 8000000 in
theorem part_ref (s : ByteArray) (A1 A2 : Option Addr) (P : List Nat) (n1 c1 c2 i k : Nat) (w : World) (hi : i < P.length) (hk : k < P.length) (hle : P.getD i 0 ≤ P.getD k 0) (hs : P.getD k 0 ≤ s.size) (_hss : s.size ≤ 20000) (_hP : P.length ≤ 20001) (hrd : Rd w A2 P) :
    Calls Tryz.prog 72 #[.agg #[.string s, .slice A1 n1 c1, .slice A2 P.length c2], .int .i64 i, .int .i64 k] w fun e w' => e = .returned (.string (s.extract (P.getD i 0) (P.getD k 0))) ∧ Below w.heap.size w w' := by
  obtain ⟨g, rfl, hgl, hcell⟩ := hrd.alloc (.cells #[.string s, .slice A1 n1 c1, .slice A2 P.length c2] 71) i hi
  have hbf : Below w.heap.size w (w.alloc (.cells #[.string s, .slice A1 n1 c1, .slice (some ⟨g, 0, none⟩) P.length c2] 71)) := (Below.refl _ w).alloc (Nat.le_refl _) _
  have hci := hcell i hi
  have hck := hcell k hk
  clear hcell hrd
  generalize P.getD i 0 = a at *
  generalize P.getD k 0 = b at *
  generalize P.length = n at *
  have hsl : ∀ W, (Instr.slice 9 (.string s) (some (.int .i64 (a : Int))) (some (.int .i64 (b : Int))) none).run Tryz.prog W = .ok (.string (s.extract a b)) W := fun W => by
    have := run_slice_string (P := Tryz.prog) (w := W) 9 s .i64 .i64 (a : Int) (b : Int) Tryz.underlying9 (by omega) (by omega) (by omega)
    simpa using this
  go_enter Tryz.func72, Tryz.ntmps72
  go_wp2_with fail
  go_quiet (fail)
  go_wp2_with fail
  go_ret
  exact ⟨rfl, below_drewN hbf _⟩
end Go.Proofs.YtinocaggponpmaaGreatDoor.Lx

namespace Go.Proofs.YtinocaggponpmaaGreatDoor.Lx
open Go.RowKit

/-- What a text in quotes comes to behind its first quote: the error, and how many runes it has. -/
def txR : Nat → List Nat → Int × Nat
  | _, [] => (11, 0)
  | n, r :: rs => if r = 34 then (if 20 < n then (2, 0) else (0, n)) else if r < 32 then (11, 0) else txR (n + 1) rs
theorem txR_none : ∀ (rs : List Nat) (n : Nat), (∀ r ∈ rs, r ≠ 34) → txR n rs = (11, 0)
  | [], _, _ => rfl
  | r :: rs, n, h => by
    unfold txR
    rw [if_neg (h r (by simp))]
    split
    · rfl
    · exact txR_none rs _ (fun x hx => h x (by simp [hx]))
theorem txR_low : ∀ (xs ys : List Nat) (n : Nat), (∀ r ∈ xs, r ≠ 34) → (∃ r ∈ xs, r < 32) → txR n (xs ++ ys) = (11, 0)
  | [], _, _, _, ⟨r, hr, _⟩ => by cases hr
  | x :: xs, ys, n, h, ⟨r, hr, hl⟩ => by
    show txR n (x :: (xs ++ ys)) = _
    unfold txR
    rw [if_neg (h x (by simp))]
    split
    · rfl
    · rename_i hx
      refine txR_low xs ys _ (fun y hy => h y (by simp [hy])) ⟨r, ?_, hl⟩
      rcases List.mem_cons.1 hr with rfl | hr
      · exact absurd hl hx
      · exact hr
theorem txR_ok : ∀ (xs ys : List Nat) (n : Nat), (∀ r ∈ xs, r ≠ 34 ∧ 32 ≤ r) → txR n (xs ++ 34 :: ys) = if 20 < n + xs.length then (2, 0) else (0, n + xs.length)
  | [], ys, n, _ => by show txR n (34 :: ys) = _; unfold txR; rw [if_pos rfl]; simp
  | x :: xs, ys, n, h => by
    show txR n (x :: (xs ++ 34 :: ys)) = _
    unfold txR
    rw [if_neg (h x (by simp)).1, if_neg (by have := (h x (by simp)).2; omega), txR_ok xs ys _ (fun y hy => h y (by simp [hy]))]
    simp only [List.length_cons]
    rw [show n + 1 + xs.length = n + (xs.length + 1) from by omega]
theorem take_snoc (R : List Nat) (a m : Nat) (h : a + m < R.length) : (R.drop a).take (m + 1) = (R.drop a).take m ++ [R.getD (a + m) 0] := by
  rw [List.take_succ_eq_append_getElem (by rw [List.length_drop]; omega), List.getElem_drop, List.getD_eq_getElem?_getD, List.getElem?_eq_getElem h]; rfl
theorem drop_split (R : List Nat) (a m : Nat) (h : a + m < R.length) : R.drop a = (R.drop a).take m ++ R.getD (a + m) 0 :: R.drop (a + m + 1) := by
  conv => lhs; rw [← List.take_append_drop m (R.drop a)]
  rw [List.drop_drop, drop_at R (a + m) h]
theorem mem_take_at (R : List Nat) (a j m : Nat) (hj : j < m) (h : a + j < R.length) : R.getD (a + j) 0 ∈ (R.drop a).take m := by
  rw [List.getD_eq_getElem?_getD, List.getElem?_eq_getElem h, List.mem_take_iff_getElem]
  exact ⟨j, by rw [List.length_drop]; omega, by rw [List.getElem_drop]; rfl⟩

def zTokV : Value := .agg #[.int .i64 0, .string ⟨#[]⟩, .int .i64 0, .int .i64 0]
def quoE (s : ByteArray) (R P : List Nat) (i : Nat) : Ending :=
  if (txR 0 (R.drop (i + 1))).1 = 0 then .returned (.tuple #[.agg #[.int .i64 3, .string (s.extract (P.getD (i + 1) 0) (P.getD (i + 1 + (txR 0 (R.drop (i + 1))).2) 0)), .int .i64 0, .int .i64 i], .int .i64 ((i + 1 + (txR 0 (R.drop (i + 1))).2 + 1 : Nat) : Int), .int .i64 0])
  else .returned (.tuple #[zTokV, .int .i64 0, .int .i64 (txR 0 (R.drop (i + 1))).1])
theorem quoE_err {s : ByteArray} {R P : List Nat} {i : Nat} {e : Int} (h : txR 0 (R.drop (i + 1)) = (e, 0)) (he : e ≠ 0) : quoE s R P i = .returned (.tuple #[.agg #[.int .i64 0, .string ⟨#[]⟩, .int .i64 0, .int .i64 0], .int .i64 0, .int .i64 e]) := by
  unfold quoE; rw [h, if_neg he]; rfl
theorem quoE_ok {s : ByteArray} {R P : List Nat} {i n : Nat} (h : txR 0 (R.drop (i + 1)) = (0, n)) : quoE s R P i = .returned (.tuple #[.agg #[.int .i64 3, .string (s.extract (P.getD (i + 1) 0) (P.getD (i + 1 + n) 0)), .int .i64 0, .int .i64 i], .int .i64 ((i + 1 + n + 1 : Nat) : Int), .int .i64 0]) := by
  unfold quoE; rw [h, if_pos rfl]

/-- The places of a text's runes. -/
structure Places (s : ByteArray) (R P : List Nat) : Prop where
  len : P.length = R.length + 1
  mono : ∀ i k, i ≤ k → k ≤ R.length → P.getD i 0 ≤ P.getD k 0
  le : ∀ k, k ≤ R.length → P.getD k 0 ≤ s.size

theorem part_at (s : ByteArray) (A1 A2 : Option Addr) (P : List Nat) (n1 c1 c2 i k : Nat) (a b : Int) (w : World) (ha : a = (i : Int)) (hb : b = (k : Int)) (hi : i < P.length) (hk : k < P.length) (hle : P.getD i 0 ≤ P.getD k 0) (hs : P.getD k 0 ≤ s.size) (hss : s.size ≤ 20000) (hP : P.length ≤ 20001) (hrd : Rd w A2 P) :
    Calls Tryz.prog 72 #[.agg #[.string s, .slice A1 n1 c1, .slice A2 P.length c2], .int .i64 a, .int .i64 b] w fun e w' => e = .returned (.string (s.extract (P.getD i 0) (P.getD k 0))) ∧ Below w.heap.size w w' := by
  subst ha hb
  exact part_ref s A1 A2 P n1 c1 c2 i k w hi hk hle hs hss hP hrd

set_option maxRecDepth 100000 in
set_option maxHeartbeats 8000000 in
theorem quoted_ref (s : ByteArray) (A1 A2 : Option Addr) (R P : List Nat) (c1 c2 i : Nat) (w : World) (hss : s.size ≤ 20000) (hR : R.length ≤ 20000) (hi : i < R.length) (hrd : Rd w A1 R) (hrp : Rd w A2 P) (hpl : Places s R P) :
    Calls Tryz.prog 74 #[.agg #[.string s, .slice A1 R.length c1, .slice A2 P.length c2], .int .i64 i] w fun e w' => e = quoE s R P i ∧ Below w.heap.size w w' := by
  obtain ⟨g, rfl, hgl, hcell⟩ := hrd i hi
  have hbf : Below w.heap.size w ((w.alloc (.cells #[.string s, .slice (some ⟨g, 0, none⟩) R.length c1, .slice A2 P.length c2] 71)).alloc (.cells #[.int .i64 0, .string ⟨#[]⟩, .int .i64 0, .int .i64 0] 52)) := ((Below.refl _ w).alloc (Nat.le_refl _) _).alloc (by simp) _
  have hx0 : Box ((w.alloc (.cells #[.string s, .slice (some ⟨g, 0, none⟩) R.length c1, .slice A2 P.length c2] 71)).alloc (.cells #[.int .i64 0, .string ⟨#[]⟩, .int .i64 0, .int .i64 0] 52)) w.heap.size 71 #[.string s, .slice (some ⟨g, 0, none⟩) R.length c1, .slice A2 P.length c2] := (Box.new w _ _).alloc _
  have hx1 : Box ((w.alloc (.cells #[.string s, .slice (some ⟨g, 0, none⟩) R.length c1, .slice A2 P.length c2] 71)).alloc (.cells #[.int .i64 0, .string ⟨#[]⟩, .int .i64 0, .int .i64 0] 52)) (w.heap.size + 1) 52 #[.int .i64 0, .string ⟨#[]⟩, .int .i64 0, .int .i64 0] := by
    have := Box.new (w.alloc (.cells #[.string s, .slice (some ⟨g, 0, none⟩) R.length c1, .slice A2 P.length c2] 71)) 52 #[.int .i64 0, .string ⟨#[]⟩, .int .i64 0, .int .i64 0]
    simpa using this
  have HC : Hid (∀ j (_hj : j < R.length), ((w.alloc (.cells #[.string s, .slice (some ⟨g, 0, none⟩) R.length c1, .slice A2 P.length c2] 71)).alloc (.cells #[.int .i64 0, .string ⟨#[]⟩, .int .i64 0, .int .i64 0] 52)).cell? ⟨g, j, none⟩ = some (.int .i64 ((R.getD j 0 : Nat) : Int))) := fun j hj =>
    (hbf.cell (p := ⟨g, j, none⟩) hgl).trans (hcell j hj)
  have HP := Lib.hid (hrp.below hbf)
  clear hrd hrp hcell
  have HPl := Lib.hid hpl
  clear hpl
  go_enter Tryz.func74, Tryz.ntmps74
  go_wp2_with fail
  generalize (w.alloc (.cells #[.string s, .slice (some ⟨g, 0, none⟩) R.length c1, .slice A2 P.length c2] 71)).alloc (.cells #[.int .i64 0, .string ⟨#[]⟩, .int .i64 0, .int .i64 0] 52) = W0 at *
  obtain ⟨p0, p1, p2, _, _, _⟩ := hx0.three
  obtain ⟨q0, q1, q2, q3, f0, f1, f2, f3⟩ := hx1.four
  go_loop [7] (fun k => ∃ m : Nat, i + 1 + m ≤ R.length ∧ k = .int .i64 ((i + 1 + m : Nat) : Int) ∧ Hid (∀ x ∈ (R.drop (i + 1)).take m, x ≠ 34 ∧ x ≠ 10)) (fun k => R.length - (intOf k).toNat)
  case atStart => exact ⟨0, by omega, by go_num, by intro x hx; simp at hx⟩
  case round =>
    obtain ⟨m, hm, rfl, HM⟩ := hrel
    by_cases hlt : i + 1 + m < R.length
    · have hc := HC.out _ hlt
      have HS := Lib.hid (take_snoc R (i + 1) m hlt)
      have HT := Lib.hid (drop_split R (i + 1) m hlt)
      by_cases h34 : R.getD (i + 1 + m) 0 = 34
      · have b1 : (((R.getD (i + 1 + m) 0 : Nat) : Int) != 34) = false := by rw [h34]; rfl
        have b3 : (((R.getD (i + 1 + m) 0 : Nat) : Int) == 10) = false := by rw [h34]; rfl
        have b0 : (((i + 1 + m : Nat) : Int) == (R.length : Int)) = false := beq_eq_false_iff_ne.2 (by omega)
        have H34 := Lib.hid h34
        clear h34 HS
        generalize R.getD (i + 1 + m) 0 = rk at *
        go_wp2_with fail
        clear hc b1 b3 b0
        go_loop [8] (fun n => ∃ j : Nat, j ≤ m ∧ n = .int .i64 ((i + 1 + j : Nat) : Int) ∧ Hid (∀ x ∈ (R.drop (i + 1)).take j, 32 ≤ x)) (fun n => R.length - (intOf n).toNat)
        case atStart => exact ⟨0, by omega, by go_num, by intro x hx; simp at hx⟩
        case round =>
          obtain ⟨j, hj, rfl, HJ⟩ := hrel
          by_cases hjm : j < m
          · have hc := HC.out (i + 1 + j) (by omega)
            have HS := Lib.hid (take_snoc R (i + 1) j (by omega))
            have HU := Lib.hid (mem_take_at R (i + 1) j m hjm (by omega))
            by_cases h32 : R.getD (i + 1 + j) 0 < 32
            · have HF : Hid (quoE s R P i = .returned (.tuple #[.agg #[.int .i64 0, .string ⟨#[]⟩, .int .i64 0, .int .i64 0], .int .i64 0, .int .i64 11])) := by
                refine quoE_err ?_ (by decide)
                rw [HT.out]
                exact txR_low _ _ 0 (fun x hx => (HM.out x hx).1) ⟨_, HU.out, h32⟩
              clear HS HU
              generalize R.getD (i + 1 + j) 0 = rj at *
              go_wp2_with fail
              refine bodyPost_ret (v := .tuple #[.agg #[.int .i64 0, .string ⟨#[]⟩, .int .i64 0, .int .i64 0], .int .i64 0, .int .i64 11]) (by simp [results, Tryz.results74, go_sem, q0, q1, q2, q3]) rfl ⟨HF.out.symm, below_set4 hbf (by omega) _ _ _ _⟩
            · have HN : Hid (∀ x ∈ (R.drop (i + 1)).take (j + 1), 32 ≤ x) := by
                intro x hx
                rw [HS.out] at hx
                rcases List.mem_append.1 hx with hx | hx
                · exact HJ.out x hx
                · simp only [List.mem_singleton] at hx; rw [hx]; omega
              clear HS HU
              generalize R.getD (i + 1 + j) 0 = rj at *
              go_wp2_with fail
              go_round
              case rel => exact ⟨j + 1, by omega, by go_num, HN.out⟩
              case measure => simp [intOf]; omega
          · obtain rfl : j = m := by omega
            have hln : ((R.drop (i + 1)).take j).length = j := by rw [List.length_take, List.length_drop]; omega
            have hq : txR 0 (R.drop (i + 1)) = if 20 < j then (2, 0) else (0, j) := by
              rw [HT.out, H34.out, txR_ok _ _ 0 (fun x hx => ⟨(HM.out x hx).1, HJ.out x hx⟩), hln, Nat.zero_add]
            by_cases h20 : 20 < j
            · have HF : Hid (quoE s R P i = .returned (.tuple #[.agg #[.int .i64 0, .string ⟨#[]⟩, .int .i64 0, .int .i64 0], .int .i64 0, .int .i64 2])) :=
                quoE_err (by rw [hq, if_pos h20]) (by decide)
              clear hq hln
              go_wp2_with fail
              refine bodyPost_ret (v := .tuple #[.agg #[.int .i64 0, .string ⟨#[]⟩, .int .i64 0, .int .i64 0], .int .i64 0, .int .i64 2]) (by simp [results, Tryz.results74, go_sem, q0, q1, q2, q3]) rfl ⟨HF.out.symm, below_set4 hbf (by omega) _ _ _ _⟩
            · have HF : Hid (quoE s R P i = _) := quoE_ok (by rw [hq, if_neg h20])
              clear hq hln
              have hk1 : i + 1 < P.length ∧ i + 1 + j < P.length ∧ P.length ≤ 20001 := by have := HPl.out.len; omega
              have hm1 := HPl.out.mono (i + 1) (i + 1 + j) (by omega) (by omega)
              have hm2 := HPl.out.le (i + 1 + j) (by omega)
              go_wp2_with fail
              with_reducible refine (part_at s (some ⟨g, 0, none⟩) A2 P R.length c1 c2 (i + 1) (i + 1 + j) ((i : Int) + 1) ((i : Int) + 1 + j) W0 (by omega) (by omega) hk1.1 hk1.2.1 hm1 hm2 hss hk1.2.2 HP.out).mono ?_
              rintro e w2 ⟨rfl, hb2⟩
              have hx1' := hx1.below hb2 (Array.getElem?_eq_some_iff.1 hx1).1
              have hbf2 := hbf.trans (hb2.mono hbf.size)
              clear q0 q1 q2 q3 f0 f1 f2 f3 hx1 hx0
              obtain ⟨q0, q1, q2, q3, f0, f1, f2, f3⟩ := hx1'.four
              generalize s.extract (P.getD (i + 1) 0) (P.getD (i + 1 + j) 0) = str at *
              go_wp2_with fail
              refine bodyPost_ret (v := .tuple #[.agg #[.int .i64 3, .string str, .int .i64 0, .int .i64 i], .int .i64 ((i : Int) + 1 + j + 1), .int .i64 0]) (by simp [results, Tryz.results74, go_sem, q0, q1, q2, q3]) rfl ⟨by rw [HF.out]; simp, below_set4 hbf2 (by omega) _ _ _ _⟩
      · by_cases h10 : R.getD (i + 1 + m) 0 = 10
        · have HF : Hid (quoE s R P i = .returned (.tuple #[.agg #[.int .i64 0, .string ⟨#[]⟩, .int .i64 0, .int .i64 0], .int .i64 0, .int .i64 11])) := by
            refine quoE_err ?_ (by decide)
            rw [HT.out, h10, show (R.drop (i + 1)).take m ++ 10 :: R.drop (i + 1 + m + 1) = ((R.drop (i + 1)).take m ++ [10]) ++ R.drop (i + 1 + m + 1) from by simp]
            refine txR_low _ _ 0 (fun x hx => ?_) ⟨10, by simp, by decide⟩
            rcases List.mem_append.1 hx with hx | hx
            · exact (HM.out x hx).1
            · simp at hx; rw [hx]; decide
          have b1 : (((R.getD (i + 1 + m) 0 : Nat) : Int) != 34) = true := bne_iff_ne.2 (by omega)
          have b2 : (((R.getD (i + 1 + m) 0 : Nat) : Int) != 10) = false := by rw [h10]; rfl
          have b3 : (((R.getD (i + 1 + m) 0 : Nat) : Int) == 10) = true := by rw [h10]; rfl
          have b0 : (((i + 1 + m : Nat) : Int) == (R.length : Int)) = false := beq_eq_false_iff_ne.2 (by omega)
          clear h34 h10 HS HT
          generalize R.getD (i + 1 + m) 0 = rk at *
          go_wp2_with fail
          refine bodyPost_ret (v := .tuple #[.agg #[.int .i64 0, .string ⟨#[]⟩, .int .i64 0, .int .i64 0], .int .i64 0, .int .i64 11]) (by simp [results, Tryz.results74, go_sem, q0, q1, q2, q3]) rfl ⟨HF.out.symm, below_set4 hbf (by omega) _ _ _ _⟩
        · have HN : Hid (∀ x ∈ (R.drop (i + 1)).take (m + 1), x ≠ 34 ∧ x ≠ 10) := by
            intro x hx
            rw [HS.out] at hx
            rcases List.mem_append.1 hx with hx | hx
            · exact HM.out x hx
            · simp only [List.mem_singleton] at hx; rw [hx]; exact ⟨h34, h10⟩
          have b1 : (((R.getD (i + 1 + m) 0 : Nat) : Int) != 34) = true := bne_iff_ne.2 (by omega)
          have b2 : (((R.getD (i + 1 + m) 0 : Nat) : Int) != 10) = true := bne_iff_ne.2 (by omega)
          clear h34 h10 HS HT
          generalize R.getD (i + 1 + m) 0 = rk at *
          go_wp2_with fail
          go_round
          case rel => exact ⟨m + 1, by omega, by go_num, HN.out⟩
          case measure => simp [intOf]; omega
    · have hme : i + 1 + m = R.length := by omega
      have HF : Hid (quoE s R P i = .returned (.tuple #[.agg #[.int .i64 0, .string ⟨#[]⟩, .int .i64 0, .int .i64 0], .int .i64 0, .int .i64 11])) :=
        quoE_err (txR_none _ 0 (fun x hx => (HM.out x (by rw [List.take_of_length_le (by rw [List.length_drop]; omega)]; exact hx)).1)) (by decide)
      have b1 : (((i + 1 + m : Nat) : Int) == (R.length : Int)) = true := beq_iff_eq.2 (by omega)
      go_wp2_with fail
      refine bodyPost_ret (v := .tuple #[.agg #[.int .i64 0, .string ⟨#[]⟩, .int .i64 0, .int .i64 0], .int .i64 0, .int .i64 11]) (by simp [results, Tryz.results74, go_sem, q0, q1, q2, q3]) rfl ⟨HF.out.symm, below_set4 hbf (by omega) _ _ _ _⟩
end Go.Proofs.YtinocaggponpmaaGreatDoor.Lx

namespace Go.Proofs.YtinocaggponpmaaGreatDoor.Lx
open Go.RowKit

def zE (e : Int) : Ending := .returned (.tuple #[.agg #[.int .i64 0, .string ⟨#[]⟩, .int .i64 0, .int .i64 0], .int .i64 0, .int .i64 e])
def tE (k : Int) (str : ByteArray) (n : Int) (i z : Nat) : Ending := .returned (.tuple #[.agg #[.int .i64 k, .string str, .int .i64 n, .int .i64 i], .int .i64 z, .int .i64 0])
def wdR (R : List Nat) (i : Nat) : Nat := ((R.drop i).takeWhile fun (r : Nat) => isWI (r : Int)).length
theorem wdR_le (R : List Nat) (i : Nat) (hi : i ≤ R.length) : i + wdR R i ≤ R.length := by
  have := (List.takeWhile_sublist (fun (r : Nat) => isWI (r : Int)) (l := R.drop i)).length_le
  rw [List.length_drop] at this
  unfold wdR
  omega
def ext (s : ByteArray) (P : List Nat) (i k : Nat) : ByteArray := s.extract (P.getD i 0) (P.getD k 0)
def two5 (str : ByteArray) : Prop := str.toList = [60, 61] ∨ str.toList = [62, 61] ∨ str.toList = [61, 61] ∨ str.toList = [33, 61] ∨ str.toList = [58, 61]


set_option maxRecDepth 100000 in
set_option maxHeartbeats 8000000 in
theorem token_2 (s : ByteArray) (A1 A2 : Option Addr) (R P : List Nat) (c1 c2 i : Nat) (w : World) (hss : s.size ≤ 20000) (hR : R.length ≤ 20000) (hi : i < R.length) (hrd : Rd w A1 R) (hrp : Rd w A2 P) (hpl : Places s R P) (h2 : clsI ((R.getD i 0 : Nat) : Int) = 2) (X : Ending) (HX : Hid (X = (if 12 < wdR R i then zE 2 else tE 1 (ext s P i (i + wdR R i)) 0 i (i + wdR R i)))) :
    Calls Tryz.prog 44 #[.agg #[.string s, .slice A1 R.length c1, .slice A2 P.length c2], .int .i64 i] w fun e w' => e = X ∧ Below w.heap.size w w' := by
  obtain ⟨g, rfl, hgl, hcell⟩ := hrd i hi
  have hbf : Below w.heap.size w ((w.alloc (.cells #[.string s, .slice (some ⟨g, 0, none⟩) R.length c1, .slice A2 P.length c2] 71)).alloc (.cells #[.int .i64 0, .string ⟨#[]⟩, .int .i64 0, .int .i64 0] 52)) := ((Below.refl _ w).alloc (Nat.le_refl _) _).alloc (by simp) _
  have hx0 : Box ((w.alloc (.cells #[.string s, .slice (some ⟨g, 0, none⟩) R.length c1, .slice A2 P.length c2] 71)).alloc (.cells #[.int .i64 0, .string ⟨#[]⟩, .int .i64 0, .int .i64 0] 52)) w.heap.size 71 #[.string s, .slice (some ⟨g, 0, none⟩) R.length c1, .slice A2 P.length c2] := (Box.new w _ _).alloc _
  have hx1 : Box ((w.alloc (.cells #[.string s, .slice (some ⟨g, 0, none⟩) R.length c1, .slice A2 P.length c2] 71)).alloc (.cells #[.int .i64 0, .string ⟨#[]⟩, .int .i64 0, .int .i64 0] 52)) (w.heap.size + 1) 52 #[.int .i64 0, .string ⟨#[]⟩, .int .i64 0, .int .i64 0] := by
    have := Box.new (w.alloc (.cells #[.string s, .slice (some ⟨g, 0, none⟩) R.length c1, .slice A2 P.length c2] 71)) 52 #[.int .i64 0, .string ⟨#[]⟩, .int .i64 0, .int .i64 0]
    simpa using this
  have HR0 := Lib.hid (hrd.below hbf)
  have HP0 := Lib.hid (hrp.below hbf)
  have HPl := Lib.hid hpl
  clear hrd hrp hcell hpl
  go_enter Tryz.func44, Tryz.ntmps44
  go_wp2_with fail
  generalize ((w.alloc (.cells #[.string s, .slice (some ⟨g, 0, none⟩) R.length c1, .slice A2 P.length c2] 71)).alloc (.cells #[.int .i64 0, .string ⟨#[]⟩, .int .i64 0, .int .i64 0] 52)) = W0 at *
  have hm := wdR_le R i (Nat.le_of_lt hi)
  with_reducible refine (word_ref s (some ⟨g, 0, none⟩) A2 R c1 P.length c2 i W0 hR (Nat.le_of_lt hi) HR0.out).mono ?_
  rintro e w1 ⟨rfl, hb1⟩
  have hx0b := hx0.below hb1 (Array.getElem?_eq_some_iff.1 hx0).1
  obtain ⟨p0, p1, p2, _, _, _⟩ := hx0b.three
  have hx1b := hx1.below hb1 (Array.getElem?_eq_some_iff.1 hx1).1
  have hbf1 := hbf.trans (hb1.mono hbf.size)
  have HR1 := Lib.hid (HR0.out.below hb1)
  have HP1 := Lib.hid (HP0.out.below hb1)
  clear HR0 HP0 hbf hb1 hx0 hx1
  obtain ⟨q0, q1, q2, q3, f0, f1, f2, f3⟩ := hx1b.four
  obtain ⟨g', eg, _, hcell⟩ := HR1.out i hi
  injection eg with eg
  injection eg with eg
  subst eg
  have hc := hcell i hi
  have HC := Lib.hid hcell
  clear hcell
  have hx1 := hx1b
  generalize hmm : ((R.drop i).takeWhile fun (r : Nat) => isWI (r : Int)).length = m
  have hm' : i + m ≤ R.length := by rw [← hmm]; exact hm
  have HM : Hid (wdR R i = m) := hmm
  clear hmm hm
  generalize hrr : R.getD i 0 = r at *
  have HRR := Lib.hid hrr
  clear hrr
  have b2 : (clsI (r : Int) == 2) = true := beq_iff_eq.2 h2
  clear h2
  by_cases h12 : 12 < m
  · have HF : Hid (X = zE 2) := by unfold Hid; rw [HX.out, HM.out, if_pos h12]
    go_wp2_with (go_at_call 70; refine (refClass_any _ _).mono ?_; rintro e w' ⟨rfl, rfl⟩)
    refine bodyPost_ret (v := .tuple #[.agg #[.int .i64 0, .string ⟨#[]⟩, .int .i64 0, .int .i64 0], .int .i64 0, .int .i64 2]) (by simp [results, Tryz.results44, go_sem, q0, q1, q2, q3]) rfl ⟨HF.out.symm, below_set4 hbf1 (by omega) _ _ _ _⟩
  · have HF : Hid (X = tE 1 (s.extract (P.getD i 0) (P.getD (i + m) 0)) 0 i (i + m)) := by unfold Hid; rw [HX.out, HM.out, if_neg h12]; rfl
    have hk1 : i < P.length ∧ (i + m) < P.length ∧ P.length ≤ 20001 := by have := HPl.out.len; omega
    have hm1 := HPl.out.mono i ((i + m)) (by omega) (by omega)
    have hm2 := HPl.out.le ((i + m)) (by omega)
    go_wp2_with (go_at_call 70; refine (refClass_any _ _).mono ?_; rintro e w' ⟨rfl, rfl⟩)
    with_reducible refine (part_at s (some ⟨g, 0, none⟩) A2 P R.length c1 c2 i (i + m) (i : Int) ((i : Int) + m) w1 rfl (by omega) hk1.1 hk1.2.1 hm1 hm2 hss hk1.2.2 HP1.out).mono ?_
    rintro e w2 ⟨rfl, hb2⟩
    have hx2 := hx1.below hb2 (Array.getElem?_eq_some_iff.1 hx1).1
    have hbf2 := hbf1.trans (hb2.mono hbf1.size)
    clear q0 q1 q2 q3 f0 f1 f2 f3
    obtain ⟨q0, q1, q2, q3, f0, f1, f2, f3⟩ := hx2.four
    generalize s.extract (P.getD i 0) (P.getD (i + m) 0) = str at *
    go_wp2_with fail
    refine bodyPost_ret (v := .tuple #[.agg #[.int .i64 1, .string str, .int .i64 0, .int .i64 i], .int .i64 ((i : Int) + m), .int .i64 0]) (by simp [results, Tryz.results44, go_sem, q0, q1, q2, q3]) rfl ⟨by rw [HF.out]; unfold tE; simp, below_set4 hbf2 (by omega) _ _ _ _⟩

set_option maxRecDepth 100000 in
set_option maxHeartbeats 8000000 in
theorem token_3 (s : ByteArray) (A1 A2 : Option Addr) (R P : List Nat) (c1 c2 i : Nat) (w : World) (hss : s.size ≤ 20000) (hR : R.length ≤ 20000) (hi : i < R.length) (hrd : Rd w A1 R) (hrp : Rd w A2 P) (hpl : Places s R P) (h2 : clsI ((R.getD i 0 : Nat) : Int) = 3) (X : Ending) (HX : Hid (X = (match numberL (ext s P i (i + wdR R i)).data.toList with | none => zE 11 | some n => tE 2 (ext s P i (i + wdR R i)) n i (i + wdR R i)))) :
    Calls Tryz.prog 44 #[.agg #[.string s, .slice A1 R.length c1, .slice A2 P.length c2], .int .i64 i] w fun e w' => e = X ∧ Below w.heap.size w w' := by
  obtain ⟨g, rfl, hgl, hcell⟩ := hrd i hi
  have hbf : Below w.heap.size w ((w.alloc (.cells #[.string s, .slice (some ⟨g, 0, none⟩) R.length c1, .slice A2 P.length c2] 71)).alloc (.cells #[.int .i64 0, .string ⟨#[]⟩, .int .i64 0, .int .i64 0] 52)) := ((Below.refl _ w).alloc (Nat.le_refl _) _).alloc (by simp) _
  have hx0 : Box ((w.alloc (.cells #[.string s, .slice (some ⟨g, 0, none⟩) R.length c1, .slice A2 P.length c2] 71)).alloc (.cells #[.int .i64 0, .string ⟨#[]⟩, .int .i64 0, .int .i64 0] 52)) w.heap.size 71 #[.string s, .slice (some ⟨g, 0, none⟩) R.length c1, .slice A2 P.length c2] := (Box.new w _ _).alloc _
  have hx1 : Box ((w.alloc (.cells #[.string s, .slice (some ⟨g, 0, none⟩) R.length c1, .slice A2 P.length c2] 71)).alloc (.cells #[.int .i64 0, .string ⟨#[]⟩, .int .i64 0, .int .i64 0] 52)) (w.heap.size + 1) 52 #[.int .i64 0, .string ⟨#[]⟩, .int .i64 0, .int .i64 0] := by
    have := Box.new (w.alloc (.cells #[.string s, .slice (some ⟨g, 0, none⟩) R.length c1, .slice A2 P.length c2] 71)) 52 #[.int .i64 0, .string ⟨#[]⟩, .int .i64 0, .int .i64 0]
    simpa using this
  have HR0 := Lib.hid (hrd.below hbf)
  have HP0 := Lib.hid (hrp.below hbf)
  have HPl := Lib.hid hpl
  clear hrd hrp hcell hpl
  go_enter Tryz.func44, Tryz.ntmps44
  go_wp2_with fail
  generalize ((w.alloc (.cells #[.string s, .slice (some ⟨g, 0, none⟩) R.length c1, .slice A2 P.length c2] 71)).alloc (.cells #[.int .i64 0, .string ⟨#[]⟩, .int .i64 0, .int .i64 0] 52)) = W0 at *
  have hm := wdR_le R i (Nat.le_of_lt hi)
  with_reducible refine (word_ref s (some ⟨g, 0, none⟩) A2 R c1 P.length c2 i W0 hR (Nat.le_of_lt hi) HR0.out).mono ?_
  rintro e w1 ⟨rfl, hb1⟩
  have hx0b := hx0.below hb1 (Array.getElem?_eq_some_iff.1 hx0).1
  obtain ⟨p0, p1, p2, _, _, _⟩ := hx0b.three
  have hx1b := hx1.below hb1 (Array.getElem?_eq_some_iff.1 hx1).1
  have hbf1 := hbf.trans (hb1.mono hbf.size)
  have HR1 := Lib.hid (HR0.out.below hb1)
  have HP1 := Lib.hid (HP0.out.below hb1)
  clear HR0 HP0 hbf hb1 hx0 hx1
  obtain ⟨q0, q1, q2, q3, f0, f1, f2, f3⟩ := hx1b.four
  obtain ⟨g', eg, _, hcell⟩ := HR1.out i hi
  injection eg with eg
  injection eg with eg
  subst eg
  have hc := hcell i hi
  have HC := Lib.hid hcell
  clear hcell
  have hx1 := hx1b
  generalize hmm : ((R.drop i).takeWhile fun (r : Nat) => isWI (r : Int)).length = m
  have hm' : i + m ≤ R.length := by rw [← hmm]; exact hm
  have HM : Hid (wdR R i = m) := hmm
  clear hmm hm
  generalize hrr : R.getD i 0 = r at *
  have HRR := Lib.hid hrr
  clear hrr
  have b2 : (clsI (r : Int) == 2) = false := beq_eq_false_iff_ne.2 (by omega)
  have b3 : (clsI (r : Int) == 3) = true := beq_iff_eq.2 h2
  clear h2
  have hk1 : i < P.length ∧ (i + m) < P.length ∧ P.length ≤ 20001 := by have := HPl.out.len; omega
  have hm1 := HPl.out.mono i ((i + m)) (by omega) (by omega)
  have hm2 := HPl.out.le ((i + m)) (by omega)
  have hstr : (s.extract (P.getD i 0) (P.getD (i + m) 0)).size ≤ 20000 := by rw [ByteArray.size_extract]; omega
  have HPo : Hid (X = match numberL (s.extract (P.getD i 0) (P.getD (i + m) 0)).data.toList with | none => zE 11 | some n => tE 2 (s.extract (P.getD i 0) (P.getD (i + m) 0)) n i (i + m)) := by unfold Hid; rw [HX.out, HM.out]; rfl
  go_wp2_with (go_at_call 70; refine (refClass_any _ _).mono ?_; rintro e w' ⟨rfl, rfl⟩)
  with_reducible refine (part_at s (some ⟨g, 0, none⟩) A2 P R.length c1 c2 i (i + m) (i : Int) ((i : Int) + m) w1 rfl (by omega) hk1.1 hk1.2.1 hm1 hm2 hss hk1.2.2 HP1.out).mono ?_
  rintro e w2 ⟨rfl, hb2⟩
  have hx2 := hx1.below hb2 (Array.getElem?_eq_some_iff.1 hx1).1
  have hbf2 := hbf1.trans (hb2.mono hbf1.size)
  clear q0 q1 q2 q3 f0 f1 f2 f3
  obtain ⟨q0, q1, q2, q3, f0, f1, f2, f3⟩ := hx2.four
  have HP2 := Lib.hid (HP1.out.below hb2)
  obtain ⟨p0', p1', p2', _, _, _⟩ := (hx0b.below hb2 (Array.getElem?_eq_some_iff.1 hx0b).1).three
  clear p0 p1 p2
  generalize hstr' : s.extract (P.getD i 0) (P.getD (i + m) 0) = str at *
  have HST := Lib.hid hstr'
  clear hstr'
  go_wp2_with fail
  refine (refNumber_any str _ (by omega)).mono ?_
  rintro e w' ⟨he, rfl⟩
  rcases hn : numberL str.data.toList with _ | n
  · have HF : Hid (X = zE 11) := by unfold Hid; rw [HPo.out, hn]
    rw [hn] at he
    simp only [numE] at he
    subst he
    clear hn
    go_wp2_with fail
    refine bodyPost_ret (v := .tuple #[.agg #[.int .i64 0, .string ⟨#[]⟩, .int .i64 0, .int .i64 0], .int .i64 0, .int .i64 11]) (by simp [results, Tryz.results44, go_sem, q0, q1, q2, q3]) rfl ⟨HF.out.symm, below_set4 hbf2 (by omega) _ _ _ _⟩
  · have HF : Hid (X = tE 2 str n i (i + m)) := by unfold Hid; rw [HPo.out, hn]
    rw [hn] at he
    simp only [numE] at he
    subst he
    clear hn
    go_wp2_with fail
    with_reducible refine (part_at s (some ⟨g, 0, none⟩) A2 P R.length c1 c2 i (i + m) (i : Int) ((i : Int) + m) w2 rfl (by omega) hk1.1 hk1.2.1 hm1 hm2 hss hk1.2.2 HP2.out).mono ?_
    rintro e w3 ⟨rfl, hb3⟩
    rw [HST.out]
    have hx3 := hx2.below hb3 (Array.getElem?_eq_some_iff.1 hx2).1
    have hbf3 := hbf2.trans (hb3.mono hbf2.size)
    clear q0 q1 q2 q3 f0 f1 f2 f3
    obtain ⟨q0, q1, q2, q3, f0, f1, f2, f3⟩ := hx3.four
    go_wp2_with fail
    refine bodyPost_ret (v := .tuple #[.agg #[.int .i64 2, .string str, .int .i64 n, .int .i64 i], .int .i64 ((i : Int) + m), .int .i64 0]) (by simp [results, Tryz.results44, go_sem, q0, q1, q2, q3]) rfl ⟨by rw [HF.out]; unfold tE; simp, below_set4 hbf3 (by omega) _ _ _ _⟩

set_option maxRecDepth 100000 in
set_option maxHeartbeats 8000000 in
theorem token_5 (s : ByteArray) (A1 A2 : Option Addr) (R P : List Nat) (c1 c2 i : Nat) (w : World) (hss : s.size ≤ 20000) (hR : R.length ≤ 20000) (hi : i < R.length) (hrd : Rd w A1 R) (hrp : Rd w A2 P) (hpl : Places s R P) (h2 : clsI ((R.getD i 0 : Nat) : Int) = 5) :
    Calls Tryz.prog 44 #[.agg #[.string s, .slice A1 R.length c1, .slice A2 P.length c2], .int .i64 i] w fun e w' => e = quoE s R P i ∧ Below w.heap.size w w' := by
  obtain ⟨g, rfl, hgl, hcell⟩ := hrd i hi
  have hbf : Below w.heap.size w ((w.alloc (.cells #[.string s, .slice (some ⟨g, 0, none⟩) R.length c1, .slice A2 P.length c2] 71)).alloc (.cells #[.int .i64 0, .string ⟨#[]⟩, .int .i64 0, .int .i64 0] 52)) := ((Below.refl _ w).alloc (Nat.le_refl _) _).alloc (by simp) _
  have hx0 : Box ((w.alloc (.cells #[.string s, .slice (some ⟨g, 0, none⟩) R.length c1, .slice A2 P.length c2] 71)).alloc (.cells #[.int .i64 0, .string ⟨#[]⟩, .int .i64 0, .int .i64 0] 52)) w.heap.size 71 #[.string s, .slice (some ⟨g, 0, none⟩) R.length c1, .slice A2 P.length c2] := (Box.new w _ _).alloc _
  have hx1 : Box ((w.alloc (.cells #[.string s, .slice (some ⟨g, 0, none⟩) R.length c1, .slice A2 P.length c2] 71)).alloc (.cells #[.int .i64 0, .string ⟨#[]⟩, .int .i64 0, .int .i64 0] 52)) (w.heap.size + 1) 52 #[.int .i64 0, .string ⟨#[]⟩, .int .i64 0, .int .i64 0] := by
    have := Box.new (w.alloc (.cells #[.string s, .slice (some ⟨g, 0, none⟩) R.length c1, .slice A2 P.length c2] 71)) 52 #[.int .i64 0, .string ⟨#[]⟩, .int .i64 0, .int .i64 0]
    simpa using this
  have HR0 := Lib.hid (hrd.below hbf)
  have HP0 := Lib.hid (hrp.below hbf)
  have HPl := Lib.hid hpl
  clear hrd hrp hcell hpl
  go_enter Tryz.func44, Tryz.ntmps44
  go_wp2_with fail
  generalize ((w.alloc (.cells #[.string s, .slice (some ⟨g, 0, none⟩) R.length c1, .slice A2 P.length c2] 71)).alloc (.cells #[.int .i64 0, .string ⟨#[]⟩, .int .i64 0, .int .i64 0] 52)) = W0 at *
  have hm := wdR_le R i (Nat.le_of_lt hi)
  with_reducible refine (word_ref s (some ⟨g, 0, none⟩) A2 R c1 P.length c2 i W0 hR (Nat.le_of_lt hi) HR0.out).mono ?_
  rintro e w1 ⟨rfl, hb1⟩
  have hx0b := hx0.below hb1 (Array.getElem?_eq_some_iff.1 hx0).1
  obtain ⟨p0, p1, p2, _, _, _⟩ := hx0b.three
  have hx1b := hx1.below hb1 (Array.getElem?_eq_some_iff.1 hx1).1
  have hbf1 := hbf.trans (hb1.mono hbf.size)
  have HR1 := Lib.hid (HR0.out.below hb1)
  have HP1 := Lib.hid (HP0.out.below hb1)
  clear HR0 HP0 hbf hb1 hx0 hx1
  obtain ⟨q0, q1, q2, q3, f0, f1, f2, f3⟩ := hx1b.four
  obtain ⟨g', eg, _, hcell⟩ := HR1.out i hi
  injection eg with eg
  injection eg with eg
  subst eg
  have hc := hcell i hi
  have HC := Lib.hid hcell
  clear hcell
  have hx1 := hx1b
  generalize hmm : ((R.drop i).takeWhile fun (r : Nat) => isWI (r : Int)).length = m
  have hm' : i + m ≤ R.length := by rw [← hmm]; exact hm
  have HM : Hid (wdR R i = m) := hmm
  clear hmm hm
  generalize hrr : R.getD i 0 = r at *
  have HRR := Lib.hid hrr
  clear hrr
  have b2 : (clsI (r : Int) == 2) = false := beq_eq_false_iff_ne.2 (by omega)
  have b3 : (clsI (r : Int) == 3) = false := beq_eq_false_iff_ne.2 (by omega)
  have b5 : (clsI (r : Int) == 5) = true := beq_iff_eq.2 h2
  clear h2
  obtain ⟨xk, str, xn, xa, xz, xe, hq⟩ : ∃ (k : Int) (str : ByteArray) (n a z e : Int), quoE s R P i = .returned (.tuple #[.agg #[.int .i64 k, .string str, .int .i64 n, .int .i64 a], .int .i64 z, .int .i64 e]) := by
    unfold quoE
    split
    · exact ⟨_, _, _, _, _, _, rfl⟩
    · exact ⟨_, _, _, _, _, _, rfl⟩
  have HF := Lib.hid hq
  clear hq
  go_wp2_with (go_at_call 70; refine (refClass_any _ _).mono ?_; rintro e w' ⟨rfl, rfl⟩)
  with_reducible refine (quoted_ref s (some ⟨g, 0, none⟩) A2 R P c1 c2 i w1 hss hR hi HR1.out HP1.out HPl.out).mono ?_
  rintro e w2 ⟨he, hb2⟩
  rw [HF.out] at he
  subst he
  have hx2 := hx1.below hb2 (Array.getElem?_eq_some_iff.1 hx1).1
  have hbf2 := hbf1.trans (hb2.mono hbf1.size)
  clear q0 q1 q2 q3 f0 f1 f2 f3
  obtain ⟨q0, q1, q2, q3, f0, f1, f2, f3⟩ := hx2.four
  go_wp2_with fail
  refine bodyPost_ret (v := .tuple #[.agg #[.int .i64 xk, .string str, .int .i64 xn, .int .i64 xa], .int .i64 xz, .int .i64 xe]) (by simp [results, Tryz.results44, go_sem, q0, q1, q2, q3]) rfl ⟨HF.out.symm, below_set4 hbf2 (by omega) _ _ _ _⟩

set_option maxRecDepth 100000 in
set_option maxHeartbeats 8000000 in
theorem token_0 (s : ByteArray) (A1 A2 : Option Addr) (R P : List Nat) (c1 c2 i : Nat) (w : World) (_hss : s.size ≤ 20000) (hR : R.length ≤ 20000) (hi : i < R.length) (hrd : Rd w A1 R) (hrp : Rd w A2 P) (hpl : Places s R P) (h2 : clsI ((R.getD i 0 : Nat) : Int) ≠ 2 ∧ clsI ((R.getD i 0 : Nat) : Int) ≠ 3 ∧ clsI ((R.getD i 0 : Nat) : Int) ≠ 5 ∧ clsI ((R.getD i 0 : Nat) : Int) ≠ 4) :
    Calls Tryz.prog 44 #[.agg #[.string s, .slice A1 R.length c1, .slice A2 P.length c2], .int .i64 i] w fun e w' => e = zE 11 ∧ Below w.heap.size w w' := by
  obtain ⟨g, rfl, hgl, hcell⟩ := hrd i hi
  have hbf : Below w.heap.size w ((w.alloc (.cells #[.string s, .slice (some ⟨g, 0, none⟩) R.length c1, .slice A2 P.length c2] 71)).alloc (.cells #[.int .i64 0, .string ⟨#[]⟩, .int .i64 0, .int .i64 0] 52)) := ((Below.refl _ w).alloc (Nat.le_refl _) _).alloc (by simp) _
  have hx0 : Box ((w.alloc (.cells #[.string s, .slice (some ⟨g, 0, none⟩) R.length c1, .slice A2 P.length c2] 71)).alloc (.cells #[.int .i64 0, .string ⟨#[]⟩, .int .i64 0, .int .i64 0] 52)) w.heap.size 71 #[.string s, .slice (some ⟨g, 0, none⟩) R.length c1, .slice A2 P.length c2] := (Box.new w _ _).alloc _
  have hx1 : Box ((w.alloc (.cells #[.string s, .slice (some ⟨g, 0, none⟩) R.length c1, .slice A2 P.length c2] 71)).alloc (.cells #[.int .i64 0, .string ⟨#[]⟩, .int .i64 0, .int .i64 0] 52)) (w.heap.size + 1) 52 #[.int .i64 0, .string ⟨#[]⟩, .int .i64 0, .int .i64 0] := by
    have := Box.new (w.alloc (.cells #[.string s, .slice (some ⟨g, 0, none⟩) R.length c1, .slice A2 P.length c2] 71)) 52 #[.int .i64 0, .string ⟨#[]⟩, .int .i64 0, .int .i64 0]
    simpa using this
  have HR0 := Lib.hid (hrd.below hbf)
  have HP0 := Lib.hid (hrp.below hbf)
  have HPl := Lib.hid hpl
  clear hrd hrp hcell hpl
  go_enter Tryz.func44, Tryz.ntmps44
  go_wp2_with fail
  generalize ((w.alloc (.cells #[.string s, .slice (some ⟨g, 0, none⟩) R.length c1, .slice A2 P.length c2] 71)).alloc (.cells #[.int .i64 0, .string ⟨#[]⟩, .int .i64 0, .int .i64 0] 52)) = W0 at *
  have hm := wdR_le R i (Nat.le_of_lt hi)
  with_reducible refine (word_ref s (some ⟨g, 0, none⟩) A2 R c1 P.length c2 i W0 hR (Nat.le_of_lt hi) HR0.out).mono ?_
  rintro e w1 ⟨rfl, hb1⟩
  have hx0b := hx0.below hb1 (Array.getElem?_eq_some_iff.1 hx0).1
  obtain ⟨p0, p1, p2, _, _, _⟩ := hx0b.three
  have hx1b := hx1.below hb1 (Array.getElem?_eq_some_iff.1 hx1).1
  have hbf1 := hbf.trans (hb1.mono hbf.size)
  have HR1 := Lib.hid (HR0.out.below hb1)
  have HP1 := Lib.hid (HP0.out.below hb1)
  clear HR0 HP0 hbf hb1 hx0 hx1
  obtain ⟨q0, q1, q2, q3, f0, f1, f2, f3⟩ := hx1b.four
  obtain ⟨g', eg, _, hcell⟩ := HR1.out i hi
  injection eg with eg
  injection eg with eg
  subst eg
  have hc := hcell i hi
  have HC := Lib.hid hcell
  clear hcell
  have hx1 := hx1b
  generalize hmm : ((R.drop i).takeWhile fun (r : Nat) => isWI (r : Int)).length = m
  have hm' : i + m ≤ R.length := by rw [← hmm]; exact hm
  have HM : Hid (wdR R i = m) := hmm
  clear hmm hm
  generalize hrr : R.getD i 0 = r at *
  have HRR := Lib.hid hrr
  clear hrr
  have b2 : (clsI (r : Int) == 2) = false := beq_eq_false_iff_ne.2 h2.1
  have b3 : (clsI (r : Int) == 3) = false := beq_eq_false_iff_ne.2 h2.2.1
  have b5 : (clsI (r : Int) == 5) = false := beq_eq_false_iff_ne.2 h2.2.2.1
  have b4 : (clsI (r : Int) == 4) = false := beq_eq_false_iff_ne.2 h2.2.2.2
  clear h2
  go_wp2_with (go_at_call 70; refine (refClass_any _ _).mono ?_; rintro e w' ⟨rfl, rfl⟩)
  refine bodyPost_ret (v := .tuple #[.agg #[.int .i64 0, .string ⟨#[]⟩, .int .i64 0, .int .i64 0], .int .i64 0, .int .i64 11]) (by simp [results, Tryz.results44, go_sem, q0, q1, q2, q3]) rfl ⟨rfl, below_set4 hbf1 (by omega) _ _ _ _⟩

set_option maxRecDepth 100000 in
set_option maxHeartbeats 8000000 in
theorem token_4a (s : ByteArray) (A1 A2 : Option Addr) (R P : List Nat) (c1 c2 i : Nat) (w : World) (hss : s.size ≤ 20000) (hR : R.length ≤ 20000) (hi : i < R.length) (hrd : Rd w A1 R) (hrp : Rd w A2 P) (hpl : Places s R P) (h2 : clsI ((R.getD i 0 : Nat) : Int) = 4) (hl : ¬ i + 1 < R.length) :
    Calls Tryz.prog 44 #[.agg #[.string s, .slice A1 R.length c1, .slice A2 P.length c2], .int .i64 i] w fun e w' => e = tE 4 (ext s P i (i + 1)) 0 i (i + 1) ∧ Below w.heap.size w w' := by
  obtain ⟨g, rfl, hgl, hcell⟩ := hrd i hi
  have hbf : Below w.heap.size w ((w.alloc (.cells #[.string s, .slice (some ⟨g, 0, none⟩) R.length c1, .slice A2 P.length c2] 71)).alloc (.cells #[.int .i64 0, .string ⟨#[]⟩, .int .i64 0, .int .i64 0] 52)) := ((Below.refl _ w).alloc (Nat.le_refl _) _).alloc (by simp) _
  have hx0 : Box ((w.alloc (.cells #[.string s, .slice (some ⟨g, 0, none⟩) R.length c1, .slice A2 P.length c2] 71)).alloc (.cells #[.int .i64 0, .string ⟨#[]⟩, .int .i64 0, .int .i64 0] 52)) w.heap.size 71 #[.string s, .slice (some ⟨g, 0, none⟩) R.length c1, .slice A2 P.length c2] := (Box.new w _ _).alloc _
  have hx1 : Box ((w.alloc (.cells #[.string s, .slice (some ⟨g, 0, none⟩) R.length c1, .slice A2 P.length c2] 71)).alloc (.cells #[.int .i64 0, .string ⟨#[]⟩, .int .i64 0, .int .i64 0] 52)) (w.heap.size + 1) 52 #[.int .i64 0, .string ⟨#[]⟩, .int .i64 0, .int .i64 0] := by
    have := Box.new (w.alloc (.cells #[.string s, .slice (some ⟨g, 0, none⟩) R.length c1, .slice A2 P.length c2] 71)) 52 #[.int .i64 0, .string ⟨#[]⟩, .int .i64 0, .int .i64 0]
    simpa using this
  have HR0 := Lib.hid (hrd.below hbf)
  have HP0 := Lib.hid (hrp.below hbf)
  have HPl := Lib.hid hpl
  clear hrd hrp hcell hpl
  go_enter Tryz.func44, Tryz.ntmps44
  go_wp2_with fail
  generalize ((w.alloc (.cells #[.string s, .slice (some ⟨g, 0, none⟩) R.length c1, .slice A2 P.length c2] 71)).alloc (.cells #[.int .i64 0, .string ⟨#[]⟩, .int .i64 0, .int .i64 0] 52)) = W0 at *
  have hm := wdR_le R i (Nat.le_of_lt hi)
  with_reducible refine (word_ref s (some ⟨g, 0, none⟩) A2 R c1 P.length c2 i W0 hR (Nat.le_of_lt hi) HR0.out).mono ?_
  rintro e w1 ⟨rfl, hb1⟩
  have hx0b := hx0.below hb1 (Array.getElem?_eq_some_iff.1 hx0).1
  obtain ⟨p0, p1, p2, _, _, _⟩ := hx0b.three
  have hx1b := hx1.below hb1 (Array.getElem?_eq_some_iff.1 hx1).1
  have hbf1 := hbf.trans (hb1.mono hbf.size)
  have HR1 := Lib.hid (HR0.out.below hb1)
  have HP1 := Lib.hid (HP0.out.below hb1)
  clear HR0 HP0 hbf hb1 hx0 hx1
  obtain ⟨q0, q1, q2, q3, f0, f1, f2, f3⟩ := hx1b.four
  obtain ⟨g', eg, _, hcell⟩ := HR1.out i hi
  injection eg with eg
  injection eg with eg
  subst eg
  have hc := hcell i hi
  have HC := Lib.hid hcell
  clear hcell
  have hx1 := hx1b
  generalize hmm : ((R.drop i).takeWhile fun (r : Nat) => isWI (r : Int)).length = m
  have hm' : i + m ≤ R.length := by rw [← hmm]; exact hm
  have HM : Hid (wdR R i = m) := hmm
  clear hmm hm
  generalize hrr : R.getD i 0 = r at *
  have HRR := Lib.hid hrr
  clear hrr
  have b2 : (clsI (r : Int) == 2) = false := beq_eq_false_iff_ne.2 (by omega)
  have b3 : (clsI (r : Int) == 3) = false := beq_eq_false_iff_ne.2 (by omega)
  have b5 : (clsI (r : Int) == 5) = false := beq_eq_false_iff_ne.2 (by omega)
  have b4 : (clsI (r : Int) == 4) = true := beq_iff_eq.2 h2
  clear h2
  have hk1 : i < P.length ∧ (i + 1) < P.length ∧ P.length ≤ 20001 := by have := HPl.out.len; omega
  have hm1 := HPl.out.mono i ((i + 1)) (by omega) (by omega)
  have hm2 := HPl.out.le ((i + 1)) (by omega)
  go_wp2_with (go_at_call 70; refine (refClass_any _ _).mono ?_; rintro e w' ⟨rfl, rfl⟩)
  with_reducible refine (part_at s (some ⟨g, 0, none⟩) A2 P R.length c1 c2 i (i + 1) (i : Int) ((i : Int) + 1) w1 rfl (by omega) hk1.1 hk1.2.1 hm1 hm2 hss hk1.2.2 HP1.out).mono ?_
  rintro e w2 ⟨rfl, hb2⟩
  have hx2 := hx1.below hb2 (Array.getElem?_eq_some_iff.1 hx1).1
  have hbf2 := hbf1.trans (hb2.mono hbf1.size)
  clear q0 q1 q2 q3 f0 f1 f2 f3
  obtain ⟨q0, q1, q2, q3, f0, f1, f2, f3⟩ := hx2.four
  have HS : Hid (ext s P i (i + 1) = s.extract (P.getD i 0) (P.getD (i + 1) 0)) := rfl
  generalize s.extract (P.getD i 0) (P.getD (i + 1) 0) = str at *
  go_wp2_with fail
  refine bodyPost_ret (v := .tuple #[.agg #[.int .i64 4, .string str, .int .i64 0, .int .i64 i], .int .i64 ((i : Int) + 1), .int .i64 0]) (by simp [results, Tryz.results44, go_sem, q0, q1, q2, q3]) rfl ⟨by rw [HS.out]; unfold tE; simp, below_set4 hbf2 (by omega) _ _ _ _⟩

set_option maxRecDepth 100000 in
set_option maxHeartbeats 8000000 in
theorem token_4b (s : ByteArray) (A1 A2 : Option Addr) (R P : List Nat) (c1 c2 i : Nat) (w : World) (hss : s.size ≤ 20000) (hR : R.length ≤ 20000) (hi : i < R.length) (hrd : Rd w A1 R) (hrp : Rd w A2 P) (hpl : Places s R P) (h2 : clsI ((R.getD i 0 : Nat) : Int) = 4) (hl : i + 1 < R.length) (h61 : R.getD (i + 1) 0 ≠ 61) :
    Calls Tryz.prog 44 #[.agg #[.string s, .slice A1 R.length c1, .slice A2 P.length c2], .int .i64 i] w fun e w' => e = tE 4 (ext s P i (i + 1)) 0 i (i + 1) ∧ Below w.heap.size w w' := by
  obtain ⟨g, rfl, hgl, hcell⟩ := hrd i hi
  have hbf : Below w.heap.size w ((w.alloc (.cells #[.string s, .slice (some ⟨g, 0, none⟩) R.length c1, .slice A2 P.length c2] 71)).alloc (.cells #[.int .i64 0, .string ⟨#[]⟩, .int .i64 0, .int .i64 0] 52)) := ((Below.refl _ w).alloc (Nat.le_refl _) _).alloc (by simp) _
  have hx0 : Box ((w.alloc (.cells #[.string s, .slice (some ⟨g, 0, none⟩) R.length c1, .slice A2 P.length c2] 71)).alloc (.cells #[.int .i64 0, .string ⟨#[]⟩, .int .i64 0, .int .i64 0] 52)) w.heap.size 71 #[.string s, .slice (some ⟨g, 0, none⟩) R.length c1, .slice A2 P.length c2] := (Box.new w _ _).alloc _
  have hx1 : Box ((w.alloc (.cells #[.string s, .slice (some ⟨g, 0, none⟩) R.length c1, .slice A2 P.length c2] 71)).alloc (.cells #[.int .i64 0, .string ⟨#[]⟩, .int .i64 0, .int .i64 0] 52)) (w.heap.size + 1) 52 #[.int .i64 0, .string ⟨#[]⟩, .int .i64 0, .int .i64 0] := by
    have := Box.new (w.alloc (.cells #[.string s, .slice (some ⟨g, 0, none⟩) R.length c1, .slice A2 P.length c2] 71)) 52 #[.int .i64 0, .string ⟨#[]⟩, .int .i64 0, .int .i64 0]
    simpa using this
  have HR0 := Lib.hid (hrd.below hbf)
  have HP0 := Lib.hid (hrp.below hbf)
  have HPl := Lib.hid hpl
  clear hrd hrp hcell hpl
  go_enter Tryz.func44, Tryz.ntmps44
  go_wp2_with fail
  generalize ((w.alloc (.cells #[.string s, .slice (some ⟨g, 0, none⟩) R.length c1, .slice A2 P.length c2] 71)).alloc (.cells #[.int .i64 0, .string ⟨#[]⟩, .int .i64 0, .int .i64 0] 52)) = W0 at *
  have hm := wdR_le R i (Nat.le_of_lt hi)
  with_reducible refine (word_ref s (some ⟨g, 0, none⟩) A2 R c1 P.length c2 i W0 hR (Nat.le_of_lt hi) HR0.out).mono ?_
  rintro e w1 ⟨rfl, hb1⟩
  have hx0b := hx0.below hb1 (Array.getElem?_eq_some_iff.1 hx0).1
  obtain ⟨p0, p1, p2, _, _, _⟩ := hx0b.three
  have hx1b := hx1.below hb1 (Array.getElem?_eq_some_iff.1 hx1).1
  have hbf1 := hbf.trans (hb1.mono hbf.size)
  have HR1 := Lib.hid (HR0.out.below hb1)
  have HP1 := Lib.hid (HP0.out.below hb1)
  clear HR0 HP0 hbf hb1 hx0 hx1
  obtain ⟨q0, q1, q2, q3, f0, f1, f2, f3⟩ := hx1b.four
  obtain ⟨g', eg, _, hcell⟩ := HR1.out i hi
  injection eg with eg
  injection eg with eg
  subst eg
  have hc := hcell i hi
  have HC := Lib.hid hcell
  clear hcell
  have hx1 := hx1b
  generalize hmm : ((R.drop i).takeWhile fun (r : Nat) => isWI (r : Int)).length = m
  have hm' : i + m ≤ R.length := by rw [← hmm]; exact hm
  have HM : Hid (wdR R i = m) := hmm
  clear hmm hm
  generalize hrr : R.getD i 0 = r at *
  have HRR := Lib.hid hrr
  clear hrr
  have b2 : (clsI (r : Int) == 2) = false := beq_eq_false_iff_ne.2 (by omega)
  have b3 : (clsI (r : Int) == 3) = false := beq_eq_false_iff_ne.2 (by omega)
  have b5 : (clsI (r : Int) == 5) = false := beq_eq_false_iff_ne.2 (by omega)
  have b4 : (clsI (r : Int) == 4) = true := beq_iff_eq.2 h2
  clear h2
  have hc2 := HC.out (i + 1) hl
  have b61 : (((R.getD (i + 1) 0 : Nat) : Int) == 61) = false := beq_eq_false_iff_ne.2 (by omega)
  clear h61
  generalize R.getD (i + 1) 0 = r1 at *
  have hk1 : i < P.length ∧ (i + 1) < P.length ∧ P.length ≤ 20001 := by have := HPl.out.len; omega
  have hm1 := HPl.out.mono i ((i + 1)) (by omega) (by omega)
  have hm2 := HPl.out.le ((i + 1)) (by omega)
  go_wp2_with (go_at_call 70; refine (refClass_any _ _).mono ?_; rintro e w' ⟨rfl, rfl⟩)
  with_reducible refine (part_at s (some ⟨g, 0, none⟩) A2 P R.length c1 c2 i (i + 1) (i : Int) ((i : Int) + 1) w1 rfl (by omega) hk1.1 hk1.2.1 hm1 hm2 hss hk1.2.2 HP1.out).mono ?_
  rintro e w2 ⟨rfl, hb2⟩
  have hx2 := hx1.below hb2 (Array.getElem?_eq_some_iff.1 hx1).1
  have hbf2 := hbf1.trans (hb2.mono hbf1.size)
  clear q0 q1 q2 q3 f0 f1 f2 f3
  obtain ⟨q0, q1, q2, q3, f0, f1, f2, f3⟩ := hx2.four
  have HS : Hid (ext s P i (i + 1) = s.extract (P.getD i 0) (P.getD (i + 1) 0)) := rfl
  generalize s.extract (P.getD i 0) (P.getD (i + 1) 0) = str at *
  go_wp2_with fail
  refine bodyPost_ret (v := .tuple #[.agg #[.int .i64 4, .string str, .int .i64 0, .int .i64 i], .int .i64 ((i : Int) + 1), .int .i64 0]) (by simp [results, Tryz.results44, go_sem, q0, q1, q2, q3]) rfl ⟨by rw [HS.out]; unfold tE; simp, below_set4 hbf2 (by omega) _ _ _ _⟩

set_option maxRecDepth 100000 in
set_option maxHeartbeats 8000000 in
theorem token_4c (s : ByteArray) (A1 A2 : Option Addr) (R P : List Nat) (c1 c2 i : Nat) (w : World) (hss : s.size ≤ 20000) (hR : R.length ≤ 20000) (hi : i < R.length) (hrd : Rd w A1 R) (hrp : Rd w A2 P) (hpl : Places s R P) (h2 : clsI ((R.getD i 0 : Nat) : Int) = 4) (hl : i + 1 < R.length) (h61 : R.getD (i + 1) 0 = 61) (ht : two5 (ext s P i (i + 2))) :
    Calls Tryz.prog 44 #[.agg #[.string s, .slice A1 R.length c1, .slice A2 P.length c2], .int .i64 i] w fun e w' => e = tE 4 (ext s P i (i + 2)) 0 i (i + 2) ∧ Below w.heap.size w w' := by
  obtain ⟨g, rfl, hgl, hcell⟩ := hrd i hi
  have hbf : Below w.heap.size w ((w.alloc (.cells #[.string s, .slice (some ⟨g, 0, none⟩) R.length c1, .slice A2 P.length c2] 71)).alloc (.cells #[.int .i64 0, .string ⟨#[]⟩, .int .i64 0, .int .i64 0] 52)) := ((Below.refl _ w).alloc (Nat.le_refl _) _).alloc (by simp) _
  have hx0 : Box ((w.alloc (.cells #[.string s, .slice (some ⟨g, 0, none⟩) R.length c1, .slice A2 P.length c2] 71)).alloc (.cells #[.int .i64 0, .string ⟨#[]⟩, .int .i64 0, .int .i64 0] 52)) w.heap.size 71 #[.string s, .slice (some ⟨g, 0, none⟩) R.length c1, .slice A2 P.length c2] := (Box.new w _ _).alloc _
  have hx1 : Box ((w.alloc (.cells #[.string s, .slice (some ⟨g, 0, none⟩) R.length c1, .slice A2 P.length c2] 71)).alloc (.cells #[.int .i64 0, .string ⟨#[]⟩, .int .i64 0, .int .i64 0] 52)) (w.heap.size + 1) 52 #[.int .i64 0, .string ⟨#[]⟩, .int .i64 0, .int .i64 0] := by
    have := Box.new (w.alloc (.cells #[.string s, .slice (some ⟨g, 0, none⟩) R.length c1, .slice A2 P.length c2] 71)) 52 #[.int .i64 0, .string ⟨#[]⟩, .int .i64 0, .int .i64 0]
    simpa using this
  have HR0 := Lib.hid (hrd.below hbf)
  have HP0 := Lib.hid (hrp.below hbf)
  have HPl := Lib.hid hpl
  clear hrd hrp hcell hpl
  go_enter Tryz.func44, Tryz.ntmps44
  go_wp2_with fail
  generalize ((w.alloc (.cells #[.string s, .slice (some ⟨g, 0, none⟩) R.length c1, .slice A2 P.length c2] 71)).alloc (.cells #[.int .i64 0, .string ⟨#[]⟩, .int .i64 0, .int .i64 0] 52)) = W0 at *
  have hm := wdR_le R i (Nat.le_of_lt hi)
  with_reducible refine (word_ref s (some ⟨g, 0, none⟩) A2 R c1 P.length c2 i W0 hR (Nat.le_of_lt hi) HR0.out).mono ?_
  rintro e w1 ⟨rfl, hb1⟩
  have hx0b := hx0.below hb1 (Array.getElem?_eq_some_iff.1 hx0).1
  obtain ⟨p0, p1, p2, _, _, _⟩ := hx0b.three
  have hx1b := hx1.below hb1 (Array.getElem?_eq_some_iff.1 hx1).1
  have hbf1 := hbf.trans (hb1.mono hbf.size)
  have HR1 := Lib.hid (HR0.out.below hb1)
  have HP1 := Lib.hid (HP0.out.below hb1)
  clear HR0 HP0 hbf hb1 hx0 hx1
  obtain ⟨q0, q1, q2, q3, f0, f1, f2, f3⟩ := hx1b.four
  obtain ⟨g', eg, _, hcell⟩ := HR1.out i hi
  injection eg with eg
  injection eg with eg
  subst eg
  have hc := hcell i hi
  have HC := Lib.hid hcell
  clear hcell
  have hx1 := hx1b
  generalize hmm : ((R.drop i).takeWhile fun (r : Nat) => isWI (r : Int)).length = m
  have hm' : i + m ≤ R.length := by rw [← hmm]; exact hm
  have HM : Hid (wdR R i = m) := hmm
  clear hmm hm
  generalize hrr : R.getD i 0 = r at *
  have HRR := Lib.hid hrr
  clear hrr
  have b2 : (clsI (r : Int) == 2) = false := beq_eq_false_iff_ne.2 (by omega)
  have b3 : (clsI (r : Int) == 3) = false := beq_eq_false_iff_ne.2 (by omega)
  have b5 : (clsI (r : Int) == 5) = false := beq_eq_false_iff_ne.2 (by omega)
  have b4 : (clsI (r : Int) == 4) = true := beq_iff_eq.2 h2
  clear h2
  have hc2 := HC.out (i + 1) hl
  have b61 : (((R.getD (i + 1) 0 : Nat) : Int) == 61) = true := by rw [h61]; rfl
  clear h61
  generalize R.getD (i + 1) 0 = r1 at *
  have hk1 : i < P.length ∧ (i + 2) < P.length ∧ P.length ≤ 20001 := by have := HPl.out.len; omega
  have hm1 := HPl.out.mono i ((i + 2)) (by omega) (by omega)
  have hm2 := HPl.out.le ((i + 2)) (by omega)
  go_wp2_with (go_at_call 70; refine (refClass_any _ _).mono ?_; rintro e w' ⟨rfl, rfl⟩)
  with_reducible refine (part_at s (some ⟨g, 0, none⟩) A2 P R.length c1 c2 i (i + 2) (i : Int) ((i : Int) + 2) w1 rfl (by omega) hk1.1 hk1.2.1 hm1 hm2 hss hk1.2.2 HP1.out).mono ?_
  rintro e w2 ⟨rfl, hb2⟩
  have hx2 := hx1.below hb2 (Array.getElem?_eq_some_iff.1 hx1).1
  have hbf2 := hbf1.trans (hb2.mono hbf1.size)
  clear q0 q1 q2 q3 f0 f1 f2 f3
  obtain ⟨q0, q1, q2, q3, f0, f1, f2, f3⟩ := hx2.four
  have HP2 := Lib.hid (HP1.out.below hb2)
  obtain ⟨p0', p1', p2', _, _, _⟩ := (hx0b.below hb2 (Array.getElem?_eq_some_iff.1 hx0b).1).three
  clear p0 p1 p2
  have HE : Hid (ext s P i (i + 2) = s.extract (P.getD i 0) (P.getD (i + 2) 0)) := rfl
  generalize s.extract (P.getD i 0) (P.getD (i + 2) 0) = str at *
  rw [HE.out] at ht
  rcases ht with ht | ht | ht | ht | ht
  all_goals
    go_wp2_with fail
    with_reducible refine (part_at s (some ⟨g, 0, none⟩) A2 P R.length c1 c2 i (i + 2) (i : Int) ((i : Int) + 1 + 1) w2 rfl (by omega) hk1.1 hk1.2.1 hm1 hm2 hss hk1.2.2 HP2.out).mono ?_
    rintro e w3 ⟨rfl, hb3⟩
    have hx3 := hx2.below hb3 (Array.getElem?_eq_some_iff.1 hx2).1
    have hbf3 := hbf2.trans (hb3.mono hbf2.size)
    clear q0 q1 q2 q3 f0 f1 f2 f3
    obtain ⟨q0, q1, q2, q3, f0, f1, f2, f3⟩ := hx3.four
    rw [show s.extract (P.getD i 0) (P.getD (i + 2) 0) = _ from HE.out]
    go_wp2_with fail
    refine bodyPost_ret (v := .tuple #[.agg #[.int .i64 4, .string str, .int .i64 0, .int .i64 i], .int .i64 ((i : Int) + 1 + 1), .int .i64 0]) (by simp [results, Tryz.results44, go_sem, q0, q1, q2, q3]) rfl ⟨by rw [HE.out]; unfold tE; simp; omega, below_set4 hbf3 (by omega) _ _ _ _⟩

set_option maxRecDepth 100000 in
set_option maxHeartbeats 8000000 in
theorem token_4d (s : ByteArray) (A1 A2 : Option Addr) (R P : List Nat) (c1 c2 i : Nat) (w : World) (hss : s.size ≤ 20000) (hR : R.length ≤ 20000) (hi : i < R.length) (hrd : Rd w A1 R) (hrp : Rd w A2 P) (hpl : Places s R P) (h2 : clsI ((R.getD i 0 : Nat) : Int) = 4) (hl : i + 1 < R.length) (h61 : R.getD (i + 1) 0 = 61) (ht : ¬ two5 (ext s P i (i + 2))) :
    Calls Tryz.prog 44 #[.agg #[.string s, .slice A1 R.length c1, .slice A2 P.length c2], .int .i64 i] w fun e w' => e = tE 4 (ext s P i (i + 1)) 0 i (i + 1) ∧ Below w.heap.size w w' := by
  obtain ⟨g, rfl, hgl, hcell⟩ := hrd i hi
  have hbf : Below w.heap.size w ((w.alloc (.cells #[.string s, .slice (some ⟨g, 0, none⟩) R.length c1, .slice A2 P.length c2] 71)).alloc (.cells #[.int .i64 0, .string ⟨#[]⟩, .int .i64 0, .int .i64 0] 52)) := ((Below.refl _ w).alloc (Nat.le_refl _) _).alloc (by simp) _
  have hx0 : Box ((w.alloc (.cells #[.string s, .slice (some ⟨g, 0, none⟩) R.length c1, .slice A2 P.length c2] 71)).alloc (.cells #[.int .i64 0, .string ⟨#[]⟩, .int .i64 0, .int .i64 0] 52)) w.heap.size 71 #[.string s, .slice (some ⟨g, 0, none⟩) R.length c1, .slice A2 P.length c2] := (Box.new w _ _).alloc _
  have hx1 : Box ((w.alloc (.cells #[.string s, .slice (some ⟨g, 0, none⟩) R.length c1, .slice A2 P.length c2] 71)).alloc (.cells #[.int .i64 0, .string ⟨#[]⟩, .int .i64 0, .int .i64 0] 52)) (w.heap.size + 1) 52 #[.int .i64 0, .string ⟨#[]⟩, .int .i64 0, .int .i64 0] := by
    have := Box.new (w.alloc (.cells #[.string s, .slice (some ⟨g, 0, none⟩) R.length c1, .slice A2 P.length c2] 71)) 52 #[.int .i64 0, .string ⟨#[]⟩, .int .i64 0, .int .i64 0]
    simpa using this
  have HR0 := Lib.hid (hrd.below hbf)
  have HP0 := Lib.hid (hrp.below hbf)
  have HPl := Lib.hid hpl
  clear hrd hrp hcell hpl
  go_enter Tryz.func44, Tryz.ntmps44
  go_wp2_with fail
  generalize ((w.alloc (.cells #[.string s, .slice (some ⟨g, 0, none⟩) R.length c1, .slice A2 P.length c2] 71)).alloc (.cells #[.int .i64 0, .string ⟨#[]⟩, .int .i64 0, .int .i64 0] 52)) = W0 at *
  have hm := wdR_le R i (Nat.le_of_lt hi)
  with_reducible refine (word_ref s (some ⟨g, 0, none⟩) A2 R c1 P.length c2 i W0 hR (Nat.le_of_lt hi) HR0.out).mono ?_
  rintro e w1 ⟨rfl, hb1⟩
  have hx0b := hx0.below hb1 (Array.getElem?_eq_some_iff.1 hx0).1
  obtain ⟨p0, p1, p2, _, _, _⟩ := hx0b.three
  have hx1b := hx1.below hb1 (Array.getElem?_eq_some_iff.1 hx1).1
  have hbf1 := hbf.trans (hb1.mono hbf.size)
  have HR1 := Lib.hid (HR0.out.below hb1)
  have HP1 := Lib.hid (HP0.out.below hb1)
  clear HR0 HP0 hbf hb1 hx0 hx1
  obtain ⟨q0, q1, q2, q3, f0, f1, f2, f3⟩ := hx1b.four
  obtain ⟨g', eg, _, hcell⟩ := HR1.out i hi
  injection eg with eg
  injection eg with eg
  subst eg
  have hc := hcell i hi
  have HC := Lib.hid hcell
  clear hcell
  have hx1 := hx1b
  generalize hmm : ((R.drop i).takeWhile fun (r : Nat) => isWI (r : Int)).length = m
  have hm' : i + m ≤ R.length := by rw [← hmm]; exact hm
  have HM : Hid (wdR R i = m) := hmm
  clear hmm hm
  generalize hrr : R.getD i 0 = r at *
  have HRR := Lib.hid hrr
  clear hrr
  have b2 : (clsI (r : Int) == 2) = false := beq_eq_false_iff_ne.2 (by omega)
  have b3 : (clsI (r : Int) == 3) = false := beq_eq_false_iff_ne.2 (by omega)
  have b5 : (clsI (r : Int) == 5) = false := beq_eq_false_iff_ne.2 (by omega)
  have b4 : (clsI (r : Int) == 4) = true := beq_iff_eq.2 h2
  clear h2
  have hc2 := HC.out (i + 1) hl
  have b61 : (((R.getD (i + 1) 0 : Nat) : Int) == 61) = true := by rw [h61]; rfl
  clear h61
  generalize R.getD (i + 1) 0 = r1 at *
  have hk1 : i < P.length ∧ (i + 2) < P.length ∧ P.length ≤ 20001 := by have := HPl.out.len; omega
  have hm1 := HPl.out.mono i ((i + 2)) (by omega) (by omega)
  have hm2 := HPl.out.le ((i + 2)) (by omega)
  go_wp2_with (go_at_call 70; refine (refClass_any _ _).mono ?_; rintro e w' ⟨rfl, rfl⟩)
  with_reducible refine (part_at s (some ⟨g, 0, none⟩) A2 P R.length c1 c2 i (i + 2) (i : Int) ((i : Int) + 2) w1 rfl (by omega) hk1.1 hk1.2.1 hm1 hm2 hss hk1.2.2 HP1.out).mono ?_
  rintro e w2 ⟨rfl, hb2⟩
  have hx2 := hx1.below hb2 (Array.getElem?_eq_some_iff.1 hx1).1
  have hbf2 := hbf1.trans (hb2.mono hbf1.size)
  clear q0 q1 q2 q3 f0 f1 f2 f3
  obtain ⟨q0, q1, q2, q3, f0, f1, f2, f3⟩ := hx2.four
  have HP2 := Lib.hid (HP1.out.below hb2)
  obtain ⟨p0', p1', p2', _, _, _⟩ := (hx0b.below hb2 (Array.getElem?_eq_some_iff.1 hx0b).1).three
  clear p0 p1 p2
  have HE : Hid (ext s P i (i + 2) = s.extract (P.getD i 0) (P.getD (i + 2) 0)) := rfl
  generalize s.extract (P.getD i 0) (P.getD (i + 2) 0) = str at *
  rw [HE.out] at ht
  have n1 : (str.toList == [60, 61]) = false := beq_eq_false_iff_ne.2 (fun h => ht (Or.inl h))
  have n2 : (str.toList == [62, 61]) = false := beq_eq_false_iff_ne.2 (fun h => ht (Or.inr (Or.inl h)))
  have n3 : (str.toList == [61, 61]) = false := beq_eq_false_iff_ne.2 (fun h => ht (Or.inr (Or.inr (Or.inl h))))
  have n4 : (str.toList == [33, 61]) = false := beq_eq_false_iff_ne.2 (fun h => ht (Or.inr (Or.inr (Or.inr (Or.inl h)))))
  have n5 : (str.toList == [58, 61]) = false := beq_eq_false_iff_ne.2 (fun h => ht (Or.inr (Or.inr (Or.inr (Or.inr h)))))
  clear ht hk1 hm1 hm2
  have hk1 : i < P.length ∧ (i + 1) < P.length ∧ P.length ≤ 20001 := by have := HPl.out.len; omega
  have hm1 := HPl.out.mono i ((i + 1)) (by omega) (by omega)
  have hm2 := HPl.out.le ((i + 1)) (by omega)
  go_wp2_with fail
  with_reducible refine (part_at s (some ⟨g, 0, none⟩) A2 P R.length c1 c2 i (i + 1) (i : Int) ((i : Int) + 1) w2 rfl (by omega) hk1.1 hk1.2.1 hm1 hm2 hss hk1.2.2 HP2.out).mono ?_
  rintro e w3 ⟨rfl, hb3⟩
  have hx3 := hx2.below hb3 (Array.getElem?_eq_some_iff.1 hx2).1
  have hbf3 := hbf2.trans (hb3.mono hbf2.size)
  clear q0 q1 q2 q3 f0 f1 f2 f3
  obtain ⟨q0, q1, q2, q3, f0, f1, f2, f3⟩ := hx3.four
  have HS : Hid (ext s P i (i + 1) = s.extract (P.getD i 0) (P.getD (i + 1) 0)) := rfl
  generalize s.extract (P.getD i 0) (P.getD (i + 1) 0) = str1 at *
  go_wp2_with fail
  refine bodyPost_ret (v := .tuple #[.agg #[.int .i64 4, .string str1, .int .i64 0, .int .i64 i], .int .i64 ((i : Int) + 1), .int .i64 0]) (by simp [results, Tryz.results44, go_sem, q0, q1, q2, q3]) rfl ⟨by rw [HS.out]; unfold tE; simp, below_set4 hbf3 (by omega) _ _ _ _⟩

end Go.Proofs.YtinocaggponpmaaGreatDoor.Lx

namespace Go.Proofs.YtinocaggponpmaaGreatDoor.Lx
open Go.RowKit

theorem runesGo_at : ∀ (cs : List Ch), Good cs → ∀ p, (runesGo cs p).2.1.length = cs.length + 1 ∧ ∀ k, k ≤ cs.length → (runesGo cs p).2.1.getD k 0 = p + (flat (cs.take k)).length
  | [], _, p => ⟨by simp [runesGo], fun k hk => by
      have : k = 0 := by simpa using hk
      subst this; simp [runesGo, flat]⟩
  | c :: cs, hg, p => by
    have hb : ¬ badC c = true := by rw [hg c (by simp)]; simp
    obtain ⟨h1, h2⟩ := runesGo_at cs (fun x hx => hg x (by simp [hx])) (p + c.2.length)
    unfold runesGo
    rw [if_neg hb]
    refine ⟨by simp [h1], fun k hk => ?_⟩
    cases k with
    | zero => simp [flat]
    | succ k =>
      have h3 := h2 k (by simpa using hk)
      have h4 : flat (c :: cs.take k) = c.2 ++ flat (cs.take k) := by simp [flat]
      simp only [List.getD_cons_succ, List.take_succ_cons]
      rw [h3, h4, List.length_append]; omega
theorem flat_take_drop (cs : List Ch) (i : Nat) : flat (cs.take i) ++ flat (cs.drop i) = flat cs := by rw [← flat_append, List.take_append_drop]
theorem flat_take_le (cs : List Ch) (i k : Nat) (hik : i ≤ k) : flat (cs.take k) = flat (cs.take i) ++ flat ((cs.drop i).take (k - i)) := by
  rw [← flat_append, ← List.take_add]
  rw [show i + (k - i) = k from by omega]
theorem places_runes (s : ByteArray) (cs : List Ch) (hg : Good cs) (hs : s.data.toList = flat cs) : Places s (cs.map (·.1)) (runesGo cs 0).2.1 where
  len := by rw [(runesGo_at cs hg 0).1]; simp
  mono := fun i k hik hk => by
    rw [List.length_map] at hk
    rw [(runesGo_at cs hg 0).2 i (by omega), (runesGo_at cs hg 0).2 k hk, flat_take_le cs i k hik, List.length_append]
    omega
  le := fun k hk => by
    rw [List.length_map] at hk
    rw [(runesGo_at cs hg 0).2 k hk]
    have h1 := congrArg List.length (flat_take_drop cs k)
    rw [List.length_append] at h1
    have h2 : s.size = (flat cs).length := by rw [← hs]; exact Array.length_toList.symm
    omega
theorem ext_flat (s : ByteArray) (cs : List Ch) (hg : Good cs) (hs : s.data.toList = flat cs) (i k : Nat) (hik : i ≤ k) (hk : k ≤ cs.length) : ext s (runesGo cs 0).2.1 i k = ⟨(flat ((cs.drop i).take (k - i))).toArray⟩ := by
  unfold ext
  rw [extract_mid, (runesGo_at cs hg 0).2 i (by omega), (runesGo_at cs hg 0).2 k hk, Nat.zero_add, Nat.zero_add, hs]
  have h1 : (flat cs).drop (flat (cs.take i)).length = flat (cs.drop i) := by
    have := flat_take_drop cs i
    rw [← this, List.drop_left]
  have h2 : flat (cs.drop i) = flat ((cs.drop i).take (k - i)) ++ flat ((cs.drop i).drop (k - i)) := by rw [← flat_append, List.take_append_drop]
  rw [h1, flat_take_le cs i k hik, List.length_append, Nat.add_sub_cancel_left]
  conv => lhs; rw [h2]
  rw [List.take_left]

def TkOK (c : Ch) (ds : List Ch) (i : Nat) (e : Ending) : Prop :=
  (∃ er, er ≠ 0 ∧ e = zE er ∧ (tokenT (clsI c.1) (flat (c :: ds))).2.2 = er) ∨
  (∃ t xs ys, ds = xs ++ ys ∧ e = tE t.kind ⟨t.text.toArray⟩ t.n i (i + 1 + xs.length) ∧ tokenT (clsI c.1) (flat (c :: ds)) = (t, (flat (c :: xs)).length, 0))

theorem take_tw (p : Ch → Bool) (D : List Ch) : D.take (D.takeWhile p).length = D.takeWhile p := (List.prefix_iff_eq_take.1 (List.takeWhile_prefix p)).symm
theorem tx_err : ∀ (cs : List Ch) (n i : Nat), (txR n (cs.map (·.1))).1 = (textGo n i cs).1
  | [], _, _ => rfl
  | c :: cs, n, i => by
    simp only [List.map_cons]
    unfold txR textGo
    split
    · split <;> rfl
    · split
      · rfl
      · exact tx_err cs (n + 1) (i + c.2.length)
theorem mem_of_tw {p : Ch → Bool} {D : List Ch} {x : Ch} (h : x ∈ D.takeWhile p) : p x = true := List.all_eq_true.1 (List.all_takeWhile (p := p) (l := D)) x h

/-- A word's token: its runes, and where it ends. -/
theorem word_of (s : ByteArray) (cs : List Ch) (hg : Good cs) (hs : s.data.toList = flat cs) (i : Nat) (hi : i < cs.length) (c : Ch) (ds : List Ch) (hd : cs.drop i = c :: ds) (hw : isW c = true) :
    wdR (cs.map (·.1)) i = (ds.takeWhile isW).length + 1 ∧ ext s (runesGo cs 0).2.1 i (i + wdR (cs.map (·.1)) i) = ⟨(flat (c :: ds.takeWhile isW)).toArray⟩ := by
  have h1 : wdR (cs.map (·.1)) i = ((c :: ds).takeWhile isW).length := by
    unfold wdR
    rw [← List.map_drop, hd, List.takeWhile_map, List.length_map]
    rfl
  have h2 := wdR_le (cs.map (·.1)) i (by rw [List.length_map]; omega)
  rw [List.length_map] at h2
  refine ⟨by rw [h1, List.takeWhile_cons_of_pos hw]; rfl, ?_⟩
  rw [ext_flat s cs hg hs i _ (by omega) h2, Nat.add_sub_cancel_left, hd, h1, take_tw, List.takeWhile_cons_of_pos hw]

theorem tk_name (c : Ch) (ds : List Ch) (i : Nat) (hcan : Can (c :: ds)) (h2 : clsI c.1 = 2) (X : Ending)
    (hX : X = if 12 < (ds.takeWhile isW).length + 1 then zE 2 else tE 1 ⟨(flat (c :: ds.takeWhile isW)).toArray⟩ 0 i (i + ((ds.takeWhile isW).length + 1))) : TkOK c ds i X := by
  have hl := (cls_two' c.1).1 h2
  have hw := isW_of_letter hl
  have hwl : wordL (flat (c :: ds)) = flat (c :: ds.takeWhile isW) := by rw [word_can hcan, List.takeWhile_cons_of_pos hw]
  have hfm : ∀ x ∈ c :: ds.takeWhile isW, Firm x := by
    intro x hx
    have hfm := firm_mem (flat (c :: ds))
    rw [hcan] at hfm
    rcases List.mem_cons.1 hx with rfl | hx
    · exact hfm x (by simp) (isW_not_bad hw)
    · exact hfm x (List.mem_cons_of_mem _ ((List.takeWhile_sublist isW).subset hx)) (isW_not_bad (mem_of_tw hx))
  have hn : nameB (flat (c :: ds.takeWhile isW)) = true ↔ (ds.takeWhile isW).length + 1 ≤ 12 := by
    unfold nameB
    rw [rn_firm' _ hfm, nameGo_iff _ 0 (by omega)]
    constructor
    · rintro ⟨h, _⟩; simpa using h
    · intro h
      refine ⟨by simpa using h, by simp, fun x hx => ?_, fun _ x hx => ?_⟩
      · rcases List.mem_cons.1 hx with rfl | hx
        · exact hw
        · exact mem_of_tw hx
      · simp at hx; rw [← hx]; exact hl
  by_cases h12 : 12 < (ds.takeWhile isW).length + 1
  · left
    rw [if_pos h12] at hX
    refine ⟨2, by decide, hX, ?_⟩
    unfold tokenT nameT
    rw [if_pos h2, hwl, if_neg (fun h => by have := hn.1 h; omega)]
  · right
    rw [if_neg h12] at hX
    refine ⟨⟨1, flat (c :: ds.takeWhile isW), 0, 0⟩, ds.takeWhile isW, ds.dropWhile isW, List.takeWhile_append_dropWhile.symm, ?_, ?_⟩
    · rw [hX, show i + ((ds.takeWhile isW).length + 1) = i + 1 + (ds.takeWhile isW).length from by omega]
    · unfold tokenT nameT
      rw [if_pos h2, hwl, if_pos (hn.2 (by omega))]

theorem tk_number (c : Ch) (ds : List Ch) (i : Nat) (hcan : Can (c :: ds)) (h3 : clsI c.1 = 3) (X : Ending)
    (hX : X = match numberL (flat (c :: ds.takeWhile isW)) with | none => zE 11 | some n => tE 2 ⟨(flat (c :: ds.takeWhile isW)).toArray⟩ n i (i + ((ds.takeWhile isW).length + 1))) : TkOK c ds i X := by
  have hd := (cls_three' c.1).1 h3
  have hw : isW c = true := by unfold isW; rw [hd]; simp
  have hwl : wordL (flat (c :: ds)) = flat (c :: ds.takeWhile isW) := by rw [word_can hcan, List.takeWhile_cons_of_pos hw]
  cases hn : numberL (flat (c :: ds.takeWhile isW)) with
  | none =>
    left
    rw [hn] at hX
    refine ⟨11, by decide, hX, ?_⟩
    unfold tokenT numberT
    rw [if_neg (by omega), if_pos h3, hwl, hn]
  | some n =>
    right
    rw [hn] at hX
    refine ⟨⟨2, flat (c :: ds.takeWhile isW), n, 0⟩, ds.takeWhile isW, ds.dropWhile isW, List.takeWhile_append_dropWhile.symm, ?_, ?_⟩
    · rw [hX, show i + ((ds.takeWhile isW).length + 1) = i + 1 + (ds.takeWhile isW).length from by omega]
    · unfold tokenT numberT
      rw [if_neg (by omega), if_pos h3, hwl, hn]

theorem tk_text (s : ByteArray) (cs : List Ch) (hg : Good cs) (hs : s.data.toList = flat cs) (c : Ch) (ds : List Ch) (i : Nat) (hi : i < cs.length) (hd : cs.drop i = c :: ds) (hcan : Can (c :: ds)) (c5 : clsI c.1 = 5) :
    TkOK c ds i (quoE s (cs.map (·.1)) (runesGo cs 0).2.1 i) := by
  have h34 : c.1 = 34 := by
    unfold clsI at c5
    repeat' split at c5
    all_goals first | omega | (cases c5)
  obtain ⟨b, hb, hb2⟩ := can_ascii hcan (by omega)
  have hb34 : b = 34 := by
    have : b.toNat = 34 := by rw [← h34, hb]
    exact UInt8.toNat_inj.1 this
  subst hb34
  have hc : c = (34, [34]) := hb
  have hdec := can_head hcan
  rw [hc] at hdec
  have hfd : (flat (c :: ds)).drop 1 = flat ds := by rw [hc]; rfl
  have hd2 : dec (flat (c :: ds)) = (34, 1) := by rw [hc]; exact hdec
  have htok : tokenT (clsI c.1) (flat (c :: ds)) = if (textGo 0 1 ds).1 = 0 then (⟨3, (flat ds).take ((textGo 0 1 ds).2 - 1), 0, 0⟩, (textGo 0 1 ds).2 + 1, 0) else (noTok, 0, (textGo 0 1 ds).1) := by
    unfold tokenT
    rw [if_neg (by omega), if_neg (by omega), if_pos c5]
    unfold textT
    rw [hd2]
    simp only [hfd, show rn (flat ds) = ds from can_tail hcan]
  have hdrop : cs.drop (i + 1) = ds := by rw [← List.drop_drop, hd]; rfl
  have hRd : (cs.map (·.1)).drop (i + 1) = ds.map (·.1) := by rw [← List.map_drop, hdrop]
  have herr := tx_err ds 0 1
  by_cases hz : (textGo 0 1 ds).1 = 0
  · obtain ⟨xs, q, ys, e1, e2, e3, e4, e5⟩ := textGo_split ds 0 1 hz
    have hcanq : Can (q :: ys) := by
      have := can_tail hcan
      rw [e1] at this
      exact can_drop this
    obtain ⟨bq, hbq, _⟩ := can_ascii hcanq (by omega)
    have hq34 : bq = 34 := by
      have : bq.toNat = 34 := by rw [← e2, hbq]
      exact UInt8.toNat_inj.1 this
    subst hq34
    have hq : q = (34, [34]) := hbq
    right
    have htx : txR 0 ((cs.map (·.1)).drop (i + 1)) = (0, xs.length) := by
      rw [hRd, e1, List.map_append, List.map_cons, e2, txR_ok _ _ 0 (fun r hr => by
        obtain ⟨x, hx, rfl⟩ := List.mem_map.1 hr
        exact e3 x hx), List.length_map, if_neg (by omega), Nat.zero_add]
    have hlen : i + 1 + xs.length ≤ cs.length := by
      have h := congrArg List.length hdrop
      rw [List.length_drop, e1] at h
      simp at h
      omega
    have hex : s.extract ((runesGo cs 0).2.1.getD (i + 1) 0) ((runesGo cs 0).2.1.getD (i + 1 + xs.length) 0) = ⟨(flat xs).toArray⟩ := by
      have := ext_flat s cs hg hs (i + 1) (i + 1 + xs.length) (by omega) hlen
      rw [Nat.add_sub_cancel_left, hdrop, e1, List.take_left] at this
      exact this
    refine ⟨⟨3, flat xs, 0, 0⟩, xs ++ [q], ys, by rw [e1]; simp, ?_, ?_⟩
    · rw [quoE_ok htx, hex]
      unfold tE
      rw [show i + 1 + (xs ++ [q]).length = i + 1 + xs.length + 1 from by simp; omega]
    · rw [htok, if_pos hz, e5, Nat.add_sub_cancel_left, e1, flat_append, List.take_left]
      have hfl : flat (c :: (xs ++ [q])) = 34 :: (flat xs ++ [34]) := by rw [hc, hq]; simp [flat]
      rw [hfl]
      simp
      omega
  · left
    refine ⟨(textGo 0 1 ds).1, hz, ?_, by rw [htok, if_neg hz]⟩
    unfold quoE
    rw [hRd, herr, if_neg hz]
    rfl

theorem sign_of (c : Ch) (ds : List Ch) (i : Nat) (hcan : Can (c :: ds)) (c4 : clsI c.1 = 4) (k : Nat) (hk : k = if two (flat (c :: ds)) = true then 2 else 1) (_hk2 : k ≤ ds.length + 1)
    (h2 : k = 2 → ∃ ys, ds = (61, [61]) :: ys) : TkOK c ds i (tE 4 ⟨(flat ((c :: ds).take k)).toArray⟩ 0 i (i + k)) := by
  have h128 : c.1 < 128 := by
    unfold clsI signI at c4
    simp only [decide_eq_true_eq] at c4
    repeat' split at c4
    all_goals omega
  obtain ⟨b, hc, hb⟩ := can_ascii hcan h128
  right
  have htok : tokenT (clsI c.1) (flat (c :: ds)) = (⟨4, (flat (c :: ds)).take k, 0, 0⟩, k, 0) := by
    unfold tokenT
    rw [if_neg (by omega), if_neg (by omega), if_neg (by omega), if_pos c4]
    unfold signT
    rw [hk]
  by_cases e2 : k = 2
  · obtain ⟨ys, hy⟩ := h2 e2
    refine ⟨⟨4, flat ((c :: ds).take k), 0, 0⟩, [(61, [61])], ys, hy, ?_, ?_⟩
    · rw [e2]; rfl
    · rw [htok, e2, hy, hc]
      simp [flat]
  · have e1 : k = 1 := by rw [hk] at e2 ⊢; split at e2 <;> simp_all
    refine ⟨⟨4, flat ((c :: ds).take k), 0, 0⟩, [], ds, rfl, ?_, ?_⟩
    · rw [e1]; rfl
    · rw [htok, e1, hc]
      simp [flat]
theorem two_first (b : UInt8) (d : Ch) (ys : List Ch) (hd : Can (d :: ys)) : two (b :: flat (d :: ys)) = true → d = (61, [61]) := by
  intro h
  have hone := can_one hd d (by simp)
  match hdm : d.2, hone with
  | x :: t, _ =>
    have hf : flat (d :: ys) = x :: (t ++ flat ys) := by show d.2 ++ flat ys = _; rw [hdm]; rfl
    rw [hf, two_cons] at h
    simp only [Bool.and_eq_true, beq_iff_eq] at h
    have hx := h.2
    subst hx
    have h61 : d.1 = 61 := by
      have := can_head hd
      rw [hf, dec_ascii 61 _ (by decide)] at this
      exact (congrArg Prod.fst this).symm
    obtain ⟨b', hb', _⟩ := can_ascii hd (by omega)
    have : b' = 61 := by
      have : b'.toNat = 61 := by rw [← h61, hb']
      exact UInt8.toNat_inj.1 this
    subst this
    exact hb'

theorem token_ref (s : ByteArray) (cs : List Ch) (hg : Good cs) (hcn : Can cs) (hs : s.data.toList = flat cs) (A1 A2 : Option Addr) (c1 c2 i : Nat) (w : World) (hss : s.size ≤ 20000) (hR : cs.length ≤ 20000) (hrd : Rd w A1 (cs.map (·.1))) (hrp : Rd w A2 (runesGo cs 0).2.1) (c : Ch) (ds : List Ch) (hd : cs.drop i = c :: ds) :
    Calls Tryz.prog 44 #[.agg #[.string s, .slice A1 (cs.map (·.1)).length c1, .slice A2 (runesGo cs 0).2.1.length c2], .int .i64 i] w fun e w' => TkOK c ds i e ∧ Below w.heap.size w w' := by
  have hi : i < cs.length := by
    have := congrArg List.length hd
    rw [List.length_drop] at this
    simp at this
    omega
  have hcan : Can (c :: ds) := by
    rw [← hd]
    have := hcn
    rw [← List.take_append_drop i cs] at this
    exact can_drop this
  have hpl := places_runes s cs hg hs
  have hiR : i < (cs.map (·.1)).length := by rw [List.length_map]; exact hi
  have hRR : (cs.map (·.1)).length ≤ 20000 := by rw [List.length_map]; exact hR
  have hdrop : cs.drop (i + 1) = ds := by rw [← List.drop_drop, hd]; rfl
  have hdl : cs.length = i + 1 + ds.length := by
    have := congrArg List.length hd
    rw [List.length_drop] at this
    simp at this
    omega
  have hr : (cs.map (·.1)).getD i 0 = c.1 := by
    have h := drop_at (cs.map (·.1)) i hiR
    rw [← List.map_drop, hd] at h
    injection h with h _
    exact h.symm
  by_cases k2 : clsI c.1 = 2
  · have hw : isW c = true := isW_of_letter ((cls_two' c.1).1 k2)
    obtain ⟨hwd, hex⟩ := word_of s cs hg hs i hi c ds hd hw
    refine (token_2 s A1 A2 _ _ c1 c2 i w hss hRR hiR hrd hrp hpl (by rw [hr]; exact k2) _ rfl).mono ?_
    rintro e w' ⟨rfl, hb⟩
    refine ⟨tk_name c ds i hcan k2 _ ?_, hb⟩
    rw [hex, hwd]
  by_cases k3 : clsI c.1 = 3
  · have hw : isW c = true := by unfold isW; rw [(cls_three' c.1).1 k3]; simp
    obtain ⟨hwd, hex⟩ := word_of s cs hg hs i hi c ds hd hw
    refine (token_3 s A1 A2 _ _ c1 c2 i w hss hRR hiR hrd hrp hpl (by rw [hr]; exact k3) _ rfl).mono ?_
    rintro e w' ⟨rfl, hb⟩
    refine ⟨tk_number c ds i hcan k3 _ ?_, hb⟩
    rw [hex, hwd]
  by_cases k5 : clsI c.1 = 5
  · refine (token_5 s A1 A2 _ _ c1 c2 i w hss hRR hiR hrd hrp hpl (by rw [hr]; exact k5)).mono ?_
    rintro e w' ⟨rfl, hb⟩
    exact ⟨tk_text s cs hg hs c ds i hi hd hcan k5, hb⟩
  by_cases k4 : clsI c.1 = 4
  · have h128 : c.1 < 128 := by
      unfold clsI signI at k4
      simp only [decide_eq_true_eq] at k4
      repeat' split at k4
      all_goals omega
    obtain ⟨b, hc, hb⟩ := can_ascii hcan h128
    have hfl : flat (c :: ds) = b :: flat ds := by rw [hc]; rfl
    have hone : ext s (runesGo cs 0).2.1 i (i + 1) = ⟨(flat ((c :: ds).take 1)).toArray⟩ := by
      rw [ext_flat s cs hg hs i (i + 1) (by omega) (by omega), Nat.add_sub_cancel_left, hd]
    cases ds with
    | nil =>
      refine (token_4a s A1 A2 _ _ c1 c2 i w hss hRR hiR hrd hrp hpl (by rw [hr]; exact k4) (by rw [List.length_map]; simp at hdl; omega)).mono ?_
      rintro e w' ⟨rfl, hb⟩
      rw [hone]
      exact ⟨sign_of c [] i hcan k4 1 (by rw [hfl]; rfl) (by simp) (fun h => by cases h), hb⟩
    | cons d ys =>
      have hl1 : i + 1 < (cs.map (·.1)).length := by rw [List.length_map, hdl]; simp
      have hr1 : (cs.map (·.1)).getD (i + 1) 0 = d.1 := by
        have h := drop_at (cs.map (·.1)) (i + 1) hl1
        rw [← List.map_drop, hdrop] at h
        injection h with h _
        exact h.symm
      by_cases k61 : d.1 = 61
      · obtain ⟨b', hb', _⟩ := can_ascii (can_tail hcan) (by omega)
        have h61 : b' = 61 := by
          have : b'.toNat = 61 := by rw [← k61, hb']
          exact UInt8.toNat_inj.1 this
        subst h61
        have hd61 : d = (61, [61]) := hb'
        have htwo : ext s (runesGo cs 0).2.1 i (i + 2) = ⟨(flat ((c :: d :: ys).take 2)).toArray⟩ := by
          rw [ext_flat s cs hg hs i (i + 2) (by omega) (by rw [hdl]; simp; omega), Nat.add_sub_cancel_left, hd]
        have hlist : (ext s (runesGo cs 0).2.1 i (i + 2)).toList = [b, 61] := by
          rw [htwo, ByteArray.toList_eq, hc, hd61]; simp [flat]
        have hfl2 : flat (c :: d :: ys) = b :: 61 :: flat ys := by rw [hc, hd61]; rfl
        have hiff : two5 (ext s (runesGo cs 0).2.1 i (i + 2)) ↔ two (flat (c :: d :: ys)) = true := by
          unfold two5
          rw [hlist, hfl2, two_cons]
          simp [or_assoc]
        by_cases ht : two (flat (c :: d :: ys)) = true
        · refine (token_4c s A1 A2 _ _ c1 c2 i w hss hRR hiR hrd hrp hpl (by rw [hr]; exact k4) hl1 (by rw [hr1]; exact k61) (hiff.2 ht)).mono ?_
          rintro e w' ⟨rfl, hb⟩
          rw [htwo]
          exact ⟨sign_of c (d :: ys) i hcan k4 2 (by rw [if_pos ht]) (by simp) (fun _ => ⟨ys, by rw [hd61]⟩), hb⟩
        · refine (token_4d s A1 A2 _ _ c1 c2 i w hss hRR hiR hrd hrp hpl (by rw [hr]; exact k4) hl1 (by rw [hr1]; exact k61) (fun h => ht (hiff.1 h))).mono ?_
          rintro e w' ⟨rfl, hb⟩
          rw [hone]
          exact ⟨sign_of c (d :: ys) i hcan k4 1 (by rw [if_neg ht]) (by simp) (fun h => by cases h), hb⟩
      · have ht : ¬ two (flat (c :: d :: ys)) = true := by
          rw [hfl]
          intro h
          exact k61 (by rw [two_first b d ys (can_tail hcan) h])
        refine (token_4b s A1 A2 _ _ c1 c2 i w hss hRR hiR hrd hrp hpl (by rw [hr]; exact k4) hl1 (by rw [hr1]; exact k61)).mono ?_
        rintro e w' ⟨rfl, hb⟩
        rw [hone]
        exact ⟨sign_of c (d :: ys) i hcan k4 1 (by rw [if_neg ht]) (by simp) (fun h => by cases h), hb⟩
  refine (token_0 s A1 A2 _ _ c1 c2 i w hss hRR hiR hrd hrp hpl (by rw [hr]; exact ⟨k2, k3, k5, k4⟩)).mono ?_
  rintro e w' ⟨rfl, hb⟩
  refine ⟨Or.inl ⟨11, by decide, rfl, ?_⟩, hb⟩
  unfold tokenT
  rw [if_neg k2, if_neg k3, if_neg k5, if_neg k4]

theorem past_T : ∀ (cs : List Ch), Can cs → ∀ (a : Nat) (acc : List Tok),
    T cs a acc = T (cs.drop (pastR false (cs.map (·.1)))) (a + pastR false (cs.map (·.1))) acc ∧
    T (cs.dropWhile fun c => c.1 != 10) (a + (cs.takeWhile fun c => c.1 != 10).length) acc = T (cs.drop (pastR true (cs.map (·.1)))) (a + pastR true (cs.map (·.1))) acc
  | [], _, a, acc => ⟨rfl, rfl⟩
  | c :: cs, hcan, a, acc => by
    obtain ⟨h1, h2⟩ := past_T cs (can_tail hcan) (a + 1) acc
    have h1' : T (c :: cs) a acc = T ((c :: cs).drop (pastR false ((c :: cs).map (·.1)))) (a + pastR false ((c :: cs).map (·.1))) acc := by
      simp only [List.map_cons]
      unfold pastR
      by_cases k6 : clsI c.1 = 6
      · have h10 : ¬ c.1 = 10 := by intro e; rw [e] at k6; revert k6; decide
        rw [if_pos k6, T_hash c cs a acc hcan k6]
        rw [List.dropWhile_cons_of_pos (by simpa using h10), List.takeWhile_cons_of_pos (by simpa using h10), List.length_cons, Nat.add_comm 1, List.drop_succ_cons]
        rw [show a + ((cs.takeWhile fun c => c.1 != 10).length + 1) = a + 1 + (cs.takeWhile fun c => c.1 != 10).length from by omega, h2]
        rw [show a + 1 + pastR true (cs.map (·.1)) = a + (pastR true (cs.map (·.1)) + 1) from by omega]
      · rw [if_neg k6]
        by_cases k1 : clsI c.1 = 1
        · rw [if_pos k1, T_blank c cs a acc k1, h1, Nat.add_comm 1, List.drop_succ_cons, show a + 1 + pastR false (cs.map (·.1)) = a + (pastR false (cs.map (·.1)) + 1) from by omega]
        · rw [if_neg k1]; rfl
    refine ⟨h1', ?_⟩
    by_cases h10 : c.1 = 10
    · rw [List.dropWhile_cons_of_neg (by simp [h10]), List.takeWhile_cons_of_neg (by simp [h10])]
      have : pastR true ((c :: cs).map (·.1)) = pastR false ((c :: cs).map (·.1)) := by
        simp only [List.map_cons]
        unfold pastR
        rw [if_pos h10, h10, if_neg (by decide), if_pos (by decide)]
      rw [this, ← h1']
      rfl
    · rw [List.dropWhile_cons_of_pos (by simpa using h10), List.takeWhile_cons_of_pos (by simpa using h10), List.length_cons]
      simp only [List.map_cons]
      conv => rhs; unfold pastR
      rw [if_neg h10, Nat.add_comm 1, List.drop_succ_cons, show a + ((cs.takeWhile fun c => c.1 != 10).length + 1) = a + 1 + (cs.takeWhile fun c => c.1 != 10).length from by omega, h2]
      rw [show a + 1 + pastR true (cs.map (·.1)) = a + (pastR true (cs.map (·.1)) + 1) from by omega]
theorem past_head : ∀ (b : Bool) (cs : List Ch) (c : Ch) (ds : List Ch), cs.drop (pastR b (cs.map (·.1))) = c :: ds → clsI c.1 ≠ 1 ∧ clsI c.1 ≠ 6
  | _, [], c, ds, h => by simp [pastR] at h
  | true, x :: cs, c, ds, h => by
    simp only [List.map_cons] at h
    unfold pastR at h
    by_cases h10 : x.1 = 10
    · rw [if_pos h10, Nat.add_comm 1, List.drop_succ_cons] at h; exact past_head false cs c ds h
    · rw [if_neg h10, Nat.add_comm 1, List.drop_succ_cons] at h; exact past_head true cs c ds h
  | false, x :: cs, c, ds, h => by
    simp only [List.map_cons] at h
    unfold pastR at h
    by_cases k6 : clsI (x.1 : Int) = 6
    · rw [if_pos k6, Nat.add_comm 1, List.drop_succ_cons] at h; exact past_head true cs c ds h
    · rw [if_neg k6] at h
      by_cases k1 : clsI (x.1 : Int) = 1
      · rw [if_pos k1, Nat.add_comm 1, List.drop_succ_cons] at h; exact past_head false cs c ds h
      · rw [if_neg k1] at h
        injection h with h _
        rw [← h]
        exact ⟨k1, k6⟩
end Go.Proofs.YtinocaggponpmaaGreatDoor.Lx

namespace Go.Proofs.YtinocaggponpmaaGreatDoor.Lx
open Go.RowKit

theorem runesGo_bad : ∀ (cs : List Ch) (p k : Nat), (runesGo cs p).2.2 = false → badAt k cs = some (k + (runesGo cs p).1.length)
  | [], _, _, h => by simp [runesGo] at h
  | c :: cs, p, k, h => by
    unfold runesGo at h ⊢
    unfold badAt
    by_cases hb : badC c = true
    · rw [if_pos hb, if_pos hb]; simp
    · rw [if_neg hb] at h ⊢
      rw [if_neg hb, runesGo_bad cs _ (k + 1) h]
      simp; omega
theorem cut_T (l : List UInt8) (hl : l.length ≤ 8192) (hg : Good (rn l)) : cutL l = T (rn l) 0 [] := by
  unfold cutL; rw [if_neg (by omega), (badAt_none _ _).2 hg]; rfl
theorem past_cs (s : ByteArray) (A1 A2 : Option Addr) (cs : List Ch) (c1 n2 c2 i : Nat) (a : Int) (w : World) (ha : a = (i : Int)) (hR : cs.length ≤ 20000) (hi : i ≤ cs.length) (hrd : Rd w A1 (cs.map (·.1))) :
    Calls Tryz.prog 43 #[.agg #[.string s, .slice A1 cs.length c1, .slice A2 n2 c2], .int .i64 a] w fun e w' => e = .returned (.int .i64 ((i + pastR false ((cs.drop i).map (·.1)) : Nat) : Int)) ∧ Below w.heap.size w w' := by
  subst ha
  have := past_ref s A1 A2 (cs.map (·.1)) c1 n2 c2 i w (by rw [List.length_map]; exact hR) (by rw [List.length_map]; exact hi) hrd
  rw [List.length_map, ← List.map_drop] at this
  exact this
theorem token_cs (s : ByteArray) (cs : List Ch) (hg : Good cs) (hcn : Can cs) (hs : s.data.toList = flat cs) (A1 A2 : Option Addr) (c1 c2 i : Nat) (w : World) (hss : s.size ≤ 20000) (hR : cs.length ≤ 20000) (hrd : Rd w A1 (cs.map (·.1))) (hrp : Rd w A2 (runesGo cs 0).2.1) (c : Ch) (ds : List Ch) (hd : cs.drop i = c :: ds) :
    Calls Tryz.prog 44 #[.agg #[.string s, .slice A1 cs.length c1, .slice A2 (cs.length + 1) c2], .int .i64 i] w fun e w' => TkOK c ds i e ∧ Below w.heap.size w w' := by
  have := token_ref s cs hg hcn hs A1 A2 c1 c2 i w hss hR hrd hrp c ds hd
  rw [List.length_map, (runesGo_at cs hg 0).1] at this
  exact this

def CutRel (X : List Tok × Int × Int) (cs : List Ch) (W1 : World) (v i : Value) (wr : World) : Prop :=
  ∃ (k : Nat) (acc : List Tok) (A : Option Addr) (cap : Nat), k ≤ cs.length ∧ i = .int .i64 k ∧ v = .slice A acc.length cap ∧
    wr.ownsRow W1.heap.size 52 4 v acc.length (toksC acc) ∧ Below W1.heap.size W1 wr ∧ acc.length ≤ 2000 ∧
    (∀ c ds, cs.drop k = c :: ds → clsI c.1 ≠ 1 ∧ clsI c.1 ≠ 6) ∧ T (cs.drop k) k acc = X
theorem past_step (cs : List Ch) (hcn : Can cs) (k : Nat) (acc : List Tok) (hk : k ≤ cs.length) :
    k + pastR false ((cs.drop k).map (·.1)) ≤ cs.length ∧ (∀ c ds, cs.drop (k + pastR false ((cs.drop k).map (·.1))) = c :: ds → clsI c.1 ≠ 1 ∧ clsI c.1 ≠ 6) ∧
    T (cs.drop (k + pastR false ((cs.drop k).map (·.1)))) (k + pastR false ((cs.drop k).map (·.1))) acc = T (cs.drop k) k acc := by
  have hc : Can (cs.drop k) := by
    have := hcn
    rw [← List.take_append_drop k cs] at this
    exact can_drop this
  have h1 := pastR_le false ((cs.drop k).map (·.1))
  rw [List.length_map, List.length_drop] at h1
  refine ⟨by omega, fun c ds h => ?_, ?_⟩
  · rw [← List.drop_drop] at h
    exact past_head false _ c ds h
  · rw [← List.drop_drop]
    exact ((past_T _ hc k acc).1).symm

set_option maxRecDepth 100000 in
set_option maxHeartbeats 8000000 in
theorem refCut_any (s : ByteArray) (w : World) (hs : s.size ≤ 20000) :
    Calls Tryz.prog 24 #[.string s] w (TokPost (cutL s.data.toList) w) := by
  have hll : s.data.toList.length = s.size := Array.length_toList
  by_cases hbig : 8192 < s.size
  · have HX : Hid (cutL s.data.toList = ([], 2, 0)) := cutL_long _ (by rw [hll]; exact hbig)
    clear hll
    go_enter Tryz.func24, Tryz.ntmps24
    go_wp2_with fail
    go_ret3
    exact ⟨.slice none 0 0, by rw [HX.out]; rfl, by rw [HX.out]; exact World.ownsRow_nil _ _ _ _, Below.refl _ _⟩
  · have hsm : s.size ≤ 8192 := by omega
    have HSh := Lib.hid (cutL_short s.data.toList (by rw [hll]; exact hbig))
    have HLL := Lib.hid hll
    clear hbig hll
    go_enter Tryz.func24, Tryz.ntmps24
    go_wp2_with fail
    refine (Runes_any s w hs).mono ?_
    rintro e w1 ⟨A1, n1, k1, A2, n2, k2, rfl, ho1, ho2, hb1⟩
    obtain ⟨hn1, hcp1, hrow1⟩ := own_ints ho1
    obtain ⟨hn2, hcp2, hrow2⟩ := own_ints ho2
    have hrd1 : Rd w1 A1 (runesGo (rn s.data.toList) 0).1 := hrow1
    have hrd2 : Rd w1 A2 (runesGo (rn s.data.toList) 0).2.1 := hrow2
    have hle := runes_le s.data.toList
    rw [HLL.out] at hle
    clear hrow1 hrow2 ho1 ho2
    cases hok : (runesGo (rn s.data.toList) 0).2.2 with
    | false =>
      have HX : Hid (cutL s.data.toList = ([], 10, ((runesGo (rn s.data.toList) 0).1.length : Int))) := by
        unfold Hid; rw [HSh.out, runesGo_bad _ _ 0 hok]; simp
      clear hok hn2 hrd1 hrd2 hcp2 hcp1
      generalize (runesGo (rn s.data.toList) 0).1.length = n at *
      subst hn1
      have hbf : Below w.heap.size w (w1.alloc (.cells #[.string s, .slice A1 n1 k1, .slice A2 n2 k2] 71)) := hb1.alloc hb1.size _
      go_wp2_with fail
      go_quiet (fail)
      go_wp2_with fail
      go_ret3
      exact ⟨.slice none 0 0, by rw [HX.out]; rfl, by rw [HX.out]; exact World.ownsRow_nil _ _ _ _, below_drewN hbf _⟩
    | true =>
      obtain ⟨hR, hgd⟩ := runesGo_true _ _ hok
      have HGd : Hid (Good (rn s.data.toList)) := hgd
      rw [hR] at hn1 hrd1 hle
      rw [List.length_map] at hn1 hle
      rw [(runesGo_at _ hgd 0).1] at hn2
      have HX : Hid (T (rn s.data.toList) 0 [] = cutL s.data.toList) := (cut_T _ (by rw [HLL.out]; exact hsm) hgd).symm
      have HF : Hid (s.data.toList = flat (rn s.data.toList)) := (flat_rn _).symm
      have HCn : Hid (Can (rn s.data.toList)) := can_rn _
      clear hok hR hgd hcp1 hcp2 HSh HLL
      subst hn1
      subst hn2
      generalize rn s.data.toList = cs at *
      generalize hcx : cutL s.data.toList = X at *
      clear hcx
      have hb0 : Below w.heap.size w (w1.alloc (.cells #[.string s, .slice A1 cs.length k1, .slice A2 (cs.length + 1) k2] 71)) := hb1.alloc hb1.size _
      have hbx := Box.new w1 71 #[.string s, .slice A1 cs.length k1, .slice A2 (cs.length + 1) k2]
      have HR := Lib.hid (hrd1.alloc (.cells #[.string s, .slice A1 cs.length k1, .slice A2 (cs.length + 1) k2] 71))
      have HP := Lib.hid (hrd2.alloc (.cells #[.string s, .slice A1 cs.length k1, .slice A2 (cs.length + 1) k2] 71))
      have hsz : w.heap.size ≤ w1.heap.size := hb1.size
      have hszW : (w1.alloc (.cells #[.string s, .slice A1 cs.length k1, .slice A2 (cs.length + 1) k2] 71)).heap.size > w1.heap.size := by simp
      clear hrd1 hrd2 hb1
      have HSt := Lib.hid (past_step cs HCn.out)
      obtain ⟨inf, hinf, hz0, hz1, hz2⟩ := info_parts info_tok
      go_wp2_with fail
      generalize w1.alloc (.cells #[.string s, .slice A1 cs.length k1, .slice A2 (cs.length + 1) k2] 71) = W1 at *
      obtain ⟨st1, st2, st3⟩ := HSt.out 0 [] (by omega)
      with_reducible refine (past_cs s A1 A2 cs k1 (cs.length + 1) k2 0 0 W1 rfl (by omega) (by omega) HR.out).mono ?_
      rintro e w2 ⟨rfl, hb2⟩
      have HT0 : Hid (T (cs.drop (0 + pastR false ((cs.drop 0).map (·.1)))) (0 + pastR false ((cs.drop 0).map (·.1))) [] = X) := by
        unfold Hid; rw [st3, List.drop_zero]; exact HX.out
      have HH0 := Lib.hid st2
      clear st2 st3
      generalize 0 + pastR false ((cs.drop 0).map (·.1)) = i0 at *
      go_wp2_with fail
      go_loopw [7, 8] (CutRel X cs W1) (fun _ i _ => cs.length - (intOf i).toNat)
      case atStart => exact ⟨i0, [], none, 0, st1, rfl, rfl, World.ownsRow_nil _ _ _ _, hb2, by simp, HH0.out, HT0.out⟩
      case round =>
        obtain ⟨k, acc, A, cap, hk, rfl, rfl, hown, hbr, hacc, hhd, hT⟩ := hrel
        have HT := Lib.hid hT
        have HH := Lib.hid hhd
        clear hT hhd
        obtain ⟨p0, p1, p2, _, _, _⟩ := (hbx.below hbr (by omega)).three
        have hszr : W1.heap.size ≤ wr.heap.size := hbr.size
        by_cases hlt : k < cs.length
        · obtain ⟨c, ds, hd⟩ : ∃ c ds, cs.drop k = c :: ds := ⟨_, _, List.drop_eq_getElem_cons hlt⟩
          obtain ⟨k1', k6'⟩ := HH.out c ds hd
          have HD := Lib.hid hd
          by_cases h2000 : acc.length = 2000
          · have HR2 : Hid (X = ([], 2, (k : Int))) := by unfold Hid; rw [← HT.out, hd, T_tok c ds k acc k1' k6', if_pos h2000]
            have b2 : ((acc.length : Int) == 2000) = true := by rw [h2000]; rfl
            clear h2000 hd k1' k6'
            generalize acc.length = na at *
            go_wp2_with fail
            go_ret3
            exact ⟨.slice none 0 0, by rw [HR2.out]; rfl, by rw [HR2.out]; exact World.ownsRow_nil _ _ _ _, hb0.trans (hbr.mono hb0.size)⟩
          · have b2 : ((acc.length : Int) == 2000) = false := beq_eq_false_iff_ne.2 (by omega)
            have hacc' : acc.length ≤ 1999 := by omega
            have H2000 := Lib.hid h2000
            clear hd h2000
            go_wp2_with fail
            with_reducible refine (token_cs s cs HGd.out HCn.out HF.out A1 A2 k1 k2 k wr hs (by omega) (HR.out.below hbr) (HP.out.below hbr) c ds HD.out).mono ?_
            rintro e w3 ⟨hte, hb3⟩
            have hbr3 := hbr.trans (hb3.mono hbr.size)
            have hown3 := ownsRow_below hown hb3
            have hsz3 : W1.heap.size ≤ w3.heap.size := hbr3.size
            clear hb3 hown
            rcases hte with ⟨er, hne, rfl, her⟩ | ⟨t, xs, ys, hds, rfl, htk⟩
            · have HR2 : Hid (X = ([], er, (k : Int))) := by
                unfold Hid; rw [← HT.out, HD.out, T_err c ds k acc k1' k6' (by rw [her]; exact hne), if_neg H2000.out, her]
              have be : (er != 0) = true := bne_iff_ne.2 hne
              clear hne her k1' k6'
              unfold zE
              go_wp2_with fail
              go_ret3
              exact ⟨.slice none 0 0, by rw [HR2.out]; rfl, by rw [HR2.out]; exact World.ownsRow_nil _ _ _ _, (hb0.trans (hbr3.mono hb0.size)).alloc (by omega) _⟩
            · have hkx : k + 1 + xs.length ≤ cs.length := by
                have h := congrArg List.length HD.out
                rw [List.length_drop, hds] at h
                simp at h
                omega
              have hT2 : T (cs.drop (k + 1 + xs.length)) (k + 1 + xs.length) (acc ++ [⟨t.kind, t.text, t.n, (k : Int)⟩]) = X := by
                rw [← HT.out, HD.out, T_ok c ds xs ys k acc (by
                  rw [← HD.out]
                  have := HCn.out
                  rw [← List.take_append_drop k cs] at this
                  exact can_drop this) k1' k6' hds (by rw [htk]) (by rw [htk]), if_neg H2000.out, htk]
                have hdy : cs.drop (k + 1 + xs.length) = ys := by
                  rw [show k + 1 + xs.length = k + (1 + xs.length) from by omega, ← List.drop_drop, HD.out, Nat.add_comm 1, List.drop_succ_cons, hds, List.drop_left]
                rw [hdy]
              have HT2 := Lib.hid hT2
              clear hT2 htk k1' k6' hds
              obtain ⟨tk, tt, tn, ta⟩ := t
              simp only at *
              unfold tE
              generalize xs.length = nx at *
              go_wp2_with (at_builtin; refine wpList_append_own _ rfl _ _ 47 rfl W1.heap.size 52 inf (.agg #[.int .i64 0, .string ⟨#[]⟩, .int .i64 0, .int .i64 0]) 4 40 Tryz.underlying47 hinf hz0 hz1 hz2 rfl (by decide) _ _ _ rfl ((hown3.alloc _).alloc _) ⟨w3.heap.size + 1, 0, none⟩ 1 1 (tokC ⟨tk, tt, tn, k⟩) rfl rfl ?c1 ?c2 ?c3 ?c4 ?c5 ?_)
              case c1 => exact new_cells w3 _ _ (tokC ⟨tk, tt, tn, k⟩)
              case c2 => exact tokC_one _
              case c3 => unfold maxLen; omega
              case c4 => omega
              case c5 => simp; omega
              intro v' w4 hown4 hgr _
              have hbr4 : Below W1.heap.size W1 w4 :=
                ((hbr3.alloc hsz3 _).alloc (by simp; omega) _).grown hgr (by simp; omega) (fun g hg => (hown3.lt _ hg).1)
              obtain ⟨A', cap', rfl⟩ := ownsRow_slice hown4
              have hlen : (acc ++ [(⟨tk, tt, tn, k⟩ : Tok)]).length = acc.length + 1 := by simp
              have hown5 : w4.ownsRow W1.heap.size 52 4 (.slice A' (acc.length + 1) cap') (acc ++ [(⟨tk, tt, tn, k⟩ : Tok)]).length (toksC (acc ++ [⟨tk, tt, tn, k⟩])) := by
                rw [hlen, toksC_append, toksC_one]; exact hown4
              have HL := Lib.hid hlen
              have HO5 := Lib.hid hown5
              clear hlen hown4 hown3 hown5 hgr p0 p1 p2
              obtain ⟨p0, p1, p2, _, _, _⟩ := (hbx.below hbr4 (by omega)).three
              have HSt4 := Lib.hid (HSt.out (k + 1 + nx) (acc ++ [⟨tk, tt, tn, k⟩]) hkx)
              go_wp2_with fail
              with_reducible refine (past_cs s A1 A2 cs k1 (cs.length + 1) k2 (k + 1 + nx) ((k : Int) + 1 + nx) w4 (by omega) (by omega) hkx (HR.out.below hbr4)).mono ?_
              rintro e w5 ⟨rfl, hb5⟩
              have hbr5 := hbr4.trans (hb5.mono hbr4.size)
              have HO6 := Lib.hid (ownsRow_below HO5.out hb5)
              obtain ⟨st1, st2, st3⟩ := HSt4.out
              have HT3 := Lib.hid (st3.trans HT2.out)
              have HH3 := Lib.hid st2
              have hge : k + 1 ≤ k + 1 + nx + pastR false ((cs.drop (k + 1 + nx)).map (·.1)) := by omega
              clear st2 st3 HSt4
              generalize k + 1 + nx + pastR false ((cs.drop (k + 1 + nx)).map (·.1)) = kk at *
              go_wp2_with fail
              go_roundw
              case rel => exact ⟨kk, acc ++ [⟨tk, tt, tn, k⟩], A', cap', st1, rfl, by rw [HL.out], HO6.out, hbr5, by rw [HL.out]; omega, HH3.out, HT3.out⟩
              case measure => simp [intOf]; omega
        · have HR2 : Hid (X = (acc ++ [⟨0, [], 0, (k : Int)⟩], 0, 0)) := by
            unfold Hid; rw [← HT.out, List.drop_of_length_le (by omega), T_nil]
          clear HT HH
          go_wp2_with (at_builtin; refine wpList_append_own _ rfl _ _ 47 rfl W1.heap.size 52 inf (.agg #[.int .i64 0, .string ⟨#[]⟩, .int .i64 0, .int .i64 0]) 4 40 Tryz.underlying47 hinf hz0 hz1 hz2 rfl (by decide) _ _ _ rfl (hown.alloc _) ⟨wr.heap.size, 0, none⟩ 1 1 (tokC ⟨0, [], 0, k⟩) rfl rfl ?d1 ?d2 ?d3 ?d4 ?d5 ?_)
          case d1 => exact new_cells0 wr _ (tokC ⟨0, [], 0, k⟩)
          case d2 => exact tokC_one _
          case d3 => unfold maxLen; omega
          case d4 => omega
          case d5 => simp; omega
          intro v' w4 hown4 hgr _
          have hbr4 : Below W1.heap.size W1 w4 :=
            (hbr.alloc hszr _).grown hgr (by simp; omega) (fun g hg => (hown.lt _ hg).1)
          have hown5 : w4.ownsRow w.heap.size 52 4 v' (acc ++ [(⟨0, [], 0, k⟩ : Tok)]).length (toksC (acc ++ [⟨0, [], 0, k⟩])) := by
            rw [toksC_append, toksC_one, List.length_append]; exact ownsRow_less hown4 (by omega)
          have HO := Lib.hid hown5
          clear hown4 hown hgr hown5
          go_wp2_with fail
          go_ret3
          exact ⟨v', by rw [HR2.out]; rfl, by rw [HR2.out]; exact HO.out, hb0.trans (hbr4.mono hb0.size)⟩
end Go.Proofs.YtinocaggponpmaaGreatDoor.Lx
