/-
  The contract of the document's own quoted.
-/
import Derived.Test.YtbbebnbofalmlaaDoorLexQ1
namespace Go.Proofs.YtbbebnbofalmlaaDoor.Lx
open Go.RowKit

/-- What a text in quotes comes to behind its first quote: the error, and how many runes it has. -/
def txR : Nat → List Nat → Int × Nat
  | _, [] => (11, 0)
  | n, r :: rs => if r = 34 then (if 20 < n then (2, 0) else (0, n)) else if r < 32 then (11, 0) else txR (n + 1) rs
theorem txR_none : ∀ (rs : List Nat) (n : Nat), (∀ r ∈ rs, r ≠ 34) → txR n rs = (11, 0)
  | [], _, _ => rfl
  | r :: rs, n, h => by
    unfold txR
    rw [if_neg (h r (by simp))]
    split
    · rfl
    · exact txR_none rs _ (fun x hx => h x (by simp [hx]))
theorem txR_low : ∀ (xs ys : List Nat) (n : Nat), (∀ r ∈ xs, r ≠ 34) → (∃ r ∈ xs, r < 32) → txR n (xs ++ ys) = (11, 0)
  | [], _, _, _, ⟨r, hr, _⟩ => by cases hr
  | x :: xs, ys, n, h, ⟨r, hr, hl⟩ => by
    show txR n (x :: (xs ++ ys)) = _
    unfold txR
    rw [if_neg (h x (by simp))]
    split
    · rfl
    · rename_i hx
      refine txR_low xs ys _ (fun y hy => h y (by simp [hy])) ⟨r, ?_, hl⟩
      rcases List.mem_cons.1 hr with rfl | hr
      · exact absurd hl hx
      · exact hr
theorem txR_ok : ∀ (xs ys : List Nat) (n : Nat), (∀ r ∈ xs, r ≠ 34 ∧ 32 ≤ r) → txR n (xs ++ 34 :: ys) = if 20 < n + xs.length then (2, 0) else (0, n + xs.length)
  | [], ys, n, _ => by show txR n (34 :: ys) = _; unfold txR; rw [if_pos rfl]; simp
  | x :: xs, ys, n, h => by
    show txR n (x :: (xs ++ 34 :: ys)) = _
    unfold txR
    rw [if_neg (h x (by simp)).1, if_neg (by have := (h x (by simp)).2; omega), txR_ok xs ys _ (fun y hy => h y (by simp [hy]))]
    simp only [List.length_cons]
    rw [show n + 1 + xs.length = n + (xs.length + 1) from by omega]
theorem take_snoc (R : List Nat) (a m : Nat) (h : a + m < R.length) : (R.drop a).take (m + 1) = (R.drop a).take m ++ [R.getD (a + m) 0] := by
  rw [List.take_succ_eq_append_getElem (by rw [List.length_drop]; omega), List.getElem_drop, List.getD_eq_getElem?_getD, List.getElem?_eq_getElem h]; rfl
theorem drop_split (R : List Nat) (a m : Nat) (h : a + m < R.length) : R.drop a = (R.drop a).take m ++ R.getD (a + m) 0 :: R.drop (a + m + 1) := by
  conv => lhs; rw [← List.take_append_drop m (R.drop a)]
  rw [List.drop_drop, drop_at R (a + m) h]
theorem mem_take_at (R : List Nat) (a j m : Nat) (hj : j < m) (h : a + j < R.length) : R.getD (a + j) 0 ∈ (R.drop a).take m := by
  rw [List.getD_eq_getElem?_getD, List.getElem?_eq_getElem h, List.mem_take_iff_getElem]
  exact ⟨j, by rw [List.length_drop]; omega, by rw [List.getElem_drop]; rfl⟩

def zTokV : Value := .agg #[.int .i64 0, .string ⟨#[]⟩, .int .i64 0, .int .i64 0]
def quoE (s : ByteArray) (R P : List Nat) (i : Nat) : Ending :=
  if (txR 0 (R.drop (i + 1))).1 = 0 then .returned (.tuple #[.agg #[.int .i64 3, .string (s.extract (P.getD (i + 1) 0) (P.getD (i + 1 + (txR 0 (R.drop (i + 1))).2) 0)), .int .i64 0, .int .i64 i], .int .i64 ((i + 1 + (txR 0 (R.drop (i + 1))).2 + 1 : Nat) : Int), .int .i64 0])
  else .returned (.tuple #[zTokV, .int .i64 0, .int .i64 (txR 0 (R.drop (i + 1))).1])
theorem quoE_err {s : ByteArray} {R P : List Nat} {i : Nat} {e : Int} (h : txR 0 (R.drop (i + 1)) = (e, 0)) (he : e ≠ 0) : quoE s R P i = .returned (.tuple #[.agg #[.int .i64 0, .string ⟨#[]⟩, .int .i64 0, .int .i64 0], .int .i64 0, .int .i64 e]) := by
  unfold quoE; rw [h, if_neg he]; rfl
theorem quoE_ok {s : ByteArray} {R P : List Nat} {i n : Nat} (h : txR 0 (R.drop (i + 1)) = (0, n)) : quoE s R P i = .returned (.tuple #[.agg #[.int .i64 3, .string (s.extract (P.getD (i + 1) 0) (P.getD (i + 1 + n) 0)), .int .i64 0, .int .i64 i], .int .i64 ((i + 1 + n + 1 : Nat) : Int), .int .i64 0]) := by
  unfold quoE; rw [h, if_pos rfl]

/-- The places of a text's runes. -/
structure Places (s : ByteArray) (R P : List Nat) : Prop where
  len : P.length = R.length + 1
  mono : ∀ i k, i ≤ k → k ≤ R.length → P.getD i 0 ≤ P.getD k 0
  le : ∀ k, k ≤ R.length → P.getD k 0 ≤ s.size

theorem part_at (s : ByteArray) (A1 A2 : Option Addr) (P : List Nat) (n1 c1 c2 i k : Nat) (a b : Int) (w : World) (ha : a = (i : Int)) (hb : b = (k : Int)) (hi : i < P.length) (hk : k < P.length) (hle : P.getD i 0 ≤ P.getD k 0) (hs : P.getD k 0 ≤ s.size) (hss : s.size ≤ 20000) (hP : P.length ≤ 20001) (hrd : Rd w A2 P) :
    Calls Tryd.prog 42 #[.agg #[.string s, .slice A1 n1 c1, .slice A2 P.length c2], .int .i64 a, .int .i64 b] w fun e w' => e = .returned (.string (s.extract (P.getD i 0) (P.getD k 0))) ∧ Below w.heap.size w w' := by
  subst ha hb
  exact part_ref s A1 A2 P n1 c1 c2 i k w hi hk hle hs hss hP hrd

set_option maxRecDepth 100000 in
set_option maxHeartbeats 8000000 in
theorem quoted_ref (s : ByteArray) (A1 A2 : Option Addr) (R P : List Nat) (c1 c2 i : Nat) (w : World) (hss : s.size ≤ 20000) (hR : R.length ≤ 20000) (hi : i < R.length) (hrd : Rd w A1 R) (hrp : Rd w A2 P) (hpl : Places s R P) :
    Calls Tryd.prog 43 #[.agg #[.string s, .slice A1 R.length c1, .slice A2 P.length c2], .int .i64 i] w fun e w' => e = quoE s R P i ∧ Below w.heap.size w w' := by
  obtain ⟨g, rfl, hgl, hcell⟩ := hrd i hi
  have hbf : Below w.heap.size w ((w.alloc (.cells #[.string s, .slice (some ⟨g, 0, none⟩) R.length c1, .slice A2 P.length c2] 47)).alloc (.cells #[.int .i64 0, .string ⟨#[]⟩, .int .i64 0, .int .i64 0] 42)) := ((Below.refl _ w).alloc (Nat.le_refl _) _).alloc (by simp) _
  have hx0 : Box ((w.alloc (.cells #[.string s, .slice (some ⟨g, 0, none⟩) R.length c1, .slice A2 P.length c2] 47)).alloc (.cells #[.int .i64 0, .string ⟨#[]⟩, .int .i64 0, .int .i64 0] 42)) w.heap.size 47 #[.string s, .slice (some ⟨g, 0, none⟩) R.length c1, .slice A2 P.length c2] := (Box.new w _ _).alloc _
  have hx1 : Box ((w.alloc (.cells #[.string s, .slice (some ⟨g, 0, none⟩) R.length c1, .slice A2 P.length c2] 47)).alloc (.cells #[.int .i64 0, .string ⟨#[]⟩, .int .i64 0, .int .i64 0] 42)) (w.heap.size + 1) 42 #[.int .i64 0, .string ⟨#[]⟩, .int .i64 0, .int .i64 0] := by
    have := Box.new (w.alloc (.cells #[.string s, .slice (some ⟨g, 0, none⟩) R.length c1, .slice A2 P.length c2] 47)) 42 #[.int .i64 0, .string ⟨#[]⟩, .int .i64 0, .int .i64 0]
    simpa using this
  have HC : Hid (∀ j (_hj : j < R.length), ((w.alloc (.cells #[.string s, .slice (some ⟨g, 0, none⟩) R.length c1, .slice A2 P.length c2] 47)).alloc (.cells #[.int .i64 0, .string ⟨#[]⟩, .int .i64 0, .int .i64 0] 42)).cell? ⟨g, j, none⟩ = some (.int .i64 ((R.getD j 0 : Nat) : Int))) := fun j hj =>
    (hbf.cell (p := ⟨g, j, none⟩) hgl).trans (hcell j hj)
  have HP := Lib.hid (hrp.below hbf)
  clear hrd hrp hcell
  have HPl := Lib.hid hpl
  clear hpl
  go_enter Tryd.func43, Tryd.ntmps43
  go_wp2_with fail
  generalize (w.alloc (.cells #[.string s, .slice (some ⟨g, 0, none⟩) R.length c1, .slice A2 P.length c2] 47)).alloc (.cells #[.int .i64 0, .string ⟨#[]⟩, .int .i64 0, .int .i64 0] 42) = W0 at *
  obtain ⟨p0, p1, p2, _, _, _⟩ := hx0.three
  obtain ⟨q0, q1, q2, q3, f0, f1, f2, f3⟩ := hx1.four
  go_loop [7] (fun k => ∃ m : Nat, i + 1 + m ≤ R.length ∧ k = .int .i64 ((i + 1 + m : Nat) : Int) ∧ Hid (∀ x ∈ (R.drop (i + 1)).take m, x ≠ 34 ∧ x ≠ 10)) (fun k => R.length - (intOf k).toNat)
  case atStart => exact ⟨0, by omega, by go_num, by intro x hx; simp at hx⟩
  case round =>
    obtain ⟨m, hm, rfl, HM⟩ := hrel
    by_cases hlt : i + 1 + m < R.length
    · have hc := HC.out _ hlt
      have HS := Lib.hid (take_snoc R (i + 1) m hlt)
      have HT := Lib.hid (drop_split R (i + 1) m hlt)
      by_cases h34 : R.getD (i + 1 + m) 0 = 34
      · have b1 : (((R.getD (i + 1 + m) 0 : Nat) : Int) != 34) = false := by rw [h34]; rfl
        have b3 : (((R.getD (i + 1 + m) 0 : Nat) : Int) == 10) = false := by rw [h34]; rfl
        have b0 : (((i + 1 + m : Nat) : Int) == (R.length : Int)) = false := beq_eq_false_iff_ne.2 (by omega)
        have H34 := Lib.hid h34
        clear h34 HS
        generalize R.getD (i + 1 + m) 0 = rk at *
        go_wp2_with fail
        clear hc b1 b3 b0
        go_loop [8] (fun n => ∃ j : Nat, j ≤ m ∧ n = .int .i64 ((i + 1 + j : Nat) : Int) ∧ Hid (∀ x ∈ (R.drop (i + 1)).take j, 32 ≤ x)) (fun n => R.length - (intOf n).toNat)
        case atStart => exact ⟨0, by omega, by go_num, by intro x hx; simp at hx⟩
        case round =>
          obtain ⟨j, hj, rfl, HJ⟩ := hrel
          by_cases hjm : j < m
          · have hc := HC.out (i + 1 + j) (by omega)
            have HS := Lib.hid (take_snoc R (i + 1) j (by omega))
            have HU := Lib.hid (mem_take_at R (i + 1) j m hjm (by omega))
            by_cases h32 : R.getD (i + 1 + j) 0 < 32
            · have HF : Hid (quoE s R P i = .returned (.tuple #[.agg #[.int .i64 0, .string ⟨#[]⟩, .int .i64 0, .int .i64 0], .int .i64 0, .int .i64 11])) := by
                refine quoE_err ?_ (by decide)
                rw [HT.out]
                exact txR_low _ _ 0 (fun x hx => (HM.out x hx).1) ⟨_, HU.out, h32⟩
              clear HS HU
              generalize R.getD (i + 1 + j) 0 = rj at *
              go_wp2_with fail
              refine bodyPost_ret (v := .tuple #[.agg #[.int .i64 0, .string ⟨#[]⟩, .int .i64 0, .int .i64 0], .int .i64 0, .int .i64 11]) (by simp [results, Tryd.results43, go_sem, q0, q1, q2, q3]) rfl ⟨HF.out.symm, below_set4 hbf (by omega) _ _ _ _⟩
            · have HN : Hid (∀ x ∈ (R.drop (i + 1)).take (j + 1), 32 ≤ x) := by
                intro x hx
                rw [HS.out] at hx
                rcases List.mem_append.1 hx with hx | hx
                · exact HJ.out x hx
                · simp only [List.mem_singleton] at hx; rw [hx]; omega
              clear HS HU
              generalize R.getD (i + 1 + j) 0 = rj at *
              go_wp2_with fail
              go_round
              case rel => exact ⟨j + 1, by omega, by go_num, HN.out⟩
              case measure => simp [intOf]; omega
          · obtain rfl : j = m := by omega
            have hln : ((R.drop (i + 1)).take j).length = j := by rw [List.length_take, List.length_drop]; omega
            have hq : txR 0 (R.drop (i + 1)) = if 20 < j then (2, 0) else (0, j) := by
              rw [HT.out, H34.out, txR_ok _ _ 0 (fun x hx => ⟨(HM.out x hx).1, HJ.out x hx⟩), hln, Nat.zero_add]
            by_cases h20 : 20 < j
            · have HF : Hid (quoE s R P i = .returned (.tuple #[.agg #[.int .i64 0, .string ⟨#[]⟩, .int .i64 0, .int .i64 0], .int .i64 0, .int .i64 2])) :=
                quoE_err (by rw [hq, if_pos h20]) (by decide)
              clear hq hln
              go_wp2_with fail
              refine bodyPost_ret (v := .tuple #[.agg #[.int .i64 0, .string ⟨#[]⟩, .int .i64 0, .int .i64 0], .int .i64 0, .int .i64 2]) (by simp [results, Tryd.results43, go_sem, q0, q1, q2, q3]) rfl ⟨HF.out.symm, below_set4 hbf (by omega) _ _ _ _⟩
            · have HF : Hid (quoE s R P i = _) := quoE_ok (by rw [hq, if_neg h20])
              clear hq hln
              have hk1 : i + 1 < P.length ∧ i + 1 + j < P.length ∧ P.length ≤ 20001 := by have := HPl.out.len; omega
              have hm1 := HPl.out.mono (i + 1) (i + 1 + j) (by omega) (by omega)
              have hm2 := HPl.out.le (i + 1 + j) (by omega)
              go_wp2_with fail
              with_reducible refine (part_at s (some ⟨g, 0, none⟩) A2 P R.length c1 c2 (i + 1) (i + 1 + j) ((i : Int) + 1) ((i : Int) + 1 + j) W0 (by omega) (by omega) hk1.1 hk1.2.1 hm1 hm2 hss hk1.2.2 HP.out).mono ?_
              rintro e w2 ⟨rfl, hb2⟩
              have hx1' := hx1.below hb2 (Array.getElem?_eq_some_iff.1 hx1).1
              have hbf2 := hbf.trans (hb2.mono hbf.size)
              clear q0 q1 q2 q3 f0 f1 f2 f3 hx1 hx0
              obtain ⟨q0, q1, q2, q3, f0, f1, f2, f3⟩ := hx1'.four
              generalize s.extract (P.getD (i + 1) 0) (P.getD (i + 1 + j) 0) = str at *
              go_wp2_with fail
              refine bodyPost_ret (v := .tuple #[.agg #[.int .i64 3, .string str, .int .i64 0, .int .i64 i], .int .i64 ((i : Int) + 1 + j + 1), .int .i64 0]) (by simp [results, Tryd.results43, go_sem, q0, q1, q2, q3]) rfl ⟨by rw [HF.out]; simp, below_set4 hbf2 (by omega) _ _ _ _⟩
      · by_cases h10 : R.getD (i + 1 + m) 0 = 10
        · have HF : Hid (quoE s R P i = .returned (.tuple #[.agg #[.int .i64 0, .string ⟨#[]⟩, .int .i64 0, .int .i64 0], .int .i64 0, .int .i64 11])) := by
            refine quoE_err ?_ (by decide)
            rw [HT.out, h10, show (R.drop (i + 1)).take m ++ 10 :: R.drop (i + 1 + m + 1) = ((R.drop (i + 1)).take m ++ [10]) ++ R.drop (i + 1 + m + 1) from by simp]
            refine txR_low _ _ 0 (fun x hx => ?_) ⟨10, by simp, by decide⟩
            rcases List.mem_append.1 hx with hx | hx
            · exact (HM.out x hx).1
            · simp at hx; rw [hx]; decide
          have b1 : (((R.getD (i + 1 + m) 0 : Nat) : Int) != 34) = true := bne_iff_ne.2 (by omega)
          have b2 : (((R.getD (i + 1 + m) 0 : Nat) : Int) != 10) = false := by rw [h10]; rfl
          have b3 : (((R.getD (i + 1 + m) 0 : Nat) : Int) == 10) = true := by rw [h10]; rfl
          have b0 : (((i + 1 + m : Nat) : Int) == (R.length : Int)) = false := beq_eq_false_iff_ne.2 (by omega)
          clear h34 h10 HS HT
          generalize R.getD (i + 1 + m) 0 = rk at *
          go_wp2_with fail
          refine bodyPost_ret (v := .tuple #[.agg #[.int .i64 0, .string ⟨#[]⟩, .int .i64 0, .int .i64 0], .int .i64 0, .int .i64 11]) (by simp [results, Tryd.results43, go_sem, q0, q1, q2, q3]) rfl ⟨HF.out.symm, below_set4 hbf (by omega) _ _ _ _⟩
        · have HN : Hid (∀ x ∈ (R.drop (i + 1)).take (m + 1), x ≠ 34 ∧ x ≠ 10) := by
            intro x hx
            rw [HS.out] at hx
            rcases List.mem_append.1 hx with hx | hx
            · exact HM.out x hx
            · simp only [List.mem_singleton] at hx; rw [hx]; exact ⟨h34, h10⟩
          have b1 : (((R.getD (i + 1 + m) 0 : Nat) : Int) != 34) = true := bne_iff_ne.2 (by omega)
          have b2 : (((R.getD (i + 1 + m) 0 : Nat) : Int) != 10) = true := bne_iff_ne.2 (by omega)
          clear h34 h10 HS HT
          generalize R.getD (i + 1 + m) 0 = rk at *
          go_wp2_with fail
          go_round
          case rel => exact ⟨m + 1, by omega, by go_num, HN.out⟩
          case measure => simp [intOf]; omega
    · have hme : i + 1 + m = R.length := by omega
      have HF : Hid (quoE s R P i = .returned (.tuple #[.agg #[.int .i64 0, .string ⟨#[]⟩, .int .i64 0, .int .i64 0], .int .i64 0, .int .i64 11])) :=
        quoE_err (txR_none _ 0 (fun x hx => (HM.out x (by rw [List.take_of_length_le (by rw [List.length_drop]; omega)]; exact hx)).1)) (by decide)
      have b1 : (((i + 1 + m : Nat) : Int) == (R.length : Int)) = true := beq_iff_eq.2 (by omega)
      go_wp2_with fail
      refine bodyPost_ret (v := .tuple #[.agg #[.int .i64 0, .string ⟨#[]⟩, .int .i64 0, .int .i64 0], .int .i64 0, .int .i64 11]) (by simp [results, Tryd.results43, go_sem, q0, q1, q2, q3]) rfl ⟨HF.out.symm, below_set4 hbf (by omega) _ _ _ _⟩
end Go.Proofs.YtbbebnbofalmlaaDoor.Lx
