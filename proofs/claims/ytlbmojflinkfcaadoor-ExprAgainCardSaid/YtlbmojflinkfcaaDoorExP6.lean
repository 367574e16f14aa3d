/-
  Plain facts on the readings: one that went well goes well, and makes the same tree, over other tokens of the same kinds and texts, whatever stands behind that is no operator either, and with as many tokens still to be taken as it takes; with fewer it is too long.
-/
import Derived.Test.YtlbmojflinkfcaaDoorExP1
namespace Go.Proofs.YtlbmojflinkfcaaDoor.Ep
open Lx

def Lk (t u : Tok) : Prop := t.kind = u.kind ∧ t.text = u.text ∧ t.n = u.n
def LikeN (n : Nat) (ts us : List Tok) : Prop := ∀ j, j < n → Lk (nextT (ts.drop j)) (nextT (us.drop j))
def StopEq (ts us : List Tok) : Prop := ∀ lv : Int, operT ts lv 2 = operT us lv 2

theorem lk_sgn {ts us : List Tok} (h : Lk (nextT ts) (nextT us)) (s : List UInt8) : sgnT ts s = sgnT us s := by
  unfold sgnT; rw [h.1, h.2.1]
theorem lk_operGo {ts us : List Tok} (h : Lk (nextT ts) (nextT us)) (lv k : Int) : ∀ (l : List (List UInt8 × Int × Int)) (i : Nat), operGo ts lv k l i = operGo us lv k l i
  | [], _ => rfl
  | o :: os, i => by rw [operGo, operGo, lk_sgn h o.1, lk_operGo h lv k os (i + 1)]
theorem lk_oper {ts us : List Tok} (h : Lk (nextT ts) (nextT us)) (lv k : Int) : operT ts lv k = operT us lv k := lk_operGo h lv k opsT 0
theorem LikeN.head {n : Nat} {ts us : List Tok} (h : LikeN n ts us) (hn : 0 < n) : Lk (nextT ts) (nextT us) := h 0 hn
theorem LikeN.drop {n : Nat} {ts us : List Tok} (h : LikeN n ts us) (k : Nat) : LikeN (n - k) (ts.drop k) (us.drop k) := fun j hj => by
  have := h (k + j) (by omega)
  rwa [← List.drop_drop, ← List.drop_drop] at this
theorem LikeN.tail {n : Nat} {ts us : List Tok} (h : LikeN n ts us) : LikeN (n - 1) ts.tail us.tail := by
  rw [← List.drop_one, ← List.drop_one]; exact h.drop 1
theorem LikeN.less {n m : Nat} {ts us : List Tok} (h : LikeN n ts us) (hm : m ≤ n) : LikeN m ts us := fun j hj => h j (by omega)
/-- What stands behind m tokens is as it must be, inside or at the end. -/
theorem stop_in {n m : Nat} {ts us : List Tok} (h : LikeN n ts us) (hs : StopEq (ts.drop n) (us.drop n)) (hm : m ≤ n) : StopEq (ts.drop m) (us.drop m) := by
  rcases Nat.lt_or_ge m n with h1 | h1
  · exact fun lv => lk_oper (h m h1) lv 2
  · obtain rfl : m = n := by omega
    exact hs

/-- A reading moved: F' is F elsewhere, with at most B tokens to take. -/
def Mv (B : Nat) (F F' : Nat → List Tok → Res) : Prop :=
  ∀ b ts t b' rest, F b ts = .ok t b' rest → ∀ b2 us, b2 ≤ B → LikeN (b - b') ts us → StopEq (ts.drop (b - b')) (us.drop (b - b')) →
    F' b2 us = if b - b' ≤ b2 then .ok t (b2 - (b - b')) (us.drop (b - b')) else .er 2 0
theorem Mv.less {B C : Nat} {F F' : Nat → List Tok → Res} (h : Mv B F F') (hC : C ≤ B) : Mv C F F' := fun b ts t b' rest hF b2 us hb => h b ts t b' rest hF b2 us (by omega)

theorem tail_drop (ts : List Tok) (n : Nat) : ts.tail.drop n = ts.drop (1 + n) := by rw [← List.drop_one, List.drop_drop]
abbrev CT (F : Nat → List Tok → Res) : Prop := Cons (fun _ => True) F
theorem ct_ok {F : Nat → List Tok → Res} (h : CT F) {b : Nat} {ts : List Tok} {t : Ex} {b' : Nat} {rest : List Tok} (hF : F b ts = .ok t b' rest) : b' < b ∧ rest = ts.drop (b - b') := by
  have := h b ts (fun _ _ => trivial)
  rw [hF] at this
  exact ⟨this.1, this.2.1⟩

theorem leaf_mv (B : Nat) : Mv B leafT leafT := by
  intro b ts t b' rest hF b2 us _ hl _
  obtain ⟨hb, hr⟩ := ct_ok (leaf_cons (fun _ => True)) hF
  have hlk := hl.head (by omega)
  unfold leafT at hF ⊢
  simp only at hF ⊢
  rw [← hlk.1, ← hlk.2.1, ← hlk.2.2]
  split at hF
  · rename_i h1
    rw [if_pos h1]
    split at hF
    · rename_i h2
      rw [if_pos h2]
      split at hF
      · cases hF
      · injection hF with e1 e2 e3
        subst e1; subst e2
        have hn : b - (b - 1) = 1 := by omega
        rw [hn]
        by_cases h3 : b2 = 0
        · rw [if_pos h3, if_neg (by omega)]
        · rw [if_neg h3, if_pos (by omega), List.drop_one]
    · cases hF
  · rename_i h1
    rw [if_neg h1]
    split at hF
    · rename_i h2
      rw [if_pos h2]
      split at hF
      · rename_i h3
        rw [if_pos h3]
        split at hF
        · cases hF
        · injection hF with e1 e2 e3
          subst e1; subst e2
          have hn : b - (b - 1) = 1 := by omega
          rw [hn]
          by_cases h4 : b2 = 0
          · rw [if_pos h4, if_neg (by omega)]
          · rw [if_neg h4, if_pos (by omega), List.drop_one]
      · cases hF
    · cases hF

theorem chainGo_mv {B : Nat} {F F' : Nat → List Tok → Res} (hc : CT F) (hm : Mv B F F') (lv : Int) : ∀ (m : Nat) (e : Ex) (b : Nat) (ts : List Tok) (t : Ex) (b' : Nat) (rest : List Tok), chainGo F lv m e b ts = .ok t b' rest → b < m →
    b' ≤ b ∧ ∀ (m2 b2 : Nat) (us : List Tok), b2 < m2 → b2 ≤ B → LikeN (b - b') ts us → StopEq (ts.drop (b - b')) (us.drop (b - b')) → chainGo F' lv m2 e b2 us = if b - b' ≤ b2 then .ok t (b2 - (b - b')) (us.drop (b - b')) else .er 2 0
  | 0, _, b, _, _, _, _, _, hb => by omega
  | m + 1, e, b, ts, t, b', rest, h, hb => by
    rw [chainGo] at h
    by_cases ho : operT ts lv 2 < 0
    · rw [if_pos ho] at h
      injection h with e1 e2 e3
      subst e1; subst e2
      refine ⟨Nat.le_refl _, fun m2 b2 us hm2 _ _ hs => ?_⟩
      obtain ⟨q, rfl⟩ : ∃ q, m2 = q + 1 := ⟨m2 - 1, by omega⟩
      rw [Nat.sub_self, List.drop_zero, List.drop_zero] at hs
      rw [chainGo, if_pos (by rw [← hs lv]; exact ho), Nat.sub_self, if_pos (Nat.zero_le _), Nat.sub_zero, List.drop_zero]
    · rw [if_neg ho] at h
      by_cases hb0 : b = 0
      · rw [if_pos hb0] at h; cases h
      · rw [if_neg hb0] at h
        cases hr : F (b - 1) ts.tail with
        | er f b1 => rw [hr] at h; cases h
        | ok r b1 ts1 =>
          rw [hr] at h
          simp only at h
          obtain ⟨hb1, hts1⟩ := ct_ok hc hr
          obtain ⟨hle, ih⟩ := chainGo_mv hc hm lv m _ b1 ts1 t b' rest h (by omega)
          refine ⟨by omega, fun m2 b2 us hm2 hB hl hs => ?_⟩
          obtain ⟨q, rfl⟩ : ∃ q, m2 = q + 1 := ⟨m2 - 1, by omega⟩
          have hop := lk_oper (hl.head (by omega)) lv 2
          rw [chainGo, if_neg (by rw [← hop]; exact ho)]
          by_cases hb2 : b2 = 0
          · rw [if_pos hb2, if_neg (by omega)]
          · rw [if_neg hb2]
            have hsi := stop_in (m := 1 + (b - 1 - b1)) hl hs (by omega)
            have h1 := hm (b - 1) ts.tail r b1 ts1 hr (b2 - 1) us.tail (by omega) (hl.tail.less (by omega)) (by rw [tail_drop, tail_drop]; exact hsi)
            rw [h1]
            by_cases hn : b - 1 - b1 ≤ b2 - 1
            · rw [if_pos hn]
              simp only
              rw [hts1, tail_drop] at ih
              have hl2 := (hl.drop (1 + (b - 1 - b1))).less (m := b1 - b') (by omega)
              have hs2 : StopEq ((ts.drop (1 + (b - 1 - b1))).drop (b1 - b')) ((us.drop (1 + (b - 1 - b1))).drop (b1 - b')) := by
                rw [List.drop_drop, List.drop_drop, show 1 + (b - 1 - b1) + (b1 - b') = b - b' by omega]; exact hs
              rw [← hop, tail_drop, ih q (b2 - 1 - (b - 1 - b1)) (us.drop (1 + (b - 1 - b1))) (by omega) (by omega) hl2 hs2, List.drop_drop, show 1 + (b - 1 - b1) + (b1 - b') = b - b' by omega]
              by_cases hq : b1 - b' ≤ b2 - 1 - (b - 1 - b1)
              · rw [if_pos hq, if_pos (by omega), show b2 - 1 - (b - 1 - b1) - (b1 - b') = b2 - (b - b') by omega]
              · rw [if_neg hq, if_neg (by omega)]
            · rw [if_neg hn]
              simp only
              rw [if_neg (by omega)]

theorem chain_mv {B : Nat} {F F' : Nat → List Tok → Res} (hc : CT F) (hm : Mv B F F') (lv : Int) : Mv B (chainT F lv) (chainT F' lv) := by
  intro b ts t b' rest h b2 us hB hl hs
  unfold chainT at h
  cases hr : F b ts with
  | er f b1 => rw [hr] at h; cases h
  | ok r b1 ts1 =>
    rw [hr] at h
    simp only at h
    obtain ⟨hb1, hts1⟩ := ct_ok hc hr
    obtain ⟨hle, ih⟩ := chainGo_mv hc hm lv (b1 + 1) r b1 ts1 t b' rest h (by omega)
    have h1 := hm b ts r b1 ts1 hr b2 us hB (hl.less (by omega)) (stop_in hl hs (by omega))
    unfold chainT
    rw [h1]
    by_cases hn : b - b1 ≤ b2
    · rw [if_pos hn]
      simp only
      rw [hts1] at ih
      have hl2 := (hl.drop (b - b1)).less (m := b1 - b') (by omega)
      have hs2 : StopEq ((ts.drop (b - b1)).drop (b1 - b')) ((us.drop (b - b1)).drop (b1 - b')) := by
        rw [List.drop_drop, List.drop_drop, show b - b1 + (b1 - b') = b - b' by omega]; exact hs
      rw [ih (b2 - (b - b1) + 1) (b2 - (b - b1)) (us.drop (b - b1)) (by omega) (by omega) hl2 hs2, List.drop_drop, show b - b1 + (b1 - b') = b - b' by omega]
      by_cases hq : b1 - b' ≤ b2 - (b - b1)
      · rw [if_pos hq, if_pos (by omega), show b2 - (b - b1) - (b1 - b') = b2 - (b - b') by omega]
      · rw [if_neg hq, if_neg (by omega)]
    · rw [if_neg hn]
      simp only
      rw [if_neg (by omega)]

theorem pair_mv {B : Nat} {F F' : Nat → List Tok → Res} (hc : CT F) (hm : Mv B F F') (lv : Int) : Mv B (pairT F lv) (pairT F' lv) := by
  intro b ts t b' rest h b2 us hB hl hs
  have hct := ct_ok (pair_cons hc lv) h
  unfold pairT at h
  cases hr : F b ts with
  | er f b1 => rw [hr] at h; cases h
  | ok r b1 ts1 =>
    rw [hr] at h
    simp only at h
    obtain ⟨hb1, hts1⟩ := ct_ok hc hr
    by_cases ho : operT ts1 lv 2 < 0
    · rw [if_pos ho] at h
      injection h with e1 e2 e3
      subst e1; subst e2
      unfold pairT
      rw [hm b ts r b1 ts1 hr b2 us hB hl hs]
      by_cases hn : b - b1 ≤ b2
      · rw [if_pos hn]
        simp only
        rw [if_pos (by rw [← hs lv, ← hts1]; exact ho)]
      · rw [if_neg hn]
    · rw [if_neg ho] at h
      by_cases hb0 : b1 = 0
      · rw [if_pos hb0] at h; cases h
      · rw [if_neg hb0] at h
        cases hr2 : F (b1 - 1) ts1.tail with
        | er f b3 => rw [hr2] at h; cases h
        | ok r2 b3 ts3 =>
          rw [hr2] at h
          simp only at h
          obtain ⟨hb3, hts3⟩ := ct_ok hc hr2
          injection h with e1 e2 e3
          subst e1; subst e2
          have h1 := hm b ts r b1 ts1 hr b2 us hB (hl.less (by omega)) (stop_in hl hs (by omega))
          unfold pairT
          rw [h1]
          by_cases hn : b - b1 ≤ b2
          · rw [if_pos hn]
            simp only
            have hop : operT ts1 lv 2 = operT (us.drop (b - b1)) lv 2 := by rw [hts1]; exact lk_oper (hl (b - b1) (by omega)) lv 2
            rw [if_neg (by rw [← hop]; exact ho)]
            by_cases hb2 : b2 - (b - b1) = 0
            · rw [if_pos hb2, if_neg (by omega)]
            · rw [if_neg hb2]
              have hl2 : LikeN (b1 - 1 - b3) ts1.tail (us.drop (b - b1)).tail := by
                rw [hts1]; exact ((hl.drop (b - b1)).tail).less (by omega)
              have hs2 : StopEq (ts1.tail.drop (b1 - 1 - b3)) ((us.drop (b - b1)).tail.drop (b1 - 1 - b3)) := by
                rw [hts1, tail_drop, tail_drop, List.drop_drop, List.drop_drop, show b - b1 + (1 + (b1 - 1 - b3)) = b - b3 by omega]; exact hs
              rw [hm (b1 - 1) ts1.tail r2 b3 ts3 hr2 (b2 - (b - b1) - 1) (us.drop (b - b1)).tail (by omega) hl2 hs2]
              by_cases hq : b1 - 1 - b3 ≤ b2 - (b - b1) - 1
              · rw [if_pos hq, if_pos (by omega)]
                simp only
                rw [hop, tail_drop, List.drop_drop, show b - b1 + (1 + (b1 - 1 - b3)) = b - b3 by omega, show b2 - (b - b1) - 1 - (b1 - 1 - b3) = b2 - (b - b3) by omega]
              · rw [if_neg hq, if_neg (by omega)]
          · rw [if_neg hn]
            simp only
            rw [if_neg (by omega)]

theorem orOf_mv {B : Nat} {U U' : Nat → List Tok → Res} (hc : CT U) (hm : Mv B U U') : Mv B (orOf U) (orOf U') :=
  chain_mv (chain_cons (pair_cons (chain_cons (chain_cons hc 4) 3) 2) 1) (chain_mv (pair_cons (chain_cons (chain_cons hc 4) 3) 2) (pair_mv (chain_cons (chain_cons hc 4) 3) (chain_mv (chain_cons hc 4) (chain_mv hc hm 4) 3) 2) 1) 0

theorem unary_mv : ∀ (d d' : Nat), Mv d' (unaryT d) (unaryT (d' + 1))
  | 0, _ => fun b ts t b' rest h => by rw [unaryT] at h; cases h
  | d + 1, d' => fun b ts t b' rest h b2 us hB hl hs => by
    have hct := ct_ok (unary_cons (fun _ => True) (d + 1)) h
    have hlk := hl.head (by omega)
    have hop := lk_oper hlk 5 1
    have hsg := lk_sgn hlk [40]
    rw [unaryT] at h ⊢
    by_cases ho : 0 ≤ operT ts 5 1
    · rw [if_pos ho] at h
      rw [if_pos (by rw [← hop]; exact ho)]
      by_cases hb0 : b = 0
      · rw [if_pos hb0] at h; cases h
      · rw [if_neg hb0] at h
        cases hr : unaryT d (b - 1) ts.tail with
        | er f b1 => rw [hr] at h; cases h
        | ok e b1 ts1 =>
          rw [hr] at h
          simp only at h
          obtain ⟨hb1, hts1⟩ := ct_ok (unary_cons (fun _ => True) d) hr
          injection h with e1 e2 e3
          subst e1; subst e2
          by_cases hb2 : b2 = 0
          · rw [if_pos hb2, if_neg (by omega)]
          · rw [if_neg hb2]
            obtain ⟨q, rfl⟩ : ∃ q, d' = q + 1 := ⟨d' - 1, by omega⟩
            rw [unary_mv d q (b - 1) ts.tail e b1 ts1 hr (b2 - 1) us.tail (by omega) (hl.tail.less (by omega)) (by rw [tail_drop, tail_drop, show 1 + (b - 1 - b1) = b - b1 by omega]; exact hs)]
            by_cases hn : b - 1 - b1 ≤ b2 - 1
            · rw [if_pos hn, if_pos (by omega)]
              simp only
              rw [hop, tail_drop, show 1 + (b - 1 - b1) = b - b1 by omega, show b2 - 1 - (b - 1 - b1) = b2 - (b - b1) by omega]
            · rw [if_neg hn, if_neg (by omega)]
    · rw [if_neg ho] at h
      rw [if_neg (by rw [← hop]; exact ho)]
      by_cases hp : sgnT ts [40] = true
      · rw [if_pos hp] at h
        rw [if_pos (by rw [← hsg]; exact hp)]
        by_cases hb0 : b = 0
        · rw [if_pos hb0] at h; cases h
        · rw [if_neg hb0] at h
          cases hr : orOf (unaryT d) (b - 1) ts.tail with
          | er f b1 => rw [hr] at h; cases h
          | ok e b1 ts1 =>
            rw [hr] at h
            simp only at h
            obtain ⟨hb1, hts1⟩ := ct_ok (orOf_cons (unary_cons (fun _ => True) d)) hr
            by_cases hc : sgnT ts1 [41] = true
            · rw [if_pos hc] at h
              by_cases hb10 : b1 = 0
              · rw [if_pos hb10] at h; cases h
              · rw [if_neg hb10] at h
                injection h with e1 e2 e3
                subst e1; subst e2
                by_cases hb2 : b2 = 0
                · rw [if_pos hb2, if_neg (by omega)]
                · rw [if_neg hb2]
                  obtain ⟨q, rfl⟩ : ∃ q, d' = q + 1 := ⟨d' - 1, by omega⟩
                  have hlc := hl (1 + (b - 1 - b1)) (by omega)
                  rw [orOf_mv (unary_cons (fun _ => True) d) (unary_mv d q) (b - 1) ts.tail e b1 ts1 hr (b2 - 1) us.tail (by omega) (hl.tail.less (by omega)) (by rw [tail_drop, tail_drop]; exact fun lv => lk_oper hlc lv 2)]
                  by_cases hn : b - 1 - b1 ≤ b2 - 1
                  · rw [if_pos hn]
                    simp only
                    have hc2 : sgnT (us.tail.drop (b - 1 - b1)) [41] = true := by
                      rw [tail_drop, ← lk_sgn hlc [41], ← tail_drop, ← hts1]; exact hc
                    rw [if_pos hc2]
                    by_cases hz : b2 - 1 - (b - 1 - b1) = 0
                    · rw [if_pos hz, if_neg (by omega)]
                    · rw [if_neg hz, if_pos (by omega), tail_drop, ← List.drop_one, List.drop_drop, show 1 + (b - 1 - b1) + 1 = b - (b1 - 1) by omega, show b2 - 1 - (b - 1 - b1) - 1 = b2 - (b - (b1 - 1)) by omega]
                  · rw [if_neg hn, if_neg (by omega)]
            · rw [if_neg hc] at h; cases h
      · rw [if_neg hp] at h
        rw [if_neg (by rw [← hsg]; exact hp)]
        exact leaf_mv d' b ts t b' rest h b2 us hB hl hs

theorem chain_up {F : Nat → List Tok → Res} {lv : Int} {b b' : Nat} {ts rest : List Tok} {t : Ex} (h : F b ts = .ok t b' rest) (ho : operT rest lv 2 < 0) : chainT F lv b ts = .ok t b' rest := by
  unfold chainT; rw [h]
  simp only
  rw [chainGo, if_pos ho]
theorem pair_up {F : Nat → List Tok → Res} {lv : Int} {b b' : Nat} {ts rest : List Tok} {t : Ex} (h : F b ts = .ok t b' rest) (ho : operT rest lv 2 < 0) : pairT F lv b ts = .ok t b' rest := by
  unfold pairT; rw [h]
  simp only
  rw [if_pos ho]
theorem chain_er {F : Nat → List Tok → Res} {lv f : Int} {b b' : Nat} {ts : List Tok} (h : F b ts = .er f b') : chainT F lv b ts = .er f b' := by unfold chainT; rw [h]
theorem pair_er {F : Nat → List Tok → Res} {lv f : Int} {b b' : Nat} {ts : List Tok} (h : F b ts = .er f b') : pairT F lv b ts = .er f b' := by unfold pairT; rw [h]
theorem or_up {U : Nat → List Tok → Res} {b b' : Nat} {ts rest : List Tok} {t : Ex} (h : U b ts = .ok t b' rest) (ho : ∀ lv : Int, operT rest lv 2 < 0) : orOf U b ts = .ok t b' rest :=
  chain_up (chain_up (pair_up (chain_up (chain_up h (ho 4)) (ho 3)) (ho 2)) (ho 1)) (ho 0)
theorem or_er {U : Nat → List Tok → Res} {f : Int} {b b' : Nat} {ts : List Tok} (h : U b ts = .er f b') : orOf U b ts = .er f b' := chain_er (chain_er (pair_er (chain_er (chain_er h))))

/-- Brackets round what is read whole. -/
theorem take_brackets (ts us : List Tok) (t : Ex) (b' : Nat) (rest : List Tok) (h : takeT ts = .ok t b' rest) (o : Tok) (ho : o.kind = 4 ∧ o.text = [40]) (hl : LikeN (64 - b') ts us) (hs : StopEq (ts.drop (64 - b')) (us.drop (64 - b')))
    (hc : sgnT (us.drop (64 - b')) [41] = true) (hf : ∀ lv : Int, operT (us.drop (64 - b')).tail lv 2 < 0) :
    takeT (o :: us) = if 64 - b' ≤ 62 then .ok t (62 - (64 - b')) (us.drop (64 - b')).tail else .er 2 0 := by
  obtain ⟨ok, ot, on, oa⟩ := o
  obtain ⟨rfl, rfl⟩ := ho
  have hU : unaryT 65 64 (⟨4, [40], on, oa⟩ :: us) = if 64 - b' ≤ 62 then .ok t (62 - (64 - b')) (us.drop (64 - b')).tail else .er 2 0 := by
    have h1 : operT (⟨4, [40], on, oa⟩ :: us) 5 1 = operT [(⟨4, [40], 0, 0⟩ : Tok)] 5 1 := by
      have key : ∀ (l : List (List UInt8 × Int × Int)) (i : Nat), operGo (⟨4, [40], on, oa⟩ :: us) 5 1 l i = operGo [(⟨4, [40], 0, 0⟩ : Tok)] 5 1 l i := by
        intro l
        induction l with
        | nil => intro i; rfl
        | cons x xs ih =>
          intro i
          have e : sgnT (⟨4, [40], on, oa⟩ :: us) x.1 = sgnT [(⟨4, [40], 0, 0⟩ : Tok)] x.1 := rfl
          rw [operGo, operGo, e, ih (i + 1)]
      exact key opsT 0
    have h2 : operT [(⟨4, [40], 0, 0⟩ : Tok)] 5 1 < 0 := by decide +kernel
    have h3 : sgnT (⟨4, [40], on, oa⟩ :: us) [40] = true := rfl
    rw [unaryT, if_neg (by rw [h1]; omega), if_pos h3, if_neg (by decide), List.tail_cons]
    have hm := orOf_mv (unary_cons (fun _ => True) 65) (unary_mv 65 63) 64 ts t b' rest h 63 us (by omega) hl hs
    rw [show (64 - 1 : Nat) = 63 by rfl, hm]
    by_cases hn : 64 - b' ≤ 63
    · rw [if_pos hn]
      simp only
      rw [if_pos hc]
      by_cases hz : 63 - (64 - b') = 0
      · rw [if_pos hz, if_neg (by omega)]
      · rw [if_neg hz, if_pos (by omega), show 63 - (64 - b') - 1 = 62 - (64 - b') by omega]
    · rw [if_neg hn]
      simp only
      rw [if_neg (by omega)]
  unfold takeT
  by_cases hn : 64 - b' ≤ 62
  · rw [if_pos hn] at hU ⊢
    exact or_up hU hf
  · rw [if_neg hn] at hU ⊢
    exact or_er hU
end Go.Proofs.YtlbmojflinkfcaaDoor.Ep
