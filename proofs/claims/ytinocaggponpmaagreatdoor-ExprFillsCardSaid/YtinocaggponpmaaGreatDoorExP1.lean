/-
  Plain facts on the readings: how many tokens they take, and which; what trees they make.
-/
import Derived.Test.YtinocaggponpmaaGreatDoorExC
namespace Go.Proofs.YtinocaggponpmaaGreatDoor.Ep
open Lx

/-- A reading took tokens one by one, none of which is an end; what it made has numbers of the tokens'. -/
def RCons (N : Tok → Prop) (b : Nat) (ts : List Tok) : Res → Prop
  | .ok t b' ts' => b' < b ∧ ts' = ts.drop (b - b') ∧ (∀ j, j < b - b' → (nextT (ts.drop j)).kind ≠ 0) ∧ ((∀ t, N t → -9223372036854775808 ≤ t.n ∧ t.n ≤ 9223372036854775807) → numsE t)
  | .er f b' => b' ≤ b ∧ (∀ j, j < b - b' → (nextT (ts.drop j)).kind ≠ 0) ∧ (f = 2 ∨ f = 11 ∨ f = 99)
def Cons (N : Tok → Prop) (F : Nat → List Tok → Res) : Prop := ∀ b ts, (∀ t ∈ ts, N t) → RCons N b ts (F b ts)

theorem nextT_mem {N : Tok → Prop} {ts : List Tok} (h : ∀ t ∈ ts, N t) (hk : (nextT ts).kind ≠ 0) : N (nextT ts) := by
  cases ts with
  | nil => exact absurd rfl hk
  | cons t ts => exact h t (by simp)
theorem sgn_kind {ts : List Tok} {s : List UInt8} (h : sgnT ts s = true) : (nextT ts).kind ≠ 0 := by
  unfold sgnT at h
  simp only [Bool.and_eq_true, decide_eq_true_eq] at h
  omega
theorem operGo_sgn (ts : List Tok) (lv k : Int) : ∀ (l : List (List UInt8 × Int × Int)) (i : Nat), 0 ≤ operGo ts lv k l i → ∃ o ∈ l, sgnT ts o.1 = true
  | [], i, h => by rw [operGo] at h; omega
  | o :: l, i, h => by
    rw [operGo] at h
    split at h
    · rename_i hc
      simp only [Bool.and_eq_true] at hc
      exact ⟨o, by simp, hc.2⟩
    · obtain ⟨o', ho', hs⟩ := operGo_sgn ts lv k l (i + 1) h
      exact ⟨o', by simp [ho'], hs⟩
theorem oper_kind {ts : List Tok} {lv k : Int} (h : 0 ≤ operT ts lv k) : (nextT ts).kind ≠ 0 := by
  obtain ⟨o, _, ho⟩ := operGo_sgn ts lv k opsT 0 h
  exact sgn_kind ho
theorem all_drop {N : Tok → Prop} {ts : List Tok} (h : ∀ t ∈ ts, N t) (k : Nat) : ∀ t ∈ ts.drop k, N t := fun t ht => h t (List.mem_of_mem_drop ht)
theorem all_tail {N : Tok → Prop} {ts : List Tok} (h : ∀ t ∈ ts, N t) : ∀ t ∈ ts.tail, N t := fun t ht => h t (List.mem_of_mem_tail ht)

theorem leaf_cons (N : Tok → Prop) : Cons N leafT := by
  intro b ts hN
  unfold leafT
  simp only
  by_cases h2 : (nextT ts).kind = 2
  · rw [if_pos h2]
    by_cases hf : formedB 0 (nextT ts).n [] 0 = true
    · rw [if_pos hf]
      by_cases hb : b = 0
      · rw [if_pos hb]
        exact ⟨by omega, fun j hj => by omega, Or.inl rfl⟩
      · rw [if_neg hb]
        refine ⟨by omega, by rw [show b - (b - 1) = 1 by omega, List.drop_one], fun j hj => ?_, fun hr => ?_⟩
        · obtain rfl : j = 0 := by omega
          rw [List.drop_zero]; omega
        · have := hr _ (nextT_mem hN (by omega))
          simp [numsE, numsL]; exact this
    · rw [if_neg hf]
      exact ⟨Nat.le_refl _, fun j hj => by omega, Or.inr (Or.inl rfl)⟩
  · rw [if_neg h2]
    by_cases h1 : (nextT ts).kind = 1
    · rw [if_pos h1]
      by_cases hf : formedB 1 0 (nextT ts).text 0 = true
      · rw [if_pos hf]
        by_cases hb : b = 0
        · rw [if_pos hb]
          exact ⟨by omega, fun j hj => by omega, Or.inl rfl⟩
        · rw [if_neg hb]
          refine ⟨by omega, by rw [show b - (b - 1) = 1 by omega, List.drop_one], fun j hj => ?_, fun hr => ?_⟩
          · obtain rfl : j = 0 := by omega
            rw [List.drop_zero]; omega
          · simp [numsE, numsL]
      · rw [if_neg hf]
        exact ⟨Nat.le_refl _, fun j hj => by omega, Or.inr (Or.inl rfl)⟩
    · rw [if_neg h1]
      exact ⟨Nat.le_refl _, fun j hj => by omega, Or.inr (Or.inl rfl)⟩

/-- One token that is no end, and a reading behind it. -/
theorem cons_step {ts : List Tok} {b b' : Nat} (_hb : 0 < b) (_hb' : b' ≤ b - 1) (hk : (nextT ts).kind ≠ 0) (h : ∀ j, j < b - 1 - b' → (nextT (ts.tail.drop j)).kind ≠ 0) : ∀ j, j < b - b' → (nextT (ts.drop j)).kind ≠ 0 := by
  intro j hj
  cases j with
  | zero => rw [List.drop_zero]; exact hk
  | succ j =>
    have := h j (by omega)
    rw [List.drop_tail] at this
    exact this
theorem cons_join {ts : List Tok} {b b' b'' : Nat} (h1 : b' ≤ b) (h2 : b'' ≤ b') (ha : ∀ j, j < b - b' → (nextT (ts.drop j)).kind ≠ 0) (hc : ∀ j, j < b' - b'' → (nextT ((ts.drop (b - b')).drop j)).kind ≠ 0) : ∀ j, j < b - b'' → (nextT (ts.drop j)).kind ≠ 0 := by
  intro j hj
  by_cases h : j < b - b'
  · exact ha j h
  · have := hc (j - (b - b')) (by omega)
    rw [List.drop_drop, show b - b' + (j - (b - b')) = j by omega] at this
    exact this

theorem nums_two {op : Int} {a b : Ex} (ha : numsE a) (hb : numsE b) : numsE (.mk op 0 [] [a, b]) := by
  simp only [numsE, numsL]
  exact ⟨by omega, ha, hb, trivial⟩
theorem nums_one {op : Int} {a : Ex} (ha : numsE a) : numsE (.mk op 0 [] [a]) := by
  simp only [numsE, numsL]
  exact ⟨by omega, ha, trivial⟩

/-- An operator and its right operand, behind a left one. -/
theorem join_cons {N : Tok → Prop} {F : Nat → List Tok → Res} (hF : Cons N F) (lv : Int) (e : Ex) (b : Nat) (ts : List Tok) (hN : ∀ t ∈ ts, N t) (ho : ¬ operT ts lv 2 < 0)
    (he : (∀ t, N t → -9223372036854775808 ≤ t.n ∧ t.n ≤ 9223372036854775807) → numsE e) :
    RCons N b ts (if b = 0 then .er 2 0 else match F (b - 1) ts.tail with | .er f b' => .er f b' | .ok r b' ts' => .ok (.mk (operT ts lv 2) 0 [] [e, r]) b' ts') := by
  by_cases hb : b = 0
  · rw [if_pos hb]
    exact ⟨by omega, fun j hj => by omega, Or.inl rfl⟩
  · rw [if_neg hb]
    have hk := oper_kind (ts := ts) (lv := lv) (k := 2) (by omega)
    have := hF (b - 1) ts.tail (all_tail hN)
    cases hr : F (b - 1) ts.tail with
    | er f b' =>
      rw [hr] at this
      obtain ⟨h1, h2, h3⟩ := this
      exact ⟨by omega, cons_step (by omega) h1 hk h2, h3⟩
    | ok t b' ts' =>
      rw [hr] at this
      obtain ⟨h1, h2, h3, h4⟩ := this
      refine ⟨by omega, ?_, cons_step (by omega) (by omega) hk h3, fun hn => nums_two (he hn) (h4 hn)⟩
      rw [h2, List.drop_tail]; congr 1; omega
theorem rcons_trans {N : Tok → Prop} {b b' : Nat} {ts : List Tok} {r : Res} (h1 : b' < b) (ha : ∀ j, j < b - b' → (nextT (ts.drop j)).kind ≠ 0) (h : RCons N b' (ts.drop (b - b')) r) : RCons N b ts r := by
  cases r with
  | er f b'' =>
    obtain ⟨h2, h3, h4⟩ := h
    exact ⟨by omega, cons_join (by omega) h2 ha h3, h4⟩
  | ok t b'' ts'' =>
    obtain ⟨h2, h3, h4, h5⟩ := h
    refine ⟨by omega, ?_, cons_join (by omega) (by omega) ha h4, h5⟩
    rw [h3, List.drop_drop]; congr 1; omega

theorem chainGo_cons {N : Tok → Prop} {F : Nat → List Tok → Res} (hF : Cons N F) (lv : Int) : ∀ (m : Nat) (e : Ex) (b B : Nat) (ts : List Tok), b < B → b < m → (∀ t ∈ ts, N t) →
    ((∀ t, N t → -9223372036854775808 ≤ t.n ∧ t.n ≤ 9223372036854775807) → numsE e) → ∀ (ts0 : List Tok), ts = ts0.drop (B - b) → (∀ j, j < B - b → (nextT (ts0.drop j)).kind ≠ 0) → RCons N B ts0 (chainGo F lv m e b ts)
  | 0, e, b, B, ts, hb, hm, hN, he, ts0, h0, ha => by omega
  | m + 1, e, b, B, ts, hb, hm, hN, he, ts0, h0, ha => by
    rw [chainGo]
    by_cases ho : operT ts lv 2 < 0
    · rw [if_pos ho]
      exact ⟨hb, h0, ha, he⟩
    · rw [if_neg ho]
      have hj := join_cons hF lv e b ts hN ho he
      by_cases hb0 : b = 0
      · rw [if_pos hb0] at hj ⊢
        subst h0
        exact rcons_trans hb ha hj
      · rw [if_neg hb0] at hj ⊢
        cases hr : F (b - 1) ts.tail with
        | er f b' =>
          rw [hr] at hj
          subst h0
          exact rcons_trans hb ha hj
        | ok t b' ts' =>
          rw [hr] at hj
          simp only at hj ⊢
          subst h0
          obtain ⟨h1, h2, h3, h4⟩ := rcons_trans hb ha hj
          have hj1 := hj.1
          refine chainGo_cons hF lv m _ b' B ts' h1 (by omega) ?_ h4 ts0 h2 h3
          rw [hj.2.1]
          exact all_drop hN _
theorem chain_cons {N : Tok → Prop} {F : Nat → List Tok → Res} (hF : Cons N F) (lv : Int) : Cons N (chainT F lv) := by
  intro b ts hN
  unfold chainT
  have := hF b ts hN
  cases hr : F b ts with
  | er f b' => rw [hr] at this; exact this
  | ok t b' ts' =>
    rw [hr] at this
    obtain ⟨h1, h2, h3, h4⟩ := this
    exact chainGo_cons hF lv (b' + 1) t b' b ts' h1 (by omega) (by rw [h2]; exact all_drop hN _) h4 ts h2 h3
theorem pair_cons {N : Tok → Prop} {F : Nat → List Tok → Res} (hF : Cons N F) (lv : Int) : Cons N (pairT F lv) := by
  intro b ts hN
  unfold pairT
  have := hF b ts hN
  cases hr : F b ts with
  | er f b' => rw [hr] at this; exact this
  | ok t b' ts' =>
    rw [hr] at this
    obtain ⟨h1, h2, h3, h4⟩ := this
    simp only
    by_cases ho : operT ts' lv 2 < 0
    · rw [if_pos ho]; exact ⟨h1, h2, h3, h4⟩
    · rw [if_neg ho]
      have hj := join_cons hF lv t b' ts' (by rw [h2]; exact all_drop hN _) ho h4
      subst h2
      exact rcons_trans h1 h3 hj
theorem orOf_cons {N : Tok → Prop} {U : Nat → List Tok → Res} (hU : Cons N U) : Cons N (orOf U) :=
  chain_cons (chain_cons (pair_cons (chain_cons (chain_cons hU 4) 3) 2) 1) 0
theorem unary_cons (N : Tok → Prop) : ∀ d, Cons N (unaryT d)
  | 0 => by
    intro b ts _
    exact ⟨Nat.le_refl _, fun j hj => by omega, Or.inr (Or.inr rfl)⟩
  | d + 1 => by
    intro b ts hN
    rw [unaryT]
    by_cases ho : 0 ≤ operT ts 5 1
    · rw [if_pos ho]
      by_cases hb : b = 0
      · rw [if_pos hb]; exact ⟨by omega, fun j hj => by omega, Or.inl rfl⟩
      · rw [if_neg hb]
        have hk := oper_kind ho
        have := unary_cons N d (b - 1) ts.tail (all_tail hN)
        cases hr : unaryT d (b - 1) ts.tail with
        | er f b' =>
          rw [hr] at this
          obtain ⟨h1, h2, h3⟩ := this
          exact ⟨by omega, cons_step (by omega) h1 hk h2, h3⟩
        | ok t b' ts' =>
          rw [hr] at this
          obtain ⟨h1, h2, h3, h4⟩ := this
          refine ⟨by omega, ?_, cons_step (by omega) (by omega) hk h3, fun hn => nums_one (h4 hn)⟩
          rw [h2, List.drop_tail]; congr 1; omega
    · rw [if_neg ho]
      by_cases hs : sgnT ts [40] = true
      · rw [if_pos hs]
        by_cases hb : b = 0
        · rw [if_pos hb]; exact ⟨by omega, fun j hj => by omega, Or.inl rfl⟩
        · rw [if_neg hb]
          have hk := sgn_kind hs
          have := orOf_cons (unary_cons N d) (b - 1) ts.tail (all_tail hN)
          cases hr : orOf (unaryT d) (b - 1) ts.tail with
          | er f b' =>
            rw [hr] at this
            obtain ⟨h1, h2, h3⟩ := this
            exact ⟨by omega, cons_step (by omega) h1 hk h2, h3⟩
          | ok t b' ts' =>
            rw [hr] at this
            obtain ⟨h1, h2, h3, h4⟩ := this
            have ha := cons_step (ts := ts) (b := b) (b' := b') (by omega) (by omega) hk h3
            have e2 : ts' = ts.drop (b - b') := by rw [h2, List.drop_tail]; congr 1; omega
            simp only
            by_cases hc : sgnT ts' [41] = true
            · rw [if_pos hc]
              by_cases hb' : b' = 0
              · rw [if_pos hb']
                subst hb'
                exact ⟨by omega, ha, Or.inl rfl⟩
              · rw [if_neg hb']
                refine ⟨by omega, ?_, fun j hj => ?_, h4⟩
                · rw [e2, List.tail_drop]; congr 1; omega
                · by_cases hj' : j < b - b'
                  · exact ha j hj'
                  · obtain rfl : j = b - b' := by omega
                    rw [← e2]; exact sgn_kind hc
            · rw [if_neg hc]
              exact ⟨by omega, ha, Or.inr (Or.inl rfl)⟩
      · rw [if_neg hs]
        exact leaf_cons N b ts hN
theorem take_cons (N : Tok → Prop) (ts : List Tok) (hN : ∀ t ∈ ts, N t) : RCons N 64 ts (takeT ts) := orOf_cons (unary_cons N 65) 64 ts hN
end Go.Proofs.YtinocaggponpmaaGreatDoor.Ep
