/-
  Plain facts: the tokens of a text are names, numbers, texts and signs; what Parse comes to.
-/
import Derived.Test.YtinocaggponpmaaGreatDoorExP1
import Derived.Test.YtinocaggponpmaaGreatDoorLexU
namespace Go.Proofs.YtinocaggponpmaaGreatDoor.Ep
open Lx

theorem numGo_bd : ∀ (cs : List (Nat × List UInt8)) (n z : Int), 0 ≤ n → n ≤ 9223372036854775807 → numGo n cs = some z → 0 ≤ z ∧ z ≤ 9223372036854775807
  | [], n, z, h0, h1, h => by rw [numGo] at h; injection h with h; omega
  | c :: cs, n, z, h0, h1, h => by
    rw [numGo] at h
    split at h
    · cases h
    · rename_i hd
      split at h
      · cases h
      · rename_i hn
        have hd' : 48 ≤ (c.1 : Int) ∧ (c.1 : Int) ≤ 57 := by
          unfold digitI at hd; simpa using hd
        exact numGo_bd cs _ z (by omega) (by omega) h
theorem numberL_bd (l : List UInt8) (z : Int) (h : numberL l = some z) : 0 ≤ z ∧ z ≤ 9223372036854775807 := by
  unfold numberL at h
  split at h
  · cases h
  · exact numGo_bd _ _ _ (by omega) (by omega) h

/-- What a token of a text is. -/
def Fine (t : Tok) : Prop :=
  (t.kind = 0 ∧ t.n = 0 ∧ t.text = []) ∨ (t.kind = 1 ∧ t.n = 0 ∧ nameB t.text = true) ∨ (t.kind = 2 ∧ 0 ≤ t.n ∧ t.n ≤ 9223372036854775807 ∧ numberL t.text = some t.n) ∨ (t.kind = 3 ∧ t.n = 0) ∨ (t.kind = 4 ∧ t.n = 0)
theorem Fine.n {t : Tok} (h : Fine t) : -9223372036854775808 ≤ t.n ∧ t.n ≤ 9223372036854775807 := by
  rcases h with h | h | h | h | h <;> omega
theorem token_fine (c : Int) (l : List UInt8) (a : Int) (h : (tokenT c l).2.2 = 0) : Fine { (tokenT c l).1 with at_ := a } := by
  unfold tokenT at h ⊢
  by_cases h2 : c = 2
  · rw [if_pos h2] at h ⊢
    unfold nameT at h ⊢
    split at h
    · rename_i hn
      rw [if_pos hn]
      exact Or.inr (Or.inl ⟨rfl, rfl, hn⟩)
    · cases h
  · rw [if_neg h2] at h ⊢
    by_cases h3 : c = 3
    · rw [if_pos h3] at h ⊢
      unfold numberT at h ⊢
      cases hn : numberL (wordL l) with
      | none => rw [hn] at h; cases h
      | some n =>
        have := numberL_bd _ _ hn
        exact Or.inr (Or.inr (Or.inl ⟨rfl, this.1, this.2, hn⟩))
    · rw [if_neg h3] at h ⊢
      by_cases h5 : c = 5
      · rw [if_pos h5] at h ⊢
        unfold textT at h ⊢
        simp only at h ⊢
        split at h
        · rename_i hx
          rw [if_pos hx]
          exact Or.inr (Or.inr (Or.inr (Or.inl ⟨rfl, rfl⟩)))
        · rename_i hx
          exact absurd h hx
      · rw [if_neg h5] at h ⊢
        by_cases h4 : c = 4
        · rw [if_pos h4]
          exact Or.inr (Or.inr (Or.inr (Or.inr ⟨rfl, rfl⟩)))
        · rw [if_neg h4] at h; cases h
theorem tokGo_fine : ∀ (cs : List (Nat × List UInt8)) (p a next : Nat) (acc : List Tok), (∀ t ∈ acc, Fine t) → ∀ t ∈ (tokGo cs p a next acc).1, Fine t
  | [], p, a, next, acc, h, t, ht => by
    rw [tokGo] at ht
    simp only [List.mem_append, List.mem_singleton] at ht
    rcases ht with ht | rfl
    · exact h t ht
    · exact Or.inl ⟨rfl, rfl, rfl⟩
  | c :: cs, p, a, next, acc, h, t, ht => by
    rw [tokGo] at ht
    split at ht
    · exact tokGo_fine cs _ _ _ _ h t ht
    · split at ht
      · exact tokGo_fine cs _ _ _ _ h t ht
      · split at ht
        · cases ht
        · split at ht
          · cases ht
          · rename_i he
            refine tokGo_fine cs _ _ _ _ (fun u hu => ?_) t ht
            simp only [List.mem_append, List.mem_singleton] at hu
            rcases hu with hu | rfl
            · exact h u hu
            · exact token_fine _ _ _ (by simpa using he)
theorem cut_fine (l : List UInt8) : ∀ t ∈ (cutL l).1, Fine t := by
  unfold cutL
  split
  · intro t ht; cases ht
  · split
    · intro t ht; cases ht
    · exact tokGo_fine _ _ _ _ _ (by intro t ht; cases ht)

/-- What Parse comes to: a tree or none, an error, a place. -/
def parseP (s : List UInt8) : Option Ex × Int × Int :=
  if (cutL s).2.1 ≠ 0 then (none, (cutL s).2.1, (cutL s).2.2) else match takeT (cutL s).1 with
    | .er f b' => (none, f, ((cutL s).1.getD (64 - b') endTok).at_)
    | .ok t b' ts => if (nextT ts).kind ≠ 0 then (none, 11, ((cutL s).1.getD (64 - b') endTok).at_) else (some t, 0, 0)

theorem getD_next (L : List Tok) (k : Nat) : L.getD k endTok = nextT (L.drop k) := by
  unfold nextT
  rw [List.headD_eq_head?_getD, List.head?_drop, List.getD_eq_getElem?_getD]
/-- No end is taken: so a place behind what was taken is one of the tokens. -/
theorem taken_lt (L : List Tok) (ts : List Tok) (p : Int) (h : L = ts ++ [⟨0, [], 0, p⟩]) (k : Nat) (hk : ∀ j, j < k → (nextT (L.drop j)).kind ≠ 0) : k < L.length := by
  by_cases hc : k < L.length
  · exact hc
  · have hl : L.length = ts.length + 1 := by rw [h]; simp
    have := hk ts.length (by omega)
    rw [← getD_next, h] at this
    simp at this
end Go.Proofs.YtinocaggponpmaaGreatDoor.Ep
