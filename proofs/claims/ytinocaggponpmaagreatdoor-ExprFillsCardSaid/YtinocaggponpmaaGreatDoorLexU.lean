/-
  What a cut text's tokens are: their places, that they are read again, what stands behind a line feed.
-/
import Derived.Test.YtinocaggponpmaaGreatDoorLexT
namespace Go.Proofs.YtinocaggponpmaaGreatDoor.Lx

theorem T_ok (c : Ch) (cs xs ys : List Ch) (a : Nat) (acc : List Tok) (hcan : Can (c :: cs)) (h1 : clsI c.1 ≠ 1) (h6 : clsI c.1 ≠ 6) (hs : cs = xs ++ ys)
    (he : (tokenT (clsI c.1) (flat (c :: cs))).2.2 = 0) (hz : (tokenT (clsI c.1) (flat (c :: cs))).2.1 = (flat (c :: xs)).length) :
    T (c :: cs) a acc = if acc.length = 2000 then ([], 2, (a : Int)) else T ys (a + 1 + xs.length) (acc ++ [{ (tokenT (clsI c.1) (flat (c :: cs))).1 with at_ := a }]) := by
  rw [T_tok c cs a acc h1 h6]
  by_cases hl : acc.length = 2000
  · rw [if_pos hl, if_pos hl]
  · rw [if_neg hl, if_neg hl, if_neg (by simp [he]), hz]
    have hf : (flat (c :: xs)).length = c.2.length + (flat xs).length := by simp [flat]
    generalize hT : ({ (tokenT (clsI c.1) (flat (c :: cs))).1 with at_ := (a : Int) } : Tok) = t
    rw [hf, hs, tokGo_skip xs ys _ _ _ (fun x hx => can_one hcan x (by rw [hs]; simp [hx]))]
theorem T_err (c : Ch) (cs : List Ch) (a : Nat) (acc : List Tok) (h1 : clsI c.1 ≠ 1) (h6 : clsI c.1 ≠ 6) (he : (tokenT (clsI c.1) (flat (c :: cs))).2.2 ≠ 0) :
    T (c :: cs) a acc = if acc.length = 2000 then ([], 2, (a : Int)) else ([], (tokenT (clsI c.1) (flat (c :: cs))).2.2, (a : Int)) := by
  rw [T_tok c cs a acc h1 h6, if_pos he]

theorem textGo_le' (cs : List Ch) : ∀ n i, (textGo n i cs).2 ≤ i + (flat cs).length := by
  induction cs with
  | nil => intro n i; simp [textGo]
  | cons c cs ih =>
    intro n i
    unfold textGo
    have : (flat (c :: cs)).length = c.2.length + (flat cs).length := by simp [flat]
    split
    · split <;> simp
    · split
      · simp
      · have := ih (n + 1) (i + c.2.length); omega

def Toks : Nat → Nat → List Tok → Prop
  | _, _, [] => True
  | lo, hi, t :: ts => ∃ a : Nat, t.at_ = a ∧ lo ≤ a ∧ a < hi ∧ (∃ c xs, TokOK t c xs) ∧ Toks (a + 1) hi ts
def srcs : List Tok → Nat
  | [] => 0
  | t :: ts => (src t).length + srcs ts
theorem Toks.less {ts : List Tok} : ∀ {lo lo' hi : Nat}, Toks lo hi ts → lo' ≤ lo → Toks lo' hi ts := by
  cases ts with
  | nil => intro _ _ _ _ _; trivial
  | cons t ts =>
    rintro lo lo' hi ⟨a, h1, h2, h3, h4, h5⟩ hl
    exact ⟨a, h1, by omega, h3, h4, h5⟩
theorem TokOK.at {t : Tok} {c : Ch} {xs : List Ch} (h : TokOK t c xs) (a : Int) : TokOK { t with at_ := a } c xs :=
  ⟨h.firm, h.good, h.not1, h.not6, h.again, h.kind, h.text, h.src_⟩
theorem good_tail {xs ys : List Ch} (h : Good (xs ++ ys)) : Good ys := fun c hc => h c (by simp [hc])

theorem T_run (n : Nat) : ∀ (cs : List Ch), cs.length ≤ n → Can cs → Good cs → ∀ (a : Nat) (acc : List Tok), acc.length ≤ 2000 →
    (∃ (e p : Int), T cs a acc = ([], e, p) ∧ e ≠ 0 ∧ (a : Int) ≤ p ∧ p ≤ (a + cs.length : Nat)) ∨
    (∃ ts, T cs a acc = (acc ++ ts ++ [⟨0, [], 0, ((a + cs.length : Nat) : Int)⟩], 0, 0) ∧ Toks a (a + cs.length) ts ∧ acc.length + ts.length ≤ 2000 ∧ srcs ts ≤ (flat cs).length ∧ ts.length ≤ cs.length) := by
  induction n with
  | zero =>
    intro cs hn _ _ a acc ha
    have : cs = [] := List.eq_nil_of_length_eq_zero (by omega)
    subst this
    exact Or.inr ⟨[], by rw [T_nil]; simp, trivial, by simpa using ha, by simp [srcs], by simp⟩
  | succ n ih =>
    intro cs hn hcan hg a acc ha
    match cs, hcan, hg with
    | [], _, _ => exact Or.inr ⟨[], by rw [T_nil]; simp, trivial, by simpa using ha, by simp [srcs], by simp⟩
    | c :: cs, hcan, hg =>
      simp only [List.length_cons] at hn
      by_cases h1 : clsI c.1 = 1
      · rw [T_blank c cs a acc h1]
        have hfl : (flat (c :: cs)).length = c.2.length + (flat cs).length := by simp [flat]
        rcases ih cs (by omega) (can_tail hcan) (fun x hx => hg x (by simp [hx])) (a + 1) acc ha with ⟨e, p, q1, q2, q3, q4⟩ | ⟨ts, q1, q2, q3, q4, q5⟩
        · exact Or.inl ⟨e, p, q1, q2, by omega, by simp only [List.length_cons]; omega⟩
        · refine Or.inr ⟨ts, ?_, ?_, q3, by omega, by simp only [List.length_cons]; omega⟩
          · rw [q1, show a + 1 + cs.length = a + (c :: cs).length from by simp only [List.length_cons]; omega]
          · rw [show a + (c :: cs).length = a + 1 + cs.length from by simp only [List.length_cons]; omega]
            exact q2.less (by omega)
      · by_cases h6 : clsI c.1 = 6
        · rw [T_hash c cs a acc hcan h6]
          have hsp : (c :: cs) = ((c :: cs).takeWhile fun c => c.1 != 10) ++ ((c :: cs).dropWhile fun c => c.1 != 10) := List.takeWhile_append_dropWhile.symm
          have h10 : ¬ c.1 = 10 := by intro e; rw [e] at h6; revert h6; decide
          have hpos : 1 ≤ ((c :: cs).takeWhile fun c => c.1 != 10).length := by simp [h10]
          have hl : (c :: cs).length = ((c :: cs).takeWhile fun c => c.1 != 10).length + ((c :: cs).dropWhile fun c => c.1 != 10).length := by
            conv => lhs; rw [hsp]
            rw [List.length_append]
          have hfl : (flat (c :: cs)).length = (flat ((c :: cs).takeWhile fun c => c.1 != 10)).length + (flat ((c :: cs).dropWhile fun c => c.1 != 10)).length := by
            conv => lhs; rw [hsp]
            rw [flat_append, List.length_append]
          have hcan2 : Can ((c :: cs).dropWhile fun c => c.1 != 10) := by rw [hsp] at hcan; exact can_drop hcan
          have hg2 : Good ((c :: cs).dropWhile fun c => c.1 != 10) := by rw [hsp] at hg; exact good_tail hg
          generalize ((c :: cs).takeWhile fun c => c.1 != 10) = xs at *
          generalize ((c :: cs).dropWhile fun c => c.1 != 10) = ys at *
          simp only [List.length_cons] at hl
          rcases ih ys (by omega) hcan2 hg2 (a + xs.length) acc ha with ⟨e, p, q1, q2, q3, q4⟩ | ⟨ts, q1, q2, q3, q4, q5⟩
          · exact Or.inl ⟨e, p, q1, q2, by omega, by simp only [List.length_cons]; omega⟩
          · refine Or.inr ⟨ts, ?_, ?_, q3, by omega, by simp only [List.length_cons]; omega⟩
            · rw [q1, show a + xs.length + ys.length = a + (c :: cs).length from by simp only [List.length_cons]; omega]
            · rw [show a + (c :: cs).length = a + xs.length + ys.length from by simp only [List.length_cons]; omega]
              exact q2.less (by omega)
        · by_cases he : (tokenT (clsI c.1) (flat (c :: cs))).2.2 = 0
          · obtain ⟨xs, ys, hs, hz, hok, hat⟩ := tok_ok c cs hcan hg h1 h6 he
            rw [T_ok c cs xs ys a acc hcan h1 h6 hs he hz]
            by_cases hl : acc.length = 2000
            · rw [if_pos hl]
              exact Or.inl ⟨2, a, rfl, by decide, by omega, by simp only [List.length_cons]; omega⟩
            · rw [if_neg hl]
              have hok2 := hok.at (a : Int)
              have hsrc := hok2.src_
              have hta : ({ (tokenT (clsI c.1) (flat (c :: cs))).1 with at_ := (a : Int) } : Tok).at_ = (a : Int) := rfl
              generalize ({ (tokenT (clsI c.1) (flat (c :: cs))).1 with at_ := (a : Int) } : Tok) = t at *
              subst hs
              have hcan2 : Can ys := can_drop (can_tail hcan)
              have hg2 : Good ys := fun x hx => hg x (by simp [hx])
              have hfl : (flat (c :: (xs ++ ys))).length = (flat (c :: xs)).length + (flat ys).length := by simp [flat]; omega
              simp only [List.length_append] at hn
              rcases ih ys (by omega) hcan2 hg2 (a + 1 + xs.length) (acc ++ [t]) (by simp; omega) with ⟨e, p, q1, q2, q3, q4⟩ | ⟨ts, q1, q2, q3, q4, q5⟩
              · exact Or.inl ⟨e, p, q1, q2, by omega, by simp only [List.length_cons, List.length_append]; omega⟩
              · refine Or.inr ⟨t :: ts, ?_, ?_, ?_, ?_, ?_⟩
                · rw [q1, show a + 1 + xs.length + ys.length = a + (c :: (xs ++ ys)).length from by simp only [List.length_cons, List.length_append]; omega]
                  simp
                · refine ⟨a, hta, Nat.le_refl _, by simp only [List.length_cons]; omega, ⟨c, xs, hok2⟩, ?_⟩
                  rw [show a + (c :: (xs ++ ys)).length = a + 1 + xs.length + ys.length from by simp only [List.length_cons, List.length_append]; omega]
                  exact q2.less (by omega)
                · simp only [List.length_append, List.length_cons, List.length_nil] at q3 ⊢; omega
                · simp only [srcs]; rw [hsrc]; omega
                · simp only [List.length_cons, List.length_append]; omega
          · rw [T_err c cs a acc h1 h6 he]
            by_cases hl : acc.length = 2000
            · rw [if_pos hl]
              exact Or.inl ⟨2, a, rfl, by decide, by omega, by simp only [List.length_cons]; omega⟩
            · rw [if_neg hl]
              exact Or.inl ⟨_, a, rfl, he, by omega, by simp only [List.length_cons]; omega⟩

theorem rn_len (l : List UInt8) : (rn l).length ≤ l.length := by
  have h1 := rn_one l
  have h2 : ∀ cs : List Ch, (∀ c ∈ cs, 1 ≤ c.2.length) → cs.length ≤ (flat cs).length := by
    intro cs
    induction cs with
    | nil => intro _; simp
    | cons c cs ih =>
      intro h
      have h3 := ih (fun x hx => h x (by simp [hx]))
      have h4 := h c (by simp)
      have h5 : (flat (c :: cs)).length = c.2.length + (flat cs).length := by simp [flat]
      simp only [List.length_cons]
      omega
  have := h2 _ h1
  rwa [flat_rn] at this
theorem badAt_le (cs : List Ch) : ∀ k a, badAt k cs = some a → a < k + cs.length := by
  induction cs with
  | nil => intro k a h; simp [badAt] at h
  | cons c cs ih =>
    intro k a h
    unfold badAt at h
    split at h
    · simp at h; simp; omega
    · have := ih _ _ h; simp; omega

/-- WHAT A CUT COMES TO: an error and a place within the text, or tokens whose places rise, and the end. -/
theorem cut_run (l : List UInt8) (hl : l.length ≤ 8192) :
    (∃ (e p : Int), cutL l = ([], e, p) ∧ e ≠ 0 ∧ 0 ≤ p ∧ p ≤ l.length) ∨
    (∃ ts, cutL l = (ts ++ [⟨0, [], 0, ((rn l).length : Int)⟩], 0, 0) ∧ Toks 0 (rn l).length ts ∧ ts.length ≤ 2000 ∧ srcs ts ≤ l.length ∧ ts.length ≤ (rn l).length ∧ Good (rn l)) := by
  have hrl := rn_len l
  unfold cutL
  rw [if_neg (by omega)]
  cases hb : badAt 0 (rn l) with
  | some a =>
    have := badAt_le _ _ _ hb
    exact Or.inl ⟨10, a, rfl, by decide, by omega, by omega⟩
  | none =>
    have hg := (badAt_none _ _).1 hb
    show _ ∨ _
    rcases T_run _ (rn l) (Nat.le_refl _) (can_rn l) hg 0 [] (by simp) with ⟨e, p, q1, q2, q3, q4⟩ | ⟨ts, q1, q2, q3, q4, q5⟩
    · exact Or.inl ⟨e, p, q1, q2, by omega, by omega⟩
    · refine Or.inr ⟨ts, ?_, ?_, by simpa using q3, ?_, q5, hg⟩
      · show T (rn l) 0 [] = _
        rw [q1]; simp
      · simpa using q2
      · rwa [flat_rn] at q4

/-- Tokens as a text, with a blank behind each. -/
def joinedL (ts : List Tok) : List UInt8 := ts.flatMap fun t => src t ++ [32]
theorem joinedL_cons (t : Tok) (ts : List Tok) : joinedL (t :: ts) = src t ++ 32 :: joinedL ts := by simp [joinedL]
def Like (t t' : Tok) : Prop := t.kind = t'.kind ∧ t.text = t'.text ∧ t.n = t'.n
def Likes : List Tok → List Tok → Prop
  | [], [] => True
  | t :: ts, u :: us => Like t u ∧ Likes ts us
  | _, _ => False
theorem Likes.length {ts : List Tok} : ∀ {us : List Tok}, Likes ts us → us.length = ts.length := by
  induction ts with
  | nil => intro us h; cases us with | nil => rfl | cons => cases h
  | cons t ts ih => intro us h; cases us with | nil => cases h | cons u us => simp only [List.length_cons]; rw [ih h.2]
theorem Likes.append {ts : List Tok} : ∀ {us ts' us' : List Tok}, Likes ts us → Likes ts' us' → Likes (ts ++ ts') (us ++ us') := by
  induction ts with
  | nil => intro us ts' us' h h'; cases us with | nil => exact h' | cons => cases h
  | cons t ts ih => intro us ts' us' h h'; cases us with | nil => cases h | cons u us => exact ⟨h.1, ih h.2 h'⟩

theorem T_again (ts : List Tok) : ∀ (lo hi : Nat), Toks lo hi ts → ∀ (a : Nat) (acc : List Tok), acc.length + ts.length ≤ 2000 →
    ∃ us b, T (rn (joinedL ts ++ [32])) a acc = (acc ++ us ++ [⟨0, [], 0, b⟩], 0, 0) ∧ Likes ts us := by
  induction ts with
  | nil =>
    intro lo hi _ a acc _
    refine ⟨[], ((a + 1 : Nat) : Int), ?_, trivial⟩
    show T (rn [32]) a acc = _
    rw [rn_ascii 32 [] (by decide), T_blank _ _ _ _ (by decide), rn_nil, T_nil]
    simp
  | cons t ts ih =>
    rintro lo hi ⟨p, h1, h2, h3, ⟨c, xs, hok⟩, h5⟩ a acc hlen
    simp only [List.length_cons] at hlen
    have hj : joinedL (t :: ts) ++ [32] = flat (c :: xs) ++ 32 :: (joinedL ts ++ [32]) := by
      rw [joinedL_cons, hok.src_]; simp
    have hrn : rn (joinedL (t :: ts) ++ [32]) = c :: (xs ++ (32, [32]) :: rn (joinedL ts ++ [32])) := by
      rw [hj, rn_blank _ hok.firm 32 (by decide)]; rfl
    have hcan : Can (c :: (xs ++ (32, [32]) :: rn (joinedL ts ++ [32]))) := by rw [← hrn]; exact can_rn _
    have hfl : flat (c :: (xs ++ (32, [32]) :: rn (joinedL ts ++ [32]))) = flat (c :: xs) ++ 32 :: (joinedL ts ++ [32]) := by
      rw [← hrn, flat_rn, hj]
    have hag := hok.again (joinedL ts ++ [32])
    rw [hrn, T_ok c _ xs ((32, [32]) :: rn (joinedL ts ++ [32])) a acc hcan hok.not1 hok.not6 rfl (by rw [hfl, hag]) (by rw [hfl, hag]), if_neg (by omega), T_blank _ _ _ _ (by decide), hfl, hag]
    obtain ⟨us, b, q1, q2⟩ := ih _ _ h5 (a + 1 + xs.length + 1) (acc ++ [{ t with at_ := (a : Int) }]) (by simp; omega)
    exact ⟨{ t with at_ := (a : Int) } :: us, b, by rw [q1]; simp, ⟨rfl, rfl, rfl⟩, q2⟩

theorem joined_len (ts : List Tok) : (joinedL ts).length = srcs ts + ts.length := by
  induction ts with
  | nil => rfl
  | cons t ts ih => rw [joinedL_cons]; simp only [List.length_append, List.length_cons, srcs, ih]; omega
theorem joined_good (ts : List Tok) : ∀ (lo hi : Nat), Toks lo hi ts → Good (rn (joinedL ts ++ [32])) := by
  induction ts with
  | nil =>
    intro lo hi _ c hc
    rw [show joinedL [] ++ [32] = [32] from rfl, rn_ascii 32 [] (by decide)] at hc
    simp [rn_nil] at hc
    rw [hc]; rfl
  | cons t ts ih =>
    rintro lo hi ⟨p, h1, h2, h3, ⟨c, xs, hok⟩, h5⟩
    have hj : joinedL (t :: ts) ++ [32] = flat (c :: xs) ++ 32 :: (joinedL ts ++ [32]) := by
      rw [joinedL_cons, hok.src_]; simp
    rw [hj, rn_blank _ hok.firm 32 (by decide)]
    intro x hx
    rcases List.mem_append.1 hx with hx | hx
    · exact hok.good x hx
    · rcases List.mem_cons.1 hx with rfl | hx
      · rfl
      · exact ih _ _ h5 x hx
/-- THE CUT, WRITTEN WITH BLANKS, IS CUT TO THE SAME TOKENS. -/
theorem cut_again (ts : List Tok) (hi : Nat) (h : Toks 0 hi ts) (hl : ts.length ≤ 2000) (hs : srcs ts + ts.length + 1 ≤ 8192) :
    ∃ us b, cutL (joinedL ts ++ [32]) = (us ++ [⟨0, [], 0, b⟩], 0, 0) ∧ Likes ts us := by
  unfold cutL
  have hlen : (joinedL ts ++ [32]).length = srcs ts + ts.length + 1 := by simp [joined_len]
  rw [if_neg (by omega), (badAt_none _ _).2 (joined_good ts 0 hi h)]
  obtain ⟨us, b, q1, q2⟩ := T_again ts 0 hi h 0 [] (by simpa using hl)
  exact ⟨us, b, by rw [show tokensL (joinedL ts ++ [32]) = T (rn (joinedL ts ++ [32])) 0 [] from rfl, q1]; simp, q2⟩
end Go.Proofs.YtinocaggponpmaaGreatDoor.Lx
