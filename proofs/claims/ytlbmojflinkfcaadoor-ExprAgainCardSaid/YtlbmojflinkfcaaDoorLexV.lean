/-
  Plainly: what is cut of a text and another one behind a line feed; a name, a number and a text in quotes by themselves.
-/
import Derived.Test.YtlbmojflinkfcaaDoorLexU
import Derived.Test.YtlbmojflinkfcaaDoorLexN
namespace Go.Proofs.YtlbmojflinkfcaaDoor.Lx

theorem takeWhile_feed {p : Ch → Bool} (x : Ch) (hx : p x = false) (ys : List Ch) : ∀ ws : List Ch, (ws ++ x :: ys).takeWhile p = ws.takeWhile p
  | [] => by simp [hx]
  | w :: ws => by
    simp only [List.cons_append, List.takeWhile_cons, takeWhile_feed x hx ys ws]
theorem word_feed (l m : List UInt8) : wordL (l ++ 10 :: m) = wordL l := by
  unfold wordL wordC
  rw [rn_feed, takeWhile_feed _ (by decide)]
theorem textGo_feed (cs : List Ch) (ds : List Ch) : ∀ n i, textGo n i (cs ++ (10, [10]) :: ds) = textGo n i cs := by
  induction cs with
  | nil => intro n i; rfl
  | cons c cs ih =>
    intro n i
    show textGo n i (c :: (cs ++ (10, [10]) :: ds)) = _
    unfold textGo
    rw [ih]
theorem two_feed (l m : List UInt8) (h : l ≠ []) : two (l ++ 10 :: m) = two l := by
  match l, h with
  | [b], _ => simp [two]
  | b :: b2 :: t, _ => rfl
theorem tok_feed (k : Int) (l m : List UInt8) (h : l ≠ []) : tokenT k (l ++ 10 :: m) = tokenT k l := by
  have hpos := List.length_pos_iff.2 h
  unfold tokenT
  by_cases c2 : k = 2
  · rw [if_pos c2, if_pos c2]; unfold nameT; rw [word_feed]
  rw [if_neg c2, if_neg c2]
  by_cases c3 : k = 3
  · rw [if_pos c3, if_pos c3]; unfold numberT; rw [word_feed]
  rw [if_neg c3, if_neg c3]
  by_cases c5 : k = 5
  · rw [if_pos c5, if_pos c5]
    unfold textT
    have hw := dec_width l h
    rw [dec_feed l m h, List.drop_append_of_le_length hw, rn_feed]
    simp only [textGo_feed]
    have hle := textGo_le' (rn (l.drop (dec l).2)) 0 (dec l).2
    rw [flat_rn, List.length_drop] at hle
    rw [List.drop_append_of_le_length hpos, List.take_append_of_le_length (by rw [List.length_drop]; omega)]
  rw [if_neg c5, if_neg c5]
  by_cases c4 : k = 4
  · rw [if_pos c4, if_pos c4]
    unfold signT
    rw [two_feed l m h]
    have : (if two l = true then 2 else 1) ≤ l.length := by
      split
      · rename_i ht
        match l, ht with
        | [b], ht => simp [two] at ht
        | b :: b2 :: t, _ => simp
      · exact hpos
    rw [List.take_append_of_le_length this]
  rw [if_neg c4, if_neg c4]

theorem drop_feed {p : Ch → Bool} (x : Ch) (hx : p x = false) (ys : List Ch) : ∀ ws : List Ch, (ws ++ x :: ys).dropWhile p = ws.dropWhile p ++ x :: ys
  | [] => by simp [hx]
  | w :: ws => by
    simp only [List.cons_append, List.dropWhile_cons]
    split
    · exact drop_feed x hx ys ws
    · rfl

/-- THE TOKENS OF A TEXT AND OF ANOTHER ONE BEHIND A LINE FEED. -/
theorem T_feed (n : Nat) (ds : List Ch) : ∀ (cs : List Ch), cs.length ≤ n → Can cs → Good cs → Can (cs ++ (10, [10]) :: ds) → ∀ (a : Nat) (acc : List Tok), acc.length ≤ 2000 →
    (∃ (e p : Int), T cs a acc = ([], e, p) ∧ e ≠ 0 ∧ T (cs ++ (10, [10]) :: ds) a acc = ([], e, p)) ∨
    (∃ ts, T cs a acc = (acc ++ ts ++ [⟨0, [], 0, ((a + cs.length : Nat) : Int)⟩], 0, 0) ∧ acc.length + ts.length ≤ 2000 ∧ T (cs ++ (10, [10]) :: ds) a acc = T ds (a + cs.length + 1) (acc ++ ts)) := by
  induction n with
  | zero =>
    intro cs hn _ _ _ a acc ha
    have : cs = [] := List.eq_nil_of_length_eq_zero (by omega)
    subst this
    exact Or.inr ⟨[], by rw [T_nil]; simp, by simpa using ha, by show T ((10, [10]) :: ds) a acc = _; rw [T_blank _ _ _ _ (by decide)]; simp⟩
  | succ n ih =>
    intro cs hn hcan hg hcf a acc ha
    match cs, hcan, hg, hcf with
    | [], _, _, _ => exact Or.inr ⟨[], by rw [T_nil]; simp, by simpa using ha, by show T ((10, [10]) :: ds) a acc = _; rw [T_blank _ _ _ _ (by decide)]; simp⟩
    | c :: cs, hcan, hg, hcf =>
      simp only [List.length_cons] at hn
      have hcf' : Can (c :: (cs ++ (10, [10]) :: ds)) := hcf
      have hfl : flat (c :: (cs ++ (10, [10]) :: ds)) = flat (c :: cs) ++ 10 :: flat ds := by simp [flat]
      have hne : flat (c :: cs) ≠ [] := by
        intro e
        have h1 := can_one hcan c (by simp)
        have := congrArg List.length e
        simp [flat] at this
        rw [this.1] at h1
        simp at h1
      show (∃ (e p : Int), T (c :: cs) a acc = ([], e, p) ∧ e ≠ 0 ∧ T (c :: (cs ++ (10, [10]) :: ds)) a acc = ([], e, p)) ∨ (∃ ts, T (c :: cs) a acc = (acc ++ ts ++ [⟨0, [], 0, ((a + (c :: cs).length : Nat) : Int)⟩], 0, 0) ∧ acc.length + ts.length ≤ 2000 ∧ T (c :: (cs ++ (10, [10]) :: ds)) a acc = T ds (a + (c :: cs).length + 1) (acc ++ ts))
      by_cases h1 : clsI c.1 = 1
      · rw [T_blank c cs a acc h1, T_blank c _ a acc h1]
        rcases ih cs (by omega) (can_tail hcan) (fun x hx => hg x (by simp [hx])) (can_tail hcf') (a + 1) acc ha with ⟨e, p, q1, q2, q3⟩ | ⟨ts, q1, q2, q3⟩
        · exact Or.inl ⟨e, p, q1, q2, q3⟩
        · refine Or.inr ⟨ts, ?_, q2, ?_⟩
          · rw [q1, show a + 1 + cs.length = a + (c :: cs).length from by simp only [List.length_cons]; omega]
          · rw [q3, show a + 1 + cs.length = a + (c :: cs).length from by simp only [List.length_cons]; omega]
      · by_cases h6 : clsI c.1 = 6
        · rw [T_hash c cs a acc hcan h6, T_hash c _ a acc hcf' h6]
          have hd : (c :: (cs ++ (10, [10]) :: ds)).dropWhile (fun c => c.1 != 10) = ((c :: cs).dropWhile fun c => c.1 != 10) ++ (10, [10]) :: ds := drop_feed (10, [10]) (by decide) ds (c :: cs)
          have ht : (c :: (cs ++ (10, [10]) :: ds)).takeWhile (fun c => c.1 != 10) = ((c :: cs).takeWhile fun c => c.1 != 10) := takeWhile_feed (10, [10]) (by decide) ds (c :: cs)
          rw [hd, ht]
          have hsp : (c :: cs) = ((c :: cs).takeWhile fun c => c.1 != 10) ++ ((c :: cs).dropWhile fun c => c.1 != 10) := List.takeWhile_append_dropWhile.symm
          have h10 : ¬ c.1 = 10 := by intro e; rw [e] at h6; revert h6; decide
          have hpos : 1 ≤ ((c :: cs).takeWhile fun c => c.1 != 10).length := by simp [h10]
          have hl : (c :: cs).length = ((c :: cs).takeWhile fun c => c.1 != 10).length + ((c :: cs).dropWhile fun c => c.1 != 10).length := by
            conv => lhs; rw [hsp]
            rw [List.length_append]
          have hcan2 : Can ((c :: cs).dropWhile fun c => c.1 != 10) := by rw [hsp] at hcan; exact can_drop hcan
          have hg2 : Good ((c :: cs).dropWhile fun c => c.1 != 10) := by rw [hsp] at hg; exact good_tail hg
          have hcf2 : Can (((c :: cs).dropWhile fun c => c.1 != 10) ++ (10, [10]) :: ds) := by
            have h := hcf'
            rw [show c :: (cs ++ (10, [10]) :: ds) = (c :: cs) ++ (10, [10]) :: ds from rfl, hsp, List.append_assoc] at h
            exact can_drop h
          clear hd ht
          generalize ((c :: cs).takeWhile fun c => c.1 != 10) = xs at *
          generalize ((c :: cs).dropWhile fun c => c.1 != 10) = ys at *
          simp only [List.length_cons] at hl
          rcases ih ys (by omega) hcan2 hg2 hcf2 (a + xs.length) acc ha with ⟨e, p, q1, q2, q3⟩ | ⟨ts, q1, q2, q3⟩
          · exact Or.inl ⟨e, p, q1, q2, q3⟩
          · refine Or.inr ⟨ts, ?_, q2, ?_⟩
            · rw [q1, show a + xs.length + ys.length = a + (c :: cs).length from by simp only [List.length_cons]; omega]
            · rw [q3, show a + xs.length + ys.length = a + (c :: cs).length from by simp only [List.length_cons]; omega]
        · have htf := tok_feed (clsI c.1) (flat (c :: cs)) (flat ds) hne
          rw [← hfl] at htf
          by_cases he : (tokenT (clsI c.1) (flat (c :: cs))).2.2 = 0
          · obtain ⟨xs, ys, hs, hz, hok, hat⟩ := tok_ok c cs hcan hg h1 h6 he
            rw [T_ok c cs xs ys a acc hcan h1 h6 hs he hz, T_ok c _ xs (ys ++ (10, [10]) :: ds) a acc hcf' h1 h6 (by rw [hs]; simp) (by rw [htf]; exact he) (by rw [htf]; exact hz), htf]
            by_cases hl : acc.length = 2000
            · rw [if_pos hl, if_pos hl]
              exact Or.inl ⟨2, a, rfl, by decide, rfl⟩
            · rw [if_neg hl, if_neg hl]
              generalize ({ (tokenT (clsI c.1) (flat (c :: cs))).1 with at_ := (a : Int) } : Tok) = t at *
              subst hs
              have hcan2 : Can ys := can_drop (can_tail hcan)
              have hg2 : Good ys := fun x hx => hg x (by simp [hx])
              have hcf2 : Can (ys ++ (10, [10]) :: ds) := by
                have h := can_tail hcf'
                rw [List.append_assoc] at h
                exact can_drop h
              simp only [List.length_append] at hn
              rcases ih ys (by omega) hcan2 hg2 hcf2 (a + 1 + xs.length) (acc ++ [t]) (by simp; omega) with ⟨e, p, q1, q2, q3⟩ | ⟨ts, q1, q2, q3⟩
              · exact Or.inl ⟨e, p, q1, q2, q3⟩
              · refine Or.inr ⟨t :: ts, ?_, ?_, ?_⟩
                · rw [q1, show a + 1 + xs.length + ys.length = a + (c :: (xs ++ ys)).length from by simp only [List.length_cons, List.length_append]; omega]
                  simp
                · simp only [List.length_append, List.length_cons, List.length_nil] at q2 ⊢; omega
                · rw [q3, show a + 1 + xs.length + ys.length = a + (c :: (xs ++ ys)).length from by simp only [List.length_cons, List.length_append]; omega]
                  simp
          · rw [T_err c cs a acc h1 h6 he, T_err c _ a acc h1 h6 (by rw [htf]; exact he), htf]
            by_cases hl : acc.length = 2000
            · rw [if_pos hl]
              exact Or.inl ⟨2, a, rfl, by decide, rfl⟩
            · rw [if_neg hl]
              exact Or.inl ⟨_, a, rfl, he, rfl⟩

/-- Tokens further on. -/
def mv (a : Nat) (ts : List Tok) : List Tok := ts.map fun t => { t with at_ := t.at_ + a }
theorem mv_length (a : Nat) (ts : List Tok) : (mv a ts).length = ts.length := by simp [mv]
theorem mv_mv (a b : Nat) (ts : List Tok) : mv a (mv b ts) = mv (b + a) ts := by
  unfold mv
  rw [List.map_map]
  apply List.map_congr_left
  intro t _
  show ({ t with at_ := t.at_ + (b : Int) + (a : Int) } : Tok) = { t with at_ := t.at_ + ((b + a : Nat) : Int) }
  congr 1
  omega

/-- Where a scan begins, and how many tokens are ahead of it, says no more than that. -/
theorem T_shift (n : Nat) : ∀ (cs : List Ch), cs.length ≤ n → Can cs → Good cs → ∀ (b a : Nat) (acc0 acc : List Tok), acc0.length ≤ acc.length → acc.length ≤ 2000 →
    (∃ (e p e' p' : Int), T cs b acc0 = ([], e, p) ∧ e ≠ 0 ∧ T cs a acc = ([], e', p') ∧ e' ≠ 0) ∨
    (∃ ts, T cs b acc0 = (acc0 ++ mv b ts ++ [⟨0, [], 0, ((b + cs.length : Nat) : Int)⟩], 0, 0) ∧ acc0.length + ts.length ≤ 2000 ∧
      ((acc.length + ts.length ≤ 2000 ∧ T cs a acc = (acc ++ mv a ts ++ [⟨0, [], 0, ((a + cs.length : Nat) : Int)⟩], 0, 0)) ∨ (2000 < acc.length + ts.length ∧ ∃ p, T cs a acc = ([], 2, p)))) := by
  induction n with
  | zero =>
    intro cs hn _ _ b a acc0 acc hl ha
    have : cs = [] := List.eq_nil_of_length_eq_zero (by omega)
    subst this
    exact Or.inr ⟨[], by rw [T_nil]; simp [mv], by simp; omega, Or.inl ⟨by simpa using ha, by rw [T_nil]; simp [mv]⟩⟩
  | succ n ih =>
    intro cs hn hcan hg b a acc0 acc hl ha
    match cs, hcan, hg with
    | [], _, _ => exact Or.inr ⟨[], by rw [T_nil]; simp [mv], by simp; omega, Or.inl ⟨by simpa using ha, by rw [T_nil]; simp [mv]⟩⟩
    | c :: cs, hcan, hg =>
      simp only [List.length_cons] at hn
      by_cases h1 : clsI c.1 = 1
      · rw [T_blank c cs b acc0 h1, T_blank c cs a acc h1]
        rcases ih cs (by omega) (can_tail hcan) (fun x hx => hg x (by simp [hx])) (b + 1) (a + 1) acc0 acc hl ha with ⟨e, p, e', p', q1, q2, q3, q4⟩ | ⟨ts, q1, q2, q3⟩
        · exact Or.inl ⟨e, p, e', p', q1, q2, q3, q4⟩
        · refine Or.inr ⟨mv 1 ts, ?_, by rw [mv_length]; exact q2, ?_⟩
          · rw [q1, mv_mv, Nat.add_comm 1 b, show b + 1 + cs.length = b + (c :: cs).length from by simp only [List.length_cons]; omega]
          · rw [mv_length, mv_mv, Nat.add_comm 1 a, show a + (c :: cs).length = a + 1 + cs.length from by simp only [List.length_cons]; omega]
            exact q3
      · by_cases h6 : clsI c.1 = 6
        · rw [T_hash c cs b acc0 hcan h6, T_hash c cs a acc hcan h6]
          have hsp : (c :: cs) = ((c :: cs).takeWhile fun c => c.1 != 10) ++ ((c :: cs).dropWhile fun c => c.1 != 10) := List.takeWhile_append_dropWhile.symm
          have h10 : ¬ c.1 = 10 := by intro e; rw [e] at h6; revert h6; decide
          have hpos : 1 ≤ ((c :: cs).takeWhile fun c => c.1 != 10).length := by simp [h10]
          have hl2 : (c :: cs).length = ((c :: cs).takeWhile fun c => c.1 != 10).length + ((c :: cs).dropWhile fun c => c.1 != 10).length := by
            conv => lhs; rw [hsp]
            rw [List.length_append]
          have hcan2 : Can ((c :: cs).dropWhile fun c => c.1 != 10) := by rw [hsp] at hcan; exact can_drop hcan
          have hg2 : Good ((c :: cs).dropWhile fun c => c.1 != 10) := by rw [hsp] at hg; exact good_tail hg
          generalize ((c :: cs).takeWhile fun c => c.1 != 10) = xs at *
          generalize ((c :: cs).dropWhile fun c => c.1 != 10) = ys at *
          simp only [List.length_cons] at hl2
          rcases ih ys (by omega) hcan2 hg2 (b + xs.length) (a + xs.length) acc0 acc hl ha with ⟨e, p, e', p', q1, q2, q3, q4⟩ | ⟨ts, q1, q2, q3⟩
          · exact Or.inl ⟨e, p, e', p', q1, q2, q3, q4⟩
          · refine Or.inr ⟨mv xs.length ts, ?_, by rw [mv_length]; exact q2, ?_⟩
            · rw [q1, mv_mv, Nat.add_comm xs.length b, show b + xs.length + ys.length = b + (c :: cs).length from by simp only [List.length_cons]; omega]
            · rw [mv_length, mv_mv, Nat.add_comm xs.length a, show a + (c :: cs).length = a + xs.length + ys.length from by simp only [List.length_cons]; omega]
              exact q3
        · by_cases he : (tokenT (clsI c.1) (flat (c :: cs))).2.2 = 0
          · obtain ⟨xs, ys, hs, hz, hok, hat⟩ := tok_ok c cs hcan hg h1 h6 he
            rw [T_ok c cs xs ys b acc0 hcan h1 h6 hs he hz, T_ok c cs xs ys a acc hcan h1 h6 hs he hz]
            generalize (tokenT (clsI c.1) (flat (c :: cs))).1 = t at *
            subst hs
            have hcan2 : Can ys := can_drop (can_tail hcan)
            have hg2 : Good ys := fun x hx => hg x (by simp [hx])
            simp only [List.length_append] at hn
            by_cases hl0 : acc0.length = 2000
            · rw [if_pos hl0, if_pos (by omega)]
              exact Or.inl ⟨2, b, 2, a, rfl, by decide, rfl, by decide⟩
            · rw [if_neg hl0]
              by_cases hl1 : acc.length = 2000
              · rw [if_pos hl1]
                -- the first scan may be right; the second one has too many tokens
                rcases ih ys (by omega) hcan2 hg2 (b + 1 + xs.length) (b + 1 + xs.length) (acc0 ++ [{ t with at_ := (b : Int) }]) (acc0 ++ [{ t with at_ := (b : Int) }]) (Nat.le_refl _) (by simp; omega) with ⟨e, p, e', p', q1, q2, q3, q4⟩ | ⟨ts, q1, q2, q3⟩
                · exact Or.inl ⟨e, p, 2, a, q1, q2, rfl, by decide⟩
                · refine Or.inr ⟨{ t with at_ := 0 } :: mv (1 + xs.length) ts, ?_, ?_, Or.inr ⟨by simp; omega, a, rfl⟩⟩
                  · rw [q1, show b + (c :: (xs ++ ys)).length = b + 1 + xs.length + ys.length from by simp only [List.length_cons, List.length_append]; omega]
                    rw [show mv b ({ t with at_ := 0 } :: mv (1 + xs.length) ts) = { t with at_ := (0 : Int) + (b : Int) } :: mv b (mv (1 + xs.length) ts) from rfl, mv_mv, Int.zero_add, show 1 + xs.length + b = b + 1 + xs.length from by omega]
                    simp
                  · simp only [List.length_append, List.length_cons, List.length_nil, mv_length] at q2 ⊢; omega
              · rw [if_neg hl1]
                rcases ih ys (by omega) hcan2 hg2 (b + 1 + xs.length) (a + 1 + xs.length) (acc0 ++ [{ t with at_ := (b : Int) }]) (acc ++ [{ t with at_ := (a : Int) }]) (by simp; omega) (by simp; omega) with ⟨e, p, e', p', q1, q2, q3, q4⟩ | ⟨ts, q1, q2, q3⟩
                · exact Or.inl ⟨e, p, e', p', q1, q2, q3, q4⟩
                · refine Or.inr ⟨{ t with at_ := 0 } :: mv (1 + xs.length) ts, ?_, ?_, ?_⟩
                  · rw [q1, show b + (c :: (xs ++ ys)).length = b + 1 + xs.length + ys.length from by simp only [List.length_cons, List.length_append]; omega]
                    rw [show mv b ({ t with at_ := 0 } :: mv (1 + xs.length) ts) = { t with at_ := (0 : Int) + (b : Int) } :: mv b (mv (1 + xs.length) ts) from rfl, mv_mv, Int.zero_add, show 1 + xs.length + b = b + 1 + xs.length from by omega]
                    simp
                  · simp only [List.length_append, List.length_cons, List.length_nil, mv_length] at q2 ⊢; omega
                  · rcases q3 with ⟨q3, q4⟩ | ⟨q3, p, q4⟩
                    · refine Or.inl ⟨?_, ?_⟩
                      · simp only [List.length_append, List.length_cons, List.length_nil, mv_length] at q3 ⊢; omega
                      · rw [q4, show a + (c :: (xs ++ ys)).length = a + 1 + xs.length + ys.length from by simp only [List.length_cons, List.length_append]; omega]
                        rw [show mv a ({ t with at_ := 0 } :: mv (1 + xs.length) ts) = { t with at_ := (0 : Int) + (a : Int) } :: mv a (mv (1 + xs.length) ts) from rfl, mv_mv, Int.zero_add, show 1 + xs.length + a = a + 1 + xs.length from by omega]
                        simp
                    · refine Or.inr ⟨?_, p, q4⟩
                      simp only [List.length_append, List.length_cons, List.length_nil, mv_length] at q3 ⊢; omega
          · rw [T_err c cs b acc0 h1 h6 he, T_err c cs a acc h1 h6 he]
            refine Or.inl ?_
            by_cases hl0 : acc0.length = 2000
            · rw [if_pos hl0, if_pos (by omega)]
              exact ⟨2, b, 2, a, rfl, by decide, rfl, by decide⟩
            · rw [if_neg hl0]
              by_cases hl1 : acc.length = 2000
              · rw [if_pos hl1]
                exact ⟨_, b, 2, a, rfl, he, rfl, by decide⟩
              · rw [if_neg hl1]
                exact ⟨_, b, _, a, rfl, he, rfl, he⟩

/-- WHAT IS CUT OF TWO TEXTS WITH A LINE FEED BETWEEN. -/
theorem cut_join (s t : List UInt8) (hs : s.length ≤ 2000) (ht : t.length ≤ 2000) :
    (((cutL s).2.1 ≠ 0 ∨ (cutL t).2.1 ≠ 0) ∧ (cutL (s ++ 10 :: t)).2.1 ≠ 0) ∨
    (∃ ts us, cutL s = (ts ++ [⟨0, [], 0, ((rn s).length : Int)⟩], 0, 0) ∧ cutL t = (us ++ [⟨0, [], 0, ((rn t).length : Int)⟩], 0, 0) ∧
      ((ts.length + us.length ≤ 2000 ∧ cutL (s ++ 10 :: t) = (ts ++ mv ((rn s).length + 1) us ++ [⟨0, [], 0, (((rn s).length + 1 + (rn t).length : Nat) : Int)⟩], 0, 0)) ∨ (2000 < ts.length + us.length ∧ ∃ p, cutL (s ++ 10 :: t) = ([], 2, p)))) := by
  have hlen : (s ++ 10 :: t).length = s.length + t.length + 1 := by simp; omega
  by_cases hg : Good (rn s) ∧ Good (rn t)
  · obtain ⟨hgs, hgt⟩ := hg
    have es : cutL s = T (rn s) 0 [] := by unfold cutL; rw [if_neg (by omega), (badAt_none _ _).2 hgs]; rfl
    have et : cutL t = T (rn t) 0 [] := by unfold cutL; rw [if_neg (by omega), (badAt_none _ _).2 hgt]; rfl
    have ej : cutL (s ++ 10 :: t) = T (rn s ++ (10, [10]) :: rn t) 0 [] := by
      unfold cutL
      rw [if_neg (by omega), (badAt_none _ _).2, ← rn_feed]
      · rfl
      · rw [rn_feed]
        intro c hc
        rcases List.mem_append.1 hc with hc | hc
        · exact hgs c hc
        · rcases List.mem_cons.1 hc with rfl | hc
          · rfl
          · exact hgt c hc
    rw [es, et, ej]
    have hcf : Can (rn s ++ (10, [10]) :: rn t) := by rw [← rn_feed]; exact can_rn _
    rcases T_feed _ (rn t) (rn s) (Nat.le_refl _) (can_rn s) hgs hcf 0 [] (by simp) with ⟨e, p, q1, q2, q3⟩ | ⟨ts, q1, q2, q3⟩
    · exact Or.inl ⟨Or.inl (by rw [q1]; exact q2), by rw [q3]; exact q2⟩
    · rw [q1, q3]
      simp only [List.nil_append, Nat.zero_add, List.length_nil] at q2 ⊢
      rcases T_shift _ (rn t) (Nat.le_refl _) (can_rn t) hgt 0 ((rn s).length + 1) [] ts (by simp) q2 with ⟨e, p, e', p', r1, r2, r3, r4⟩ | ⟨us, r1, r2, r3⟩
      · exact Or.inl ⟨Or.inr (by rw [r1]; exact r2), by rw [r3]; exact r4⟩
      · refine Or.inr ⟨ts, us, rfl, ?_, ?_⟩
        · rw [r1]
          have : mv 0 us = us := by unfold mv; simp
          rw [this]; simp
        · rcases r3 with ⟨r3, r4⟩ | ⟨r3, p, r4⟩
          · exact Or.inl ⟨r3, r4⟩
          · exact Or.inr ⟨r3, p, r4⟩
  · refine Or.inl ?_
    have hbad : ∀ l : List UInt8, l.length ≤ 8192 → ¬ Good (rn l) → (cutL l).2.1 ≠ 0 := by
      intro l hl hb
      unfold cutL
      rw [if_neg (by omega)]
      cases hq : badAt 0 (rn l) with
      | none => exact absurd ((badAt_none _ _).1 hq) hb
      | some a => exact (by decide : (10 : Int) ≠ 0)
    refine ⟨?_, hbad _ (by omega) fun h => hg ?_⟩
    · by_cases hgs : Good (rn s)
      · exact Or.inr (hbad t (by omega) fun h => hg ⟨hgs, h⟩)
      · exact Or.inl (hbad s (by omega) hgs)
    · rw [rn_feed] at h
      exact ⟨fun c hc => h c (by simp [hc]), fun c hc => h c (by simp [hc])⟩
end Go.Proofs.YtlbmojflinkfcaaDoor.Lx
