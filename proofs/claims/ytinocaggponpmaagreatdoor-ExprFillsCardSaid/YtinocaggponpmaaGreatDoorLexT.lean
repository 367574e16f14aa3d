/-
  Plain facts about the tokens of a text: the same scan without places in bytes.
-/
import Derived.Test.YtinocaggponpmaaGreatDoorLexP
namespace Go.Proofs.YtinocaggponpmaaGreatDoor.Lx

abbrev Ch := Nat × List UInt8

/-- The scan from a place at which a token may begin. -/
def T (cs : List Ch) (a : Nat) (acc : List Tok) : List Tok × Int × Int := tokGo cs 0 a 0 acc

/-- Where in bytes the scan stands says nothing. -/
theorem tokGo_shift (cs : List Ch) : ∀ (p q a next : Nat) (acc : List Tok), tokGo cs (p + q) a (next + q) acc = tokGo cs p a next acc := by
  induction cs with
  | nil => intro p q a next acc; rfl
  | cons c cs ih =>
    intro p q a next acc
    unfold tokGo
    have e1 : (p + q < next + q ∨ clsI c.1 = 1) = (p < next ∨ clsI c.1 = 1) := by apply propext; omega
    have h1 := ih (p + c.2.length) q (a + 1) next acc
    have h2 := ih (p + c.2.length) q (a + 1) (p + remarkL (flat (c :: cs))) acc
    have h3 := ih (p + c.2.length) q (a + 1) (p + (tokenT (clsI c.1) (flat (c :: cs))).2.1) (acc ++ [{ (tokenT (clsI c.1) (flat (c :: cs))).1 with at_ := a }])
    rw [show p + q + c.2.length = p + c.2.length + q from by omega, show p + q + remarkL (flat (c :: cs)) = p + remarkL (flat (c :: cs)) + q from by omega,
      show p + q + (tokenT (clsI c.1) (flat (c :: cs))).2.1 = p + (tokenT (clsI c.1) (flat (c :: cs))).2.1 + q from by omega, h1, h2, h3]
    simp only [e1]
/-- What was passed over says nothing. -/
theorem tokGo_past (cs : List Ch) : ∀ (p a next next' : Nat) (acc : List Tok), next ≤ p → next' ≤ p → tokGo cs p a next acc = tokGo cs p a next' acc := by
  induction cs with
  | nil => intro p a next next' acc _ _; rfl
  | cons c cs ih =>
    intro p a next next' acc h h'
    unfold tokGo
    have h1 := ih (p + c.2.length) (a + 1) next next' acc (by omega) (by omega)
    rw [h1]
    have e1 : (p < next ∨ clsI c.1 = 1) = (p < next' ∨ clsI c.1 = 1) := by apply propext; omega
    simp only [e1]
theorem tokGo_T (cs : List Ch) (p a next : Nat) (acc : List Tok) (h : next ≤ p) : tokGo cs p a next acc = T cs a acc := by
  rw [tokGo_past cs p a next p acc h (Nat.le_refl _)]
  have := tokGo_shift cs 0 p a 0 acc
  rw [Nat.zero_add] at this
  exact this
/-- Runes within a token are passed over. -/
theorem tokGo_skip (xs : List Ch) : ∀ (ys : List Ch) (p a : Nat) (acc : List Tok), (∀ c ∈ xs, 1 ≤ c.2.length) → tokGo (xs ++ ys) p a (p + (flat xs).length) acc = T ys (a + xs.length) acc := by
  induction xs with
  | nil => intro ys p a acc _; exact tokGo_T ys p a _ acc (by simp [flat])
  | cons c xs ih =>
    intro ys p a acc h
    have hc := h c (by simp)
    have hf : (flat (c :: xs)).length = c.2.length + (flat xs).length := by simp [flat]
    show tokGo (c :: (xs ++ ys)) p a _ acc = _
    unfold tokGo
    rw [if_pos (Or.inl (by omega)), hf, show p + (c.2.length + (flat xs).length) = p + c.2.length + (flat xs).length from by omega, ih ys _ _ acc (fun x hx => h x (by simp [hx]))]
    congr 1
    simp; omega

theorem T_nil (a : Nat) (acc : List Tok) : T [] a acc = (acc ++ [⟨0, [], 0, a⟩], 0, 0) := rfl
theorem T_blank (c : Ch) (cs : List Ch) (a : Nat) (acc : List Tok) (h : clsI c.1 = 1) : T (c :: cs) a acc = T cs (a + 1) acc := by
  unfold T
  conv => lhs; unfold tokGo
  rw [if_pos (Or.inr h)]
  exact tokGo_T cs _ _ _ _ (by omega)

/-- All runes of a list are those of its bytes. -/
def Can (cs : List Ch) : Prop := rn (flat cs) = cs
theorem can_rn (l : List UInt8) : Can (rn l) := by unfold Can; rw [flat_rn]
theorem can_one {cs : List Ch} (h : Can cs) : ∀ c ∈ cs, 1 ≤ c.2.length := by
  unfold Can at h
  rw [← h]
  exact rn_one _
theorem can_tail {c : Ch} {cs : List Ch} (h : Can (c :: cs)) : Can cs := by
  have h1 := can_one h c (by simp)
  unfold Can at h ⊢
  have hne : flat (c :: cs) ≠ [] := by
    intro e
    have := congrArg List.length e
    simp [flat] at this
    rw [this.1] at h1
    simp at h1
  rw [rn_cons _ hne] at h
  injection h with h2 h3
  have hw := dec_width _ hne
  have hc : c.2 = (flat (c :: cs)).take (dec (flat (c :: cs))).2 := (congrArg Prod.snd h2).symm
  have hl : c.2.length = (dec (flat (c :: cs))).2 := by rw [hc, List.length_take]; omega
  have hf : flat (c :: cs) = c.2 ++ flat cs := by simp [flat]
  rw [← hl, hf, List.drop_left] at h3
  exact h3
theorem can_drop {xs ys : List Ch} (h : Can (xs ++ ys)) : Can ys := by
  induction xs with
  | nil => exact h
  | cons c xs ih => exact ih (can_tail h)

theorem remark_split (cs : List Ch) : ∀ i, ∃ xs ys, cs = xs ++ ys ∧ remarkGo i cs = i + (flat xs).length ∧ xs = cs.takeWhile (fun c => c.1 != 10) ∧ ys = cs.dropWhile (fun c => c.1 != 10) := by
  induction cs with
  | nil => intro i; exact ⟨[], [], rfl, by simp [remarkGo, flat], rfl, rfl⟩
  | cons c cs ih =>
    intro i
    unfold remarkGo
    by_cases h : c.1 = 10
    · exact ⟨[], c :: cs, rfl, by rw [if_pos h]; simp [flat], by simp [h], by simp [h]⟩
    · obtain ⟨xs, ys, h1, h2, h3, h4⟩ := ih (i + c.2.length)
      refine ⟨c :: xs, ys, by rw [h1]; rfl, ?_, by simp [h, ← h3], by simp [h, ← h4]⟩
      rw [if_neg h, h2]
      simp [flat]
      omega
theorem T_hash (c : Ch) (cs : List Ch) (a : Nat) (acc : List Tok) (hcan : Can (c :: cs)) (h : clsI c.1 = 6) :
    T (c :: cs) a acc = T ((c :: cs).dropWhile fun c => c.1 != 10) (a + ((c :: cs).takeWhile fun c => c.1 != 10).length) acc := by
  have h10 : ¬ c.1 = 10 := by intro e; rw [e] at h; revert h; decide
  have hr : remarkL (flat (c :: cs)) = remarkGo 0 (c :: cs) := by unfold remarkL; rw [hcan]
  obtain ⟨xs, ys, h1, h2, h3, h4⟩ := remark_split cs c.2.length
  unfold T
  conv => lhs; unfold tokGo
  rw [if_neg (by rintro (h0 | h0); omega; rw [h] at h0; cases h0), if_pos h, hr]
  unfold remarkGo
  rw [if_neg h10, Nat.zero_add, h2, Nat.zero_add, h1, tokGo_skip xs ys _ _ acc (fun x hx => can_one hcan x (by rw [h1]; simp [hx]))]
  rw [← h1]
  simp only [bne_iff_ne, ne_eq, h10, not_false_eq_true, List.dropWhile_cons_of_pos, List.takeWhile_cons_of_pos, List.length_cons]
  rw [← h3, ← h4]
  unfold T
  congr 1
  omega
/-- A token that begins here. -/
theorem T_tok (c : Ch) (cs : List Ch) (a : Nat) (acc : List Tok) (h1 : clsI c.1 ≠ 1) (h6 : clsI c.1 ≠ 6) :
    T (c :: cs) a acc = if acc.length = 2000 then ([], 2, (a : Int)) else if (tokenT (clsI c.1) (flat (c :: cs))).2.2 ≠ 0 then ([], (tokenT (clsI c.1) (flat (c :: cs))).2.2, (a : Int))
      else tokGo cs c.2.length (a + 1) (tokenT (clsI c.1) (flat (c :: cs))).2.1 (acc ++ [{ (tokenT (clsI c.1) (flat (c :: cs))).1 with at_ := a }]) := by
  unfold T
  conv => lhs; unfold tokGo
  rw [if_neg (by rintro (h0 | h0); omega; exact h1 h0), if_neg h6, Nat.zero_add, Nat.zero_add]

def Good (cs : List Ch) : Prop := ∀ c ∈ cs, badC c = false
theorem can_firm {cs : List Ch} (h : Can cs) (hg : Good cs) : ∀ c ∈ cs, Firm c := by
  unfold Can at h
  have := firm_mem (flat cs)
  rw [h] at this
  exact fun c hc => this c hc (hg c hc)
theorem can_head {c : Ch} {cs : List Ch} (h : Can (c :: cs)) : dec (flat (c :: cs)) = (c.1, c.2.length) := by
  have h1 := can_one h c (by simp)
  unfold Can at h
  have hne : flat (c :: cs) ≠ [] := by
    intro e
    have := congrArg List.length e
    simp [flat] at this
    rw [this.1] at h1
    simp at h1
  rw [rn_cons _ hne] at h
  injection h with h2 h3
  have hw := dec_width _ hne
  have hl : c.2.length = (dec (flat (c :: cs))).2 := by rw [← (congrArg Prod.snd h2), List.length_take]; omega
  have hr : (dec (flat (c :: cs))).1 = c.1 := congrArg Prod.fst h2
  rw [hl, ← hr]
/-- A rune below 128 is its byte. -/
theorem can_ascii {c : Ch} {cs : List Ch} (h : Can (c :: cs)) (hc : c.1 < 128) : ∃ b : UInt8, c = (b.toNat, [b]) ∧ b.toNat < 128 := by
  have h1 := can_one h c (by simp)
  have hd := can_head h
  match hm : c.2, h1 with
  | b :: t, _ =>
    have hf : flat (c :: cs) = b :: (t ++ flat cs) := by show c.2 ++ flat cs = _; rw [hm]; rfl
    rw [hf] at hd
    by_cases hb : b.toNat < 128
    · rw [dec_ascii _ _ hb, hm] at hd
      have e1 : b.toNat = c.1 := congrArg Prod.fst hd
      have e2 : 1 = (b :: t).length := congrArg Prod.snd hd
      have e3 : t = [] := by
        cases t with
        | nil => rfl
        | cons x y => simp at e2
      refine ⟨b, ?_, hb⟩
      rw [e3] at hm
      exact Prod.ext e1.symm hm
    · have hs : (⟨(b :: (t ++ flat cs)).toArray⟩ : ByteArray).size = (t ++ flat cs).length + 1 := by rw [size_list]; rfl
      have := (decode_high ⟨(b :: (t ++ flat cs)).toArray⟩ 0 (by omega) (by show 128 ≤ b.toNat; omega)).1
      have e1 : (dec (b :: (t ++ flat cs))).1 = c.1 := congrArg Prod.fst hd
      have : 128 ≤ (dec (b :: (t ++ flat cs))).1 := this
      omega

/-- How a token is written. -/
def src (t : Tok) : List UInt8 := if t.kind = 3 then 34 :: (t.text ++ [34]) else t.text

/-- A token, and the runes by which it is written. -/
structure TokOK (t : Tok) (c : Ch) (xs : List Ch) : Prop where
  firm : ∀ x ∈ c :: xs, Firm x
  good : ∀ x ∈ c :: xs, badC x = false
  not1 : clsI c.1 ≠ 1
  not6 : clsI c.1 ≠ 6
  again : ∀ rest, tokenT (clsI c.1) (flat (c :: xs) ++ 32 :: rest) = ({ t with at_ := 0 }, (flat (c :: xs)).length, 0)
  kind : 1 ≤ t.kind ∧ t.kind ≤ 4
  text : t.text = [] → t.kind = 3
  src_ : src t = flat (c :: xs)

theorem cls_two' (r : Int) : clsI r = 2 ↔ letterI r = true := by
  unfold clsI signI letterI digitI
  simp only [decide_eq_true_eq, Bool.or_eq_true, Bool.and_eq_true, Bool.not_eq_true', decide_eq_false_iff_not]
  repeat' split
  all_goals omega
theorem cls_three' (r : Int) : clsI r = 3 ↔ digitI r = true := by
  unfold clsI signI letterI digitI
  simp only [decide_eq_true_eq, Bool.or_eq_true, Bool.and_eq_true, Bool.not_eq_true', decide_eq_false_iff_not]
  repeat' split
  all_goals omega
theorem isW_of_letter {c : Ch} (h : letterI c.1 = true) : isW c = true := by unfold isW; rw [h]; rfl
theorem isW_not_bad {c : Ch} (h : isW c = true) : badC c = false := by
  unfold badC
  have : c.1 ≠ 65533 := by
    intro e
    unfold isW at h
    rw [e] at h
    revert h
    decide
  simp [this]
theorem takeWhile_stop {p : Ch → Bool} (ws : List Ch) (h : ∀ w ∈ ws, p w = true) (x : Ch) (hx : p x = false) (ys : List Ch) : (ws ++ x :: ys).takeWhile p = ws := by
  induction ws with
  | nil => simp [hx]
  | cons w ws ih => simp [h w (by simp), ih (fun y hy => h y (by simp [hy]))]
theorem flat_append (a b : List Ch) : flat (a ++ b) = flat a ++ flat b := by simp [flat]
theorem rn_blank (ws : List Ch) (h : ∀ c ∈ ws, Firm c) (b : UInt8) (hb : b.toNat < 128) (rest : List UInt8) : rn (flat ws ++ b :: rest) = ws ++ (b.toNat, [b]) :: rn rest := by
  rw [rn_firm ws h, rn_ascii b rest hb]
theorem word_again (ws : List Ch) (h : ∀ c ∈ ws, Firm c) (hw : ∀ c ∈ ws, isW c = true) (rest : List UInt8) : wordL (flat ws ++ 32 :: rest) = flat ws := by
  unfold wordL wordC
  rw [rn_blank ws h 32 (by decide), takeWhile_stop ws hw _ (by decide)]
theorem word_can {cs : List Ch} (h : Can cs) : wordL (flat cs) = flat (cs.takeWhile isW) := by
  unfold wordL wordC
  rw [h]

theorem tok_word (c : Ch) (cs : List Ch) (hcan : Can (c :: cs)) (hw : isW c = true) :
    ∃ xs ys, cs = xs ++ ys ∧ wordL (flat (c :: cs)) = flat (c :: xs) ∧ (∀ x ∈ c :: xs, isW x = true) ∧ ∀ x ∈ c :: xs, Firm x := by
  refine ⟨cs.takeWhile isW, cs.dropWhile isW, List.takeWhile_append_dropWhile.symm, ?_, ?_, ?_⟩
  · rw [word_can hcan, List.takeWhile_cons_of_pos hw]
  · intro x hx
    rcases List.mem_cons.1 hx with rfl | hx
    · exact hw
    · exact List.all_eq_true.1 (List.all_takeWhile (p := isW) (l := cs)) x hx
  · intro x hx
    have hfm := firm_mem (flat (c :: cs))
    rw [hcan] at hfm
    rcases List.mem_cons.1 hx with rfl | hx
    · exact hfm x (by simp) (isW_not_bad hw)
    · exact hfm x (List.mem_cons_of_mem _ ((List.takeWhile_sublist isW).subset hx)) (isW_not_bad (List.all_eq_true.1 (List.all_takeWhile (p := isW) (l := cs)) x hx))

theorem textGo_split (cs : List Ch) : ∀ n i, (textGo n i cs).1 = 0 → ∃ xs q ys, cs = xs ++ q :: ys ∧ q.1 = 34 ∧ (∀ x ∈ xs, x.1 ≠ 34 ∧ 32 ≤ x.1) ∧ n + xs.length ≤ 20 ∧ (textGo n i cs).2 = i + (flat xs).length := by
  induction cs with
  | nil => intro n i h; simp [textGo] at h
  | cons c cs ih =>
    intro n i h
    unfold textGo at h ⊢
    by_cases h34 : c.1 = 34
    · rw [if_pos h34] at h ⊢
      by_cases h20 : 20 < n
      · rw [if_pos h20] at h; cases h
      · rw [if_neg h20]
        exact ⟨[], c, cs, rfl, h34, by simp, by simp; omega, by simp [flat]⟩
    · rw [if_neg h34] at h ⊢
      by_cases h32 : c.1 < 32
      · rw [if_pos h32] at h; cases h
      · rw [if_neg h32] at h ⊢
        obtain ⟨xs, q, ys, h1, h2, h3, h4, h5⟩ := ih _ _ h
        refine ⟨c :: xs, q, ys, by rw [h1]; rfl, h2, ?_, by simp; omega, ?_⟩
        · intro x hx
          rcases List.mem_cons.1 hx with rfl | hx
          · exact ⟨h34, by omega⟩
          · exact h3 x hx
        · rw [h5]; simp [flat]; omega
theorem textGo_join (xs : List Ch) : ∀ (q : Ch) (ys : List Ch) n i, q.1 = 34 → (∀ x ∈ xs, x.1 ≠ 34 ∧ 32 ≤ x.1) → n + xs.length ≤ 20 → textGo n i (xs ++ q :: ys) = (0, i + (flat xs).length) := by
  induction xs with
  | nil =>
    intro q ys n i hq _ hn
    show textGo n i (q :: ys) = _
    unfold textGo
    rw [if_pos hq, if_neg (by simp at hn; omega)]
    simp [flat]
  | cons c xs ih =>
    intro q ys n i hq hx hn
    have hc := hx c (by simp)
    show textGo n i (c :: (xs ++ q :: ys)) = _
    unfold textGo
    rw [if_neg hc.1, if_neg (by omega), ih q ys _ _ hq (fun x h => hx x (by simp [h])) (by simp at hn; omega)]
    simp [flat]
    omega

theorem two_cons (a b : UInt8) (t : List UInt8) : two (a :: b :: t) = ((a == 60 || a == 62 || a == 61 || a == 33 || a == 58) && b == 61) := rfl

/-- THE TOKEN THAT BEGINS AT A RUNE, if it is right: how far it goes, and that it is read again. -/
theorem tok_ok (c : Ch) (cs : List Ch) (hcan : Can (c :: cs)) (hg : Good (c :: cs)) (h1 : clsI c.1 ≠ 1) (h6 : clsI c.1 ≠ 6) (he : (tokenT (clsI c.1) (flat (c :: cs))).2.2 = 0) :
    ∃ xs ys, cs = xs ++ ys ∧ (tokenT (clsI c.1) (flat (c :: cs))).2.1 = (flat (c :: xs)).length ∧ TokOK (tokenT (clsI c.1) (flat (c :: cs))).1 c xs ∧ (tokenT (clsI c.1) (flat (c :: cs))).1.at_ = 0 := by
  unfold tokenT at he ⊢
  by_cases c2 : clsI c.1 = 2
  · rw [if_pos c2] at he ⊢
    have hl := (cls_two' c.1).1 c2
    obtain ⟨xs, ys, hs, hw, hall, hf⟩ := tok_word c cs hcan (isW_of_letter hl)
    unfold nameT at he ⊢
    rw [hw] at he ⊢
    by_cases hn : nameB (flat (c :: xs)) = true
    · rw [if_pos hn] at he ⊢
      refine ⟨xs, ys, hs, rfl, ⟨hf, fun x hx => isW_not_bad (hall x hx), h1, h6, fun rest => ?_, by simp, fun e => ?_, rfl⟩, rfl⟩
      · unfold tokenT
        rw [if_pos c2]
        unfold nameT
        rw [word_again _ hf hall, if_pos hn]
      · have := (hf c (by simp)).1
        have e' : flat (c :: xs) = [] := e
        simp [flat] at e'
        exact absurd e'.1 this
    · rw [if_neg hn] at he; cases he
  rw [if_neg c2] at he ⊢
  by_cases c3 : clsI c.1 = 3
  · rw [if_pos c3] at he ⊢
    have hd := (cls_three' c.1).1 c3
    obtain ⟨xs, ys, hs, hw, hall, hf⟩ := tok_word c cs hcan (by unfold isW; rw [hd]; simp)
    unfold numberT at he ⊢
    rw [hw] at he ⊢
    cases hn : numberL (flat (c :: xs)) with
    | none => rw [hn] at he; cases he
    | some n =>
      rw [hn] at he
      refine ⟨xs, ys, hs, rfl, ⟨hf, fun x hx => isW_not_bad (hall x hx), h1, h6, fun rest => ?_, by simp, fun e => ?_, rfl⟩, rfl⟩
      · unfold tokenT
        rw [if_neg c2, if_pos c3]
        unfold numberT
        rw [word_again _ hf hall, hn]
      · have := (hf c (by simp)).1
        have e' : flat (c :: xs) = [] := e
        simp [flat] at e'
        exact absurd e'.1 this
  rw [if_neg c3] at he ⊢
  by_cases c5 : clsI c.1 = 5
  · rw [if_pos c5] at he ⊢
    have h34 : c.1 = 34 := by
      unfold clsI at c5
      repeat' split at c5
      all_goals first | omega | (cases c5)
    obtain ⟨b, hb, hb2⟩ := can_ascii hcan (by omega)
    have hb34 : b = 34 := by
      have : b.toNat = 34 := by rw [← h34, hb]
      exact UInt8.toNat_inj.1 this
    subst hb34
    have hc : c = (34, [34]) := hb
    have hdec := can_head hcan
    rw [hc] at hdec
    have hrn : rn ((flat (c :: cs)).drop 1) = cs := by
      have : (flat (c :: cs)).drop 1 = flat cs := by rw [hc]; rfl
      rw [this]
      exact can_tail hcan
    unfold textT at he ⊢
    have hd2 : dec (flat (c :: cs)) = (34, 1) := by rw [hc]; exact hdec
    rw [hd2] at he ⊢
    simp only [hrn] at he ⊢
    by_cases hz : (textGo 0 1 cs).1 = 0
    · obtain ⟨xs, q, ys, e1, e2, e3, e4, e5⟩ := textGo_split cs 0 1 hz
      rw [if_pos hz] at he ⊢
      have hcanq : Can (q :: ys) := by
        have := can_tail hcan
        rw [e1] at this
        exact can_drop this
      obtain ⟨bq, hbq, _⟩ := can_ascii hcanq (by omega)
      have hq34 : bq = 34 := by
        have : bq.toNat = 34 := by rw [← e2, hbq]
        exact UInt8.toNat_inj.1 this
      subst hq34
      have hq : q = (34, [34]) := hbq
      have htx : ((flat (c :: cs)).drop 1).take ((textGo 0 1 cs).2 - 1) = flat xs := by
        have : (flat (c :: cs)).drop 1 = flat cs := by rw [hc]; rfl
        rw [this, e5, e1, flat_append, Nat.add_sub_cancel_left, List.take_left]
      have hmem : ∀ x ∈ c :: (xs ++ [q]), x ∈ c :: cs := fun x hx => (by
        rw [e1]
        rcases List.mem_cons.1 hx with rfl | hx
        · simp
        · rcases List.mem_append.1 hx with hx | hx
          · simp [hx]
          · simp at hx; simp [hx])
      have hfirm : ∀ x ∈ c :: (xs ++ [q]), Firm x := fun x hx => can_firm hcan hg x (hmem x hx)
      have hfl : flat (c :: (xs ++ [q])) = 34 :: (flat xs ++ [34]) := by
        rw [hc, hq]; simp [flat]
      refine ⟨xs ++ [q], ys, by rw [e1]; simp, ?_, ⟨hfirm, fun x hx => hg x (hmem x hx), h1, h6, fun rest => ?_, by simp, fun _ => rfl, ?_⟩, rfl⟩
      · rw [hfl, e5]; simp; omega
      · unfold tokenT
        rw [if_neg c2, if_neg c3, if_pos c5]
        have hcan' : rn (flat (c :: (xs ++ [q])) ++ 32 :: rest) = c :: (xs ++ [q]) ++ (32, [32]) :: rn rest := rn_blank _ hfirm 32 (by decide) rest
        have hrest : flat (c :: (xs ++ [q])) ++ 32 :: rest = 34 :: (flat xs ++ 34 :: 32 :: rest) := by rw [hfl]; simp
        unfold textT
        have hd3 : dec (flat (c :: (xs ++ [q])) ++ 32 :: rest) = (34, 1) := by rw [hrest]; exact dec_ascii 34 _ (by decide)
        have hrn3 : rn ((flat (c :: (xs ++ [q])) ++ 32 :: rest).drop 1) = xs ++ q :: (32, [32]) :: rn rest := by
          have h := hcan'
          rw [hrest] at h ⊢
          rw [rn_ascii 34 _ (by decide)] at h
          simp only [List.drop_succ_cons, List.drop_zero]
          injection h with _ h
          rw [h]; simp
        rw [hd3]
        simp only [hrn3]
        rw [textGo_join xs q _ 0 1 e2 e3 e4]
        simp only [if_true]
        rw [htx, hrest, hfl]
        simp only [List.drop_succ_cons, List.drop_zero, Nat.add_sub_cancel_left, List.take_left]
        simp
        omega
      · show src ⟨3, ((flat (c :: cs)).drop 1).take ((textGo 0 1 cs).2 - 1), 0, 0⟩ = _
        unfold src
        rw [if_pos rfl, hfl, htx]
    · rw [if_neg hz] at he
      exact absurd he hz
  rw [if_neg c5] at he ⊢
  by_cases c4 : clsI c.1 = 4
  · rw [if_pos c4] at he ⊢
    have h128 : c.1 < 128 := by
      unfold clsI signI at c4
      simp only [decide_eq_true_eq] at c4
      repeat' split at c4
      all_goals omega
    obtain ⟨b, hc, hb⟩ := can_ascii hcan h128
    have hfirm := can_firm hcan hg
    have hfl : flat (c :: cs) = b :: flat cs := by rw [hc]; rfl
    unfold signT
    by_cases h2 : two (flat (c :: cs)) = true
    · rw [if_pos h2]
      have hcs : ∃ ys, cs = (61, [61]) :: ys := by
        rw [hfl] at h2
        match cs, can_tail hcan with
        | [], _ => simp [flat, two] at h2
        | d :: ys, hd =>
          have hone := can_one hd d (by simp)
          match hdm : d.2, hone with
          | x :: t, _ =>
            have hf2 : flat (d :: ys) = x :: (t ++ flat ys) := by show d.2 ++ flat ys = _; rw [hdm]; rfl
            rw [hf2, two_cons] at h2
            have hx : x = 61 := by
              simp only [Bool.and_eq_true, beq_iff_eq] at h2
              exact h2.2
            have hh := can_head hd
            rw [hf2, hx, dec_ascii 61 _ (by decide)] at hh
            have e1 : (61 : UInt8).toNat = d.1 := congrArg Prod.fst hh
            have e2 : 1 = d.2.length := congrArg Prod.snd hh
            rw [hdm] at e2
            have e3 : t = [] := by
              cases t with
              | nil => rfl
              | cons u v => simp at e2
            rw [hx, e3] at hdm
            exact ⟨ys, by rw [show d = (61, [61]) from Prod.ext e1.symm hdm]⟩
      obtain ⟨ys, rfl⟩ := hcs
      have hfl2 : flat (c :: [((61, [61]) : Ch)]) = [b, 61] := by rw [hc]; rfl
      have hfl3 : flat (c :: (61, [61]) :: ys) = b :: 61 :: flat ys := by rw [hc]; rfl
      have hmem : ∀ x ∈ c :: [((61, [61]) : Ch)], x ∈ c :: (61, [61]) :: ys := fun x hx => by
        rcases List.mem_cons.1 hx with rfl | hx
        · simp
        · simp at hx; simp [hx]
      refine ⟨[(61, [61])], ys, rfl, by rw [hfl2]; rfl, ⟨fun x hx => hfirm x (hmem x hx), fun x hx => hg x (hmem x hx), h1, h6, fun rest => ?_, by simp, fun e => ?_, ?_⟩, rfl⟩
      · unfold tokenT
        rw [if_neg c2, if_neg c3, if_neg c5, if_pos c4]
        unfold signT
        have ht : two (flat (c :: [((61, [61]) : Ch)]) ++ 32 :: rest) = true := by
          rw [hfl2]
          rw [hfl3] at h2
          exact h2
        rw [if_pos ht, hfl2, hfl3]
        rfl
      · rw [hfl3] at e; cases e
      · show src ⟨4, (flat (c :: (61, [61]) :: ys)).take 2, 0, 0⟩ = _
        unfold src
        rw [if_neg (by simp), hfl2, hfl3]
        rfl
    · rw [if_neg h2]
      have hfl2 : flat [c] = [b] := by rw [hc]; rfl
      refine ⟨[], cs, rfl, by rw [hfl2]; rfl, ⟨fun x hx => hfirm x (by simp at hx; simp [hx]), fun x hx => hg x (by simp at hx; simp [hx]), h1, h6, fun rest => ?_, by simp, fun e => ?_, ?_⟩, rfl⟩
      · unfold tokenT
        rw [if_neg c2, if_neg c3, if_neg c5, if_pos c4]
        unfold signT
        have ht : ¬ two (flat [c] ++ 32 :: rest) = true := by
          rw [hfl2]
          show ¬ two (b :: 32 :: rest) = true
          rw [two_cons]
          simp
        rw [if_neg ht, hfl2, hfl]
        rfl
      · rw [hfl] at e; cases e
      · show src ⟨4, (flat (c :: cs)).take 1, 0, 0⟩ = _
        unfold src
        rw [if_neg (by simp), hfl2, hfl]
        rfl
  rw [if_neg c4] at he
  cases he
end Go.Proofs.YtinocaggponpmaaGreatDoor.Lx
