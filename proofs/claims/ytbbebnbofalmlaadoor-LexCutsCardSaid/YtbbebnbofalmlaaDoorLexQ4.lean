/-
  What the document's own token comes to, beside the program's: plain facts, and its contract.
-/
import Derived.Test.YtbbebnbofalmlaaDoorLexQ3
import Derived.Test.YtbbebnbofalmlaaDoorLexU
namespace Go.Proofs.YtbbebnbofalmlaaDoor.Lx
open Go.RowKit

theorem runesGo_at : ∀ (cs : List Ch), Good cs → ∀ p, (runesGo cs p).2.1.length = cs.length + 1 ∧ ∀ k, k ≤ cs.length → (runesGo cs p).2.1.getD k 0 = p + (flat (cs.take k)).length
  | [], _, p => ⟨by simp [runesGo], fun k hk => by
      have : k = 0 := by simpa using hk
      subst this; simp [runesGo, flat]⟩
  | c :: cs, hg, p => by
    have hb : ¬ badC c = true := by rw [hg c (by simp)]; simp
    obtain ⟨h1, h2⟩ := runesGo_at cs (fun x hx => hg x (by simp [hx])) (p + c.2.length)
    unfold runesGo
    rw [if_neg hb]
    refine ⟨by simp [h1], fun k hk => ?_⟩
    cases k with
    | zero => simp [flat]
    | succ k =>
      have h3 := h2 k (by simpa using hk)
      have h4 : flat (c :: cs.take k) = c.2 ++ flat (cs.take k) := by simp [flat]
      simp only [List.getD_cons_succ, List.take_succ_cons]
      rw [h3, h4, List.length_append]; omega
theorem flat_take_drop (cs : List Ch) (i : Nat) : flat (cs.take i) ++ flat (cs.drop i) = flat cs := by rw [← flat_append, List.take_append_drop]
theorem flat_take_le (cs : List Ch) (i k : Nat) (hik : i ≤ k) : flat (cs.take k) = flat (cs.take i) ++ flat ((cs.drop i).take (k - i)) := by
  rw [← flat_append, ← List.take_add]
  rw [show i + (k - i) = k from by omega]
theorem places_runes (s : ByteArray) (cs : List Ch) (hg : Good cs) (hs : s.data.toList = flat cs) : Places s (cs.map (·.1)) (runesGo cs 0).2.1 where
  len := by rw [(runesGo_at cs hg 0).1]; simp
  mono := fun i k hik hk => by
    rw [List.length_map] at hk
    rw [(runesGo_at cs hg 0).2 i (by omega), (runesGo_at cs hg 0).2 k hk, flat_take_le cs i k hik, List.length_append]
    omega
  le := fun k hk => by
    rw [List.length_map] at hk
    rw [(runesGo_at cs hg 0).2 k hk]
    have h1 := congrArg List.length (flat_take_drop cs k)
    rw [List.length_append] at h1
    have h2 : s.size = (flat cs).length := by rw [← hs]; exact Array.length_toList.symm
    omega
theorem ext_flat (s : ByteArray) (cs : List Ch) (hg : Good cs) (hs : s.data.toList = flat cs) (i k : Nat) (hik : i ≤ k) (hk : k ≤ cs.length) : ext s (runesGo cs 0).2.1 i k = ⟨(flat ((cs.drop i).take (k - i))).toArray⟩ := by
  unfold ext
  rw [extract_mid, (runesGo_at cs hg 0).2 i (by omega), (runesGo_at cs hg 0).2 k hk, Nat.zero_add, Nat.zero_add, hs]
  have h1 : (flat cs).drop (flat (cs.take i)).length = flat (cs.drop i) := by
    have := flat_take_drop cs i
    rw [← this, List.drop_left]
  have h2 : flat (cs.drop i) = flat ((cs.drop i).take (k - i)) ++ flat ((cs.drop i).drop (k - i)) := by rw [← flat_append, List.take_append_drop]
  rw [h1, flat_take_le cs i k hik, List.length_append, Nat.add_sub_cancel_left]
  conv => lhs; rw [h2]
  rw [List.take_left]

def TkOK (c : Ch) (ds : List Ch) (i : Nat) (e : Ending) : Prop :=
  (∃ er, er ≠ 0 ∧ e = zE er ∧ (tokenT (clsI c.1) (flat (c :: ds))).2.2 = er) ∨
  (∃ t xs ys, ds = xs ++ ys ∧ e = tE t.kind ⟨t.text.toArray⟩ t.n i (i + 1 + xs.length) ∧ tokenT (clsI c.1) (flat (c :: ds)) = (t, (flat (c :: xs)).length, 0))

theorem take_tw (p : Ch → Bool) (D : List Ch) : D.take (D.takeWhile p).length = D.takeWhile p := (List.prefix_iff_eq_take.1 (List.takeWhile_prefix p)).symm
theorem tx_err : ∀ (cs : List Ch) (n i : Nat), (txR n (cs.map (·.1))).1 = (textGo n i cs).1
  | [], _, _ => rfl
  | c :: cs, n, i => by
    simp only [List.map_cons]
    unfold txR textGo
    split
    · split <;> rfl
    · split
      · rfl
      · exact tx_err cs (n + 1) (i + c.2.length)
theorem mem_of_tw {p : Ch → Bool} {D : List Ch} {x : Ch} (h : x ∈ D.takeWhile p) : p x = true := List.all_eq_true.1 (List.all_takeWhile (p := p) (l := D)) x h

/-- A word's token: its runes, and where it ends. -/
theorem word_of (s : ByteArray) (cs : List Ch) (hg : Good cs) (hs : s.data.toList = flat cs) (i : Nat) (hi : i < cs.length) (c : Ch) (ds : List Ch) (hd : cs.drop i = c :: ds) (hw : isW c = true) :
    wdR (cs.map (·.1)) i = (ds.takeWhile isW).length + 1 ∧ ext s (runesGo cs 0).2.1 i (i + wdR (cs.map (·.1)) i) = ⟨(flat (c :: ds.takeWhile isW)).toArray⟩ := by
  have h1 : wdR (cs.map (·.1)) i = ((c :: ds).takeWhile isW).length := by
    unfold wdR
    rw [← List.map_drop, hd, List.takeWhile_map, List.length_map]
    rfl
  have h2 := wdR_le (cs.map (·.1)) i (by rw [List.length_map]; omega)
  rw [List.length_map] at h2
  refine ⟨by rw [h1, List.takeWhile_cons_of_pos hw]; rfl, ?_⟩
  rw [ext_flat s cs hg hs i _ (by omega) h2, Nat.add_sub_cancel_left, hd, h1, take_tw, List.takeWhile_cons_of_pos hw]

theorem tk_name (c : Ch) (ds : List Ch) (i : Nat) (hcan : Can (c :: ds)) (h2 : clsI c.1 = 2) (X : Ending)
    (hX : X = if 12 < (ds.takeWhile isW).length + 1 then zE 2 else tE 1 ⟨(flat (c :: ds.takeWhile isW)).toArray⟩ 0 i (i + ((ds.takeWhile isW).length + 1))) : TkOK c ds i X := by
  have hl := (cls_two' c.1).1 h2
  have hw := isW_of_letter hl
  have hwl : wordL (flat (c :: ds)) = flat (c :: ds.takeWhile isW) := by rw [word_can hcan, List.takeWhile_cons_of_pos hw]
  have hfm : ∀ x ∈ c :: ds.takeWhile isW, Firm x := by
    intro x hx
    have hfm := firm_mem (flat (c :: ds))
    rw [hcan] at hfm
    rcases List.mem_cons.1 hx with rfl | hx
    · exact hfm x (by simp) (isW_not_bad hw)
    · exact hfm x (List.mem_cons_of_mem _ ((List.takeWhile_sublist isW).subset hx)) (isW_not_bad (mem_of_tw hx))
  have hn : nameB (flat (c :: ds.takeWhile isW)) = true ↔ (ds.takeWhile isW).length + 1 ≤ 12 := by
    unfold nameB
    rw [rn_firm' _ hfm, nameGo_iff _ 0 (by omega)]
    constructor
    · rintro ⟨h, _⟩; simpa using h
    · intro h
      refine ⟨by simpa using h, by simp, fun x hx => ?_, fun _ x hx => ?_⟩
      · rcases List.mem_cons.1 hx with rfl | hx
        · exact hw
        · exact mem_of_tw hx
      · simp at hx; rw [← hx]; exact hl
  by_cases h12 : 12 < (ds.takeWhile isW).length + 1
  · left
    rw [if_pos h12] at hX
    refine ⟨2, by decide, hX, ?_⟩
    unfold tokenT nameT
    rw [if_pos h2, hwl, if_neg (fun h => by have := hn.1 h; omega)]
  · right
    rw [if_neg h12] at hX
    refine ⟨⟨1, flat (c :: ds.takeWhile isW), 0, 0⟩, ds.takeWhile isW, ds.dropWhile isW, List.takeWhile_append_dropWhile.symm, ?_, ?_⟩
    · rw [hX, show i + ((ds.takeWhile isW).length + 1) = i + 1 + (ds.takeWhile isW).length from by omega]
    · unfold tokenT nameT
      rw [if_pos h2, hwl, if_pos (hn.2 (by omega))]

theorem tk_number (c : Ch) (ds : List Ch) (i : Nat) (hcan : Can (c :: ds)) (h3 : clsI c.1 = 3) (X : Ending)
    (hX : X = match numberL (flat (c :: ds.takeWhile isW)) with | none => zE 11 | some n => tE 2 ⟨(flat (c :: ds.takeWhile isW)).toArray⟩ n i (i + ((ds.takeWhile isW).length + 1))) : TkOK c ds i X := by
  have hd := (cls_three' c.1).1 h3
  have hw : isW c = true := by unfold isW; rw [hd]; simp
  have hwl : wordL (flat (c :: ds)) = flat (c :: ds.takeWhile isW) := by rw [word_can hcan, List.takeWhile_cons_of_pos hw]
  cases hn : numberL (flat (c :: ds.takeWhile isW)) with
  | none =>
    left
    rw [hn] at hX
    refine ⟨11, by decide, hX, ?_⟩
    unfold tokenT numberT
    rw [if_neg (by omega), if_pos h3, hwl, hn]
  | some n =>
    right
    rw [hn] at hX
    refine ⟨⟨2, flat (c :: ds.takeWhile isW), n, 0⟩, ds.takeWhile isW, ds.dropWhile isW, List.takeWhile_append_dropWhile.symm, ?_, ?_⟩
    · rw [hX, show i + ((ds.takeWhile isW).length + 1) = i + 1 + (ds.takeWhile isW).length from by omega]
    · unfold tokenT numberT
      rw [if_neg (by omega), if_pos h3, hwl, hn]

theorem tk_text (s : ByteArray) (cs : List Ch) (hg : Good cs) (hs : s.data.toList = flat cs) (c : Ch) (ds : List Ch) (i : Nat) (hi : i < cs.length) (hd : cs.drop i = c :: ds) (hcan : Can (c :: ds)) (c5 : clsI c.1 = 5) :
    TkOK c ds i (quoE s (cs.map (·.1)) (runesGo cs 0).2.1 i) := by
  have h34 : c.1 = 34 := by
    unfold clsI at c5
    repeat' split at c5
    all_goals first | omega | (cases c5)
  obtain ⟨b, hb, hb2⟩ := can_ascii hcan (by omega)
  have hb34 : b = 34 := by
    have : b.toNat = 34 := by rw [← h34, hb]
    exact UInt8.toNat_inj.1 this
  subst hb34
  have hc : c = (34, [34]) := hb
  have hdec := can_head hcan
  rw [hc] at hdec
  have hfd : (flat (c :: ds)).drop 1 = flat ds := by rw [hc]; rfl
  have hd2 : dec (flat (c :: ds)) = (34, 1) := by rw [hc]; exact hdec
  have htok : tokenT (clsI c.1) (flat (c :: ds)) = if (textGo 0 1 ds).1 = 0 then (⟨3, (flat ds).take ((textGo 0 1 ds).2 - 1), 0, 0⟩, (textGo 0 1 ds).2 + 1, 0) else (noTok, 0, (textGo 0 1 ds).1) := by
    unfold tokenT
    rw [if_neg (by omega), if_neg (by omega), if_pos c5]
    unfold textT
    rw [hd2]
    simp only [hfd, show rn (flat ds) = ds from can_tail hcan]
  have hdrop : cs.drop (i + 1) = ds := by rw [← List.drop_drop, hd]; rfl
  have hRd : (cs.map (·.1)).drop (i + 1) = ds.map (·.1) := by rw [← List.map_drop, hdrop]
  have herr := tx_err ds 0 1
  by_cases hz : (textGo 0 1 ds).1 = 0
  · obtain ⟨xs, q, ys, e1, e2, e3, e4, e5⟩ := textGo_split ds 0 1 hz
    have hcanq : Can (q :: ys) := by
      have := can_tail hcan
      rw [e1] at this
      exact can_drop this
    obtain ⟨bq, hbq, _⟩ := can_ascii hcanq (by omega)
    have hq34 : bq = 34 := by
      have : bq.toNat = 34 := by rw [← e2, hbq]
      exact UInt8.toNat_inj.1 this
    subst hq34
    have hq : q = (34, [34]) := hbq
    right
    have htx : txR 0 ((cs.map (·.1)).drop (i + 1)) = (0, xs.length) := by
      rw [hRd, e1, List.map_append, List.map_cons, e2, txR_ok _ _ 0 (fun r hr => by
        obtain ⟨x, hx, rfl⟩ := List.mem_map.1 hr
        exact e3 x hx), List.length_map, if_neg (by omega), Nat.zero_add]
    have hlen : i + 1 + xs.length ≤ cs.length := by
      have h := congrArg List.length hdrop
      rw [List.length_drop, e1] at h
      simp at h
      omega
    have hex : s.extract ((runesGo cs 0).2.1.getD (i + 1) 0) ((runesGo cs 0).2.1.getD (i + 1 + xs.length) 0) = ⟨(flat xs).toArray⟩ := by
      have := ext_flat s cs hg hs (i + 1) (i + 1 + xs.length) (by omega) hlen
      rw [Nat.add_sub_cancel_left, hdrop, e1, List.take_left] at this
      exact this
    refine ⟨⟨3, flat xs, 0, 0⟩, xs ++ [q], ys, by rw [e1]; simp, ?_, ?_⟩
    · rw [quoE_ok htx, hex]
      unfold tE
      rw [show i + 1 + (xs ++ [q]).length = i + 1 + xs.length + 1 from by simp; omega]
    · rw [htok, if_pos hz, e5, Nat.add_sub_cancel_left, e1, flat_append, List.take_left]
      have hfl : flat (c :: (xs ++ [q])) = 34 :: (flat xs ++ [34]) := by rw [hc, hq]; simp [flat]
      rw [hfl]
      simp
      omega
  · left
    refine ⟨(textGo 0 1 ds).1, hz, ?_, by rw [htok, if_neg hz]⟩
    unfold quoE
    rw [hRd, herr, if_neg hz]
    rfl

theorem sign_of (c : Ch) (ds : List Ch) (i : Nat) (hcan : Can (c :: ds)) (c4 : clsI c.1 = 4) (k : Nat) (hk : k = if two (flat (c :: ds)) = true then 2 else 1) (_hk2 : k ≤ ds.length + 1)
    (h2 : k = 2 → ∃ ys, ds = (61, [61]) :: ys) : TkOK c ds i (tE 4 ⟨(flat ((c :: ds).take k)).toArray⟩ 0 i (i + k)) := by
  have h128 : c.1 < 128 := by
    unfold clsI signI at c4
    simp only [decide_eq_true_eq] at c4
    repeat' split at c4
    all_goals omega
  obtain ⟨b, hc, hb⟩ := can_ascii hcan h128
  right
  have htok : tokenT (clsI c.1) (flat (c :: ds)) = (⟨4, (flat (c :: ds)).take k, 0, 0⟩, k, 0) := by
    unfold tokenT
    rw [if_neg (by omega), if_neg (by omega), if_neg (by omega), if_pos c4]
    unfold signT
    rw [hk]
  by_cases e2 : k = 2
  · obtain ⟨ys, hy⟩ := h2 e2
    refine ⟨⟨4, flat ((c :: ds).take k), 0, 0⟩, [(61, [61])], ys, hy, ?_, ?_⟩
    · rw [e2]; rfl
    · rw [htok, e2, hy, hc]
      simp [flat]
  · have e1 : k = 1 := by rw [hk] at e2 ⊢; split at e2 <;> simp_all
    refine ⟨⟨4, flat ((c :: ds).take k), 0, 0⟩, [], ds, rfl, ?_, ?_⟩
    · rw [e1]; rfl
    · rw [htok, e1, hc]
      simp [flat]
theorem two_first (b : UInt8) (d : Ch) (ys : List Ch) (hd : Can (d :: ys)) : two (b :: flat (d :: ys)) = true → d = (61, [61]) := by
  intro h
  have hone := can_one hd d (by simp)
  match hdm : d.2, hone with
  | x :: t, _ =>
    have hf : flat (d :: ys) = x :: (t ++ flat ys) := by show d.2 ++ flat ys = _; rw [hdm]; rfl
    rw [hf, two_cons] at h
    simp only [Bool.and_eq_true, beq_iff_eq] at h
    have hx := h.2
    subst hx
    have h61 : d.1 = 61 := by
      have := can_head hd
      rw [hf, dec_ascii 61 _ (by decide)] at this
      exact (congrArg Prod.fst this).symm
    obtain ⟨b', hb', _⟩ := can_ascii hd (by omega)
    have : b' = 61 := by
      have : b'.toNat = 61 := by rw [← h61, hb']
      exact UInt8.toNat_inj.1 this
    subst this
    exact hb'

theorem token_ref (s : ByteArray) (cs : List Ch) (hg : Good cs) (hcn : Can cs) (hs : s.data.toList = flat cs) (A1 A2 : Option Addr) (c1 c2 i : Nat) (w : World) (hss : s.size ≤ 20000) (hR : cs.length ≤ 20000) (hrd : Rd w A1 (cs.map (·.1))) (hrp : Rd w A2 (runesGo cs 0).2.1) (c : Ch) (ds : List Ch) (hd : cs.drop i = c :: ds) :
    Calls Tryd.prog 32 #[.agg #[.string s, .slice A1 (cs.map (·.1)).length c1, .slice A2 (runesGo cs 0).2.1.length c2], .int .i64 i] w fun e w' => TkOK c ds i e ∧ Below w.heap.size w w' := by
  have hi : i < cs.length := by
    have := congrArg List.length hd
    rw [List.length_drop] at this
    simp at this
    omega
  have hcan : Can (c :: ds) := by
    rw [← hd]
    have := hcn
    rw [← List.take_append_drop i cs] at this
    exact can_drop this
  have hpl := places_runes s cs hg hs
  have hiR : i < (cs.map (·.1)).length := by rw [List.length_map]; exact hi
  have hRR : (cs.map (·.1)).length ≤ 20000 := by rw [List.length_map]; exact hR
  have hdrop : cs.drop (i + 1) = ds := by rw [← List.drop_drop, hd]; rfl
  have hdl : cs.length = i + 1 + ds.length := by
    have := congrArg List.length hd
    rw [List.length_drop] at this
    simp at this
    omega
  have hr : (cs.map (·.1)).getD i 0 = c.1 := by
    have h := drop_at (cs.map (·.1)) i hiR
    rw [← List.map_drop, hd] at h
    injection h with h _
    exact h.symm
  by_cases k2 : clsI c.1 = 2
  · have hw : isW c = true := isW_of_letter ((cls_two' c.1).1 k2)
    obtain ⟨hwd, hex⟩ := word_of s cs hg hs i hi c ds hd hw
    refine (token_2 s A1 A2 _ _ c1 c2 i w hss hRR hiR hrd hrp hpl (by rw [hr]; exact k2) _ rfl).mono ?_
    rintro e w' ⟨rfl, hb⟩
    refine ⟨tk_name c ds i hcan k2 _ ?_, hb⟩
    rw [hex, hwd]
  by_cases k3 : clsI c.1 = 3
  · have hw : isW c = true := by unfold isW; rw [(cls_three' c.1).1 k3]; simp
    obtain ⟨hwd, hex⟩ := word_of s cs hg hs i hi c ds hd hw
    refine (token_3 s A1 A2 _ _ c1 c2 i w hss hRR hiR hrd hrp hpl (by rw [hr]; exact k3) _ rfl).mono ?_
    rintro e w' ⟨rfl, hb⟩
    refine ⟨tk_number c ds i hcan k3 _ ?_, hb⟩
    rw [hex, hwd]
    rfl
  by_cases k5 : clsI c.1 = 5
  · refine (token_5 s A1 A2 _ _ c1 c2 i w hss hRR hiR hrd hrp hpl (by rw [hr]; exact k5)).mono ?_
    rintro e w' ⟨rfl, hb⟩
    exact ⟨tk_text s cs hg hs c ds i hi hd hcan k5, hb⟩
  by_cases k4 : clsI c.1 = 4
  · have h128 : c.1 < 128 := by
      unfold clsI signI at k4
      simp only [decide_eq_true_eq] at k4
      repeat' split at k4
      all_goals omega
    obtain ⟨b, hc, hb⟩ := can_ascii hcan h128
    have hfl : flat (c :: ds) = b :: flat ds := by rw [hc]; rfl
    have hone : ext s (runesGo cs 0).2.1 i (i + 1) = ⟨(flat ((c :: ds).take 1)).toArray⟩ := by
      rw [ext_flat s cs hg hs i (i + 1) (by omega) (by omega), Nat.add_sub_cancel_left, hd]
    cases ds with
    | nil =>
      refine (token_4a s A1 A2 _ _ c1 c2 i w hss hRR hiR hrd hrp hpl (by rw [hr]; exact k4) (by rw [List.length_map]; simp at hdl; omega)).mono ?_
      rintro e w' ⟨rfl, hb⟩
      rw [hone]
      exact ⟨sign_of c [] i hcan k4 1 (by rw [hfl]; rfl) (by simp) (fun h => by cases h), hb⟩
    | cons d ys =>
      have hl1 : i + 1 < (cs.map (·.1)).length := by rw [List.length_map, hdl]; simp
      have hr1 : (cs.map (·.1)).getD (i + 1) 0 = d.1 := by
        have h := drop_at (cs.map (·.1)) (i + 1) hl1
        rw [← List.map_drop, hdrop] at h
        injection h with h _
        exact h.symm
      by_cases k61 : d.1 = 61
      · obtain ⟨b', hb', _⟩ := can_ascii (can_tail hcan) (by omega)
        have h61 : b' = 61 := by
          have : b'.toNat = 61 := by rw [← k61, hb']
          exact UInt8.toNat_inj.1 this
        subst h61
        have hd61 : d = (61, [61]) := hb'
        have htwo : ext s (runesGo cs 0).2.1 i (i + 2) = ⟨(flat ((c :: d :: ys).take 2)).toArray⟩ := by
          rw [ext_flat s cs hg hs i (i + 2) (by omega) (by rw [hdl]; simp; omega), Nat.add_sub_cancel_left, hd]
        have hlist : (ext s (runesGo cs 0).2.1 i (i + 2)).toList = [b, 61] := by
          rw [htwo, ByteArray.toList_eq, hc, hd61]; simp [flat]
        have hfl2 : flat (c :: d :: ys) = b :: 61 :: flat ys := by rw [hc, hd61]; rfl
        have hiff : two5 (ext s (runesGo cs 0).2.1 i (i + 2)) ↔ two (flat (c :: d :: ys)) = true := by
          unfold two5
          rw [hlist, hfl2, two_cons]
          simp [or_assoc]
        by_cases ht : two (flat (c :: d :: ys)) = true
        · refine (token_4c s A1 A2 _ _ c1 c2 i w hss hRR hiR hrd hrp hpl (by rw [hr]; exact k4) hl1 (by rw [hr1]; exact k61) (hiff.2 ht)).mono ?_
          rintro e w' ⟨rfl, hb⟩
          rw [htwo]
          exact ⟨sign_of c (d :: ys) i hcan k4 2 (by rw [if_pos ht]) (by simp) (fun _ => ⟨ys, by rw [hd61]⟩), hb⟩
        · refine (token_4d s A1 A2 _ _ c1 c2 i w hss hRR hiR hrd hrp hpl (by rw [hr]; exact k4) hl1 (by rw [hr1]; exact k61) (fun h => ht (hiff.1 h))).mono ?_
          rintro e w' ⟨rfl, hb⟩
          rw [hone]
          exact ⟨sign_of c (d :: ys) i hcan k4 1 (by rw [if_neg ht]) (by simp) (fun h => by cases h), hb⟩
      · have ht : ¬ two (flat (c :: d :: ys)) = true := by
          rw [hfl]
          intro h
          exact k61 (by rw [two_first b d ys (can_tail hcan) h])
        refine (token_4b s A1 A2 _ _ c1 c2 i w hss hRR hiR hrd hrp hpl (by rw [hr]; exact k4) hl1 (by rw [hr1]; exact k61)).mono ?_
        rintro e w' ⟨rfl, hb⟩
        rw [hone]
        exact ⟨sign_of c (d :: ys) i hcan k4 1 (by rw [if_neg ht]) (by simp) (fun h => by cases h), hb⟩
  refine (token_0 s A1 A2 _ _ c1 c2 i w hss hRR hiR hrd hrp hpl (by rw [hr]; exact ⟨k2, k3, k5, k4⟩)).mono ?_
  rintro e w' ⟨rfl, hb⟩
  refine ⟨Or.inl ⟨11, by decide, rfl, ?_⟩, hb⟩
  unfold tokenT
  rw [if_neg k2, if_neg k3, if_neg k5, if_neg k4]

theorem past_T : ∀ (cs : List Ch), Can cs → ∀ (a : Nat) (acc : List Tok),
    T cs a acc = T (cs.drop (pastR false (cs.map (·.1)))) (a + pastR false (cs.map (·.1))) acc ∧
    T (cs.dropWhile fun c => c.1 != 10) (a + (cs.takeWhile fun c => c.1 != 10).length) acc = T (cs.drop (pastR true (cs.map (·.1)))) (a + pastR true (cs.map (·.1))) acc
  | [], _, a, acc => ⟨rfl, rfl⟩
  | c :: cs, hcan, a, acc => by
    obtain ⟨h1, h2⟩ := past_T cs (can_tail hcan) (a + 1) acc
    have h1' : T (c :: cs) a acc = T ((c :: cs).drop (pastR false ((c :: cs).map (·.1)))) (a + pastR false ((c :: cs).map (·.1))) acc := by
      simp only [List.map_cons]
      unfold pastR
      by_cases k6 : clsI c.1 = 6
      · have h10 : ¬ c.1 = 10 := by intro e; rw [e] at k6; revert k6; decide
        rw [if_pos k6, T_hash c cs a acc hcan k6]
        rw [List.dropWhile_cons_of_pos (by simpa using h10), List.takeWhile_cons_of_pos (by simpa using h10), List.length_cons, Nat.add_comm 1, List.drop_succ_cons]
        rw [show a + ((cs.takeWhile fun c => c.1 != 10).length + 1) = a + 1 + (cs.takeWhile fun c => c.1 != 10).length from by omega, h2]
        rw [show a + 1 + pastR true (cs.map (·.1)) = a + (pastR true (cs.map (·.1)) + 1) from by omega]
      · rw [if_neg k6]
        by_cases k1 : clsI c.1 = 1
        · rw [if_pos k1, T_blank c cs a acc k1, h1, Nat.add_comm 1, List.drop_succ_cons, show a + 1 + pastR false (cs.map (·.1)) = a + (pastR false (cs.map (·.1)) + 1) from by omega]
        · rw [if_neg k1]; rfl
    refine ⟨h1', ?_⟩
    by_cases h10 : c.1 = 10
    · rw [List.dropWhile_cons_of_neg (by simp [h10]), List.takeWhile_cons_of_neg (by simp [h10])]
      have : pastR true ((c :: cs).map (·.1)) = pastR false ((c :: cs).map (·.1)) := by
        simp only [List.map_cons]
        unfold pastR
        rw [if_pos h10, h10, if_neg (by decide), if_pos (by decide)]
      rw [this, ← h1']
      rfl
    · rw [List.dropWhile_cons_of_pos (by simpa using h10), List.takeWhile_cons_of_pos (by simpa using h10), List.length_cons]
      simp only [List.map_cons]
      conv => rhs; unfold pastR
      rw [if_neg h10, Nat.add_comm 1, List.drop_succ_cons, show a + ((cs.takeWhile fun c => c.1 != 10).length + 1) = a + 1 + (cs.takeWhile fun c => c.1 != 10).length from by omega, h2]
      rw [show a + 1 + pastR true (cs.map (·.1)) = a + (pastR true (cs.map (·.1)) + 1) from by omega]
theorem past_head : ∀ (b : Bool) (cs : List Ch) (c : Ch) (ds : List Ch), cs.drop (pastR b (cs.map (·.1))) = c :: ds → clsI c.1 ≠ 1 ∧ clsI c.1 ≠ 6
  | _, [], c, ds, h => by simp [pastR] at h
  | true, x :: cs, c, ds, h => by
    simp only [List.map_cons] at h
    unfold pastR at h
    by_cases h10 : x.1 = 10
    · rw [if_pos h10, Nat.add_comm 1, List.drop_succ_cons] at h; exact past_head false cs c ds h
    · rw [if_neg h10, Nat.add_comm 1, List.drop_succ_cons] at h; exact past_head true cs c ds h
  | false, x :: cs, c, ds, h => by
    simp only [List.map_cons] at h
    unfold pastR at h
    by_cases k6 : clsI (x.1 : Int) = 6
    · rw [if_pos k6, Nat.add_comm 1, List.drop_succ_cons] at h; exact past_head true cs c ds h
    · rw [if_neg k6] at h
      by_cases k1 : clsI (x.1 : Int) = 1
      · rw [if_pos k1, Nat.add_comm 1, List.drop_succ_cons] at h; exact past_head false cs c ds h
      · rw [if_neg k1] at h
        injection h with h _
        rw [← h]
        exact ⟨k1, k6⟩
end Go.Proofs.YtbbebnbofalmlaaDoor.Lx
