/-
  LexWords: a name, a number and a text in quotes, each by itself, are one token. For every input (texts of more than 100 bytes: the law asks nothing of them); the library's tables as the program's text lays them.
-/
import Derived.Test.YtbbebnbofalmlaaDoorLexFrame
import Derived.Test.YtbbebnbofalmlaaDoorLexR5
import Derived.Test.YtbbebnbofalmlaaDoorLexK
import Derived.Test.YtbbebnbofalmlaaDoorLexN
import Derived.Lib.ItoaLen
namespace Go.Proofs.YtbbebnbofalmlaaDoor.Lx
open Go.RowKit

theorem takeWhile_all {p : Ch → Bool} : ∀ ws : List Ch, (∀ w ∈ ws, p w = true) → ws.takeWhile p = ws
  | [], _ => rfl
  | w :: ws, h => by rw [List.takeWhile_cons_of_pos (h w (by simp)), takeWhile_all ws (fun x hx => h x (by simp [hx]))]
theorem cut_good (l : List UInt8) (hl : l.length ≤ 8192) (hg : Good (rn l)) : cutL l = T (rn l) 0 [] := by
  unfold cutL; rw [if_neg (by omega), (badAt_none _ _).2 hg]; rfl
theorem T_one (c : Ch) (ds : List Ch) (t : Tok) (hcan : Can (c :: ds)) (h1 : clsI c.1 ≠ 1) (h6 : clsI c.1 ≠ 6) (h : tokenT (clsI c.1) (flat (c :: ds)) = (t, (flat (c :: ds)).length, 0)) :
    T (c :: ds) 0 [] = ([{ t with at_ := 0 }, ⟨0, [], 0, ((ds.length + 1 : Nat) : Int)⟩], 0, 0) := by
  rw [T_ok c ds ds [] 0 [] hcan h1 h6 (by simp) (by rw [h]) (by rw [h]), if_neg (by simp), h, T_nil]
  rw [show 0 + 1 + ds.length = ds.length + 1 from by omega]
  rfl

theorem cut_name (l : List UInt8) (hl : l.length ≤ 8192) (h : nameB l = true) : ∃ p, cutL l = ([⟨1, l, 0, 0⟩, ⟨0, [], 0, p⟩], 0, 0) := by
  obtain ⟨h1, h2, h3, h4⟩ := (nameGo_iff (rn l) 0 (by omega)).1 h
  have hw : ∀ c ∈ rn l, isW c = true := h3
  obtain ⟨c, ds, hc⟩ : ∃ c ds, rn l = c :: ds := by
    cases hm : rn l with
    | nil => rw [hm] at h2; simp at h2
    | cons c ds => exact ⟨c, ds, rfl⟩
  have hL := h4 rfl c (by rw [hc]; rfl)
  have hc2 := (cls_two' c.1).2 hL
  have hfl : flat (c :: ds) = l := by rw [← hc, flat_rn]
  have hwl : wordL l = l := by
    unfold wordL wordC
    rw [takeWhile_all _ hw, flat_rn]
  rw [cut_good l hl (fun x hx => isW_not_bad (hw x hx)), hc]
  have hcan : Can (c :: ds) := by rw [← hc]; exact can_rn l
  refine ⟨_, T_one c ds ⟨1, l, 0, 0⟩ hcan (by rw [hc2]; decide) (by rw [hc2]; decide) ?_⟩
  rw [hc2, hfl]
  unfold tokenT
  rw [if_pos rfl]
  unfold nameT
  rw [hwl, if_pos h]

theorem cut_number (l : List UInt8) (n : Int) (hl : l.length ≤ 8192) (hne : l ≠ []) (hd : ∀ c ∈ rn l, digitI c.1 = true) (h : numberL l = some n) : ∃ p, cutL l = ([⟨2, l, n, 0⟩, ⟨0, [], 0, p⟩], 0, 0) := by
  have hw : ∀ c ∈ rn l, isW c = true := fun c hc => by unfold isW; rw [hd c hc]; simp
  obtain ⟨c, ds, hc⟩ : ∃ c ds, rn l = c :: ds := by
    cases hm : rn l with
    | nil => exact absurd (rn_eq_nil hm) hne
    | cons c ds => exact ⟨c, ds, rfl⟩
  have hc3 := (cls_three' c.1).2 (hd c (by rw [hc]; simp))
  have hfl : flat (c :: ds) = l := by rw [← hc, flat_rn]
  have hwl : wordL l = l := by
    unfold wordL wordC
    rw [takeWhile_all _ hw, flat_rn]
  rw [cut_good l hl (fun x hx => isW_not_bad (hw x hx)), hc]
  have hcan : Can (c :: ds) := by rw [← hc]; exact can_rn l
  refine ⟨_, T_one c ds ⟨2, l, n, 0⟩ hcan (by rw [hc3]; decide) (by rw [hc3]; decide) ?_⟩
  rw [hc3, hfl]
  unfold tokenT
  rw [if_neg (by decide), if_pos rfl]
  unfold numberT
  rw [hwl, h]

theorem digits_all (u : Nat) : ∀ b ∈ Lib.decDigits u, 48 ≤ b.toNat ∧ b.toNat ≤ 57 := by
  induction u using Nat.strongRecOn with
  | ind u ih =>
    intro b hb
    by_cases h : u < 10
    · rw [Lib.decDigits_one h] at hb
      simp at hb
      subst hb
      simp
      omega
    · rw [Lib.decDigits, dif_neg h] at hb
      rcases List.mem_append.1 hb with hb | hb
      · exact ih (u / 10) (by omega) b hb
      · simp at hb
        subst hb
        simp
        omega
theorem rn_digits : ∀ (l : List UInt8), (∀ b ∈ l, 48 ≤ b.toNat ∧ b.toNat ≤ 57) → ∀ c ∈ rn l, digitI c.1 = true
  | [], _, c, hc => by simp [rn_nil] at hc
  | b :: l, h, c, hc => by
    have hb := h b (by simp)
    rw [rn_ascii b l (by omega)] at hc
    rcases List.mem_cons.1 hc with rfl | hc
    · simp [digitI]; omega
    · exact rn_digits l (fun x hx => h x (by simp [hx])) c hc
theorem cut_show (n : Int) (h0 : 0 ≤ n) (h1 : n ≤ 9223372036854775807) : ∃ p, cutL (Lib.itoa n) = ([⟨2, Lib.itoa n, n, 0⟩, ⟨0, [], 0, p⟩], 0, 0) := by
  have hs := number_show n h1
  rw [if_neg (by omega)] at hs
  have hi : Lib.itoa n = Lib.decDigits n.toNat := by unfold Lib.itoa; rw [if_neg (by omega)]
  have hl := Lib.itoa_length_le n (by omega) h1
  exact cut_number _ n (by omega) (by rw [hi]; exact decDigits_ne _) (by rw [hi]; exact rn_digits _ (digits_all _)) hs

theorem cut_quote (l : List UInt8) (hl : l.length ≤ 8000) (h : quoteB l = true) : ∃ p, cutL (34 :: (l ++ [34])) = ([⟨3, l, 0, 0⟩, ⟨0, [], 0, p⟩], 0, 0) := by
  obtain ⟨h1, h2⟩ := (quoteGo_iff (rn l) 0 (by omega)).1 h
  have hf34 : Firm ((34, [34]) : Ch) := ⟨by simp, fun rest => dec_ascii 34 rest (by decide)⟩
  have hfirm : ∀ c ∈ ((34, [34]) : Ch) :: (rn l ++ [(34, [34])]), Firm c := by
    intro c hc
    rcases List.mem_cons.1 hc with rfl | hc
    · exact hf34
    · rcases List.mem_append.1 hc with hc | hc
      · exact firm_mem l c hc (h2 c hc).2.2
      · simp at hc; rw [hc]; exact hf34
  have hfl : flat (((34, [34]) : Ch) :: (rn l ++ [(34, [34])])) = 34 :: (l ++ [34]) := by
    show [34] ++ flat (rn l ++ [(34, [34])]) = _
    rw [flat_append, flat_rn]; rfl
  have hrn : rn (34 :: (l ++ [34])) = (34, [34]) :: (rn l ++ [(34, [34])]) := by rw [← hfl]; exact rn_firm' _ hfirm
  rw [cut_good _ (by simp; omega) ?_, hrn]
  · have hcan : Can (((34, [34]) : Ch) :: (rn l ++ [(34, [34])])) := by rw [← hrn]; exact can_rn _
    refine ⟨_, T_one (34, [34]) _ ⟨3, l, 0, 0⟩ hcan (by decide) (by decide) ?_⟩
    rw [hfl, show clsI ((34, [34]) : Ch).1 = 5 from by decide]
    unfold tokenT
    rw [if_neg (by decide), if_neg (by decide), if_pos rfl]
    unfold textT
    have hrn2 : rn ((34 :: (l ++ [34]) : List UInt8).drop 1) = rn l ++ [(34, [34])] := by
      have h3 := hrn
      rw [rn_ascii 34 _ (by decide)] at h3
      injection h3
    rw [dec_ascii 34 _ (by decide)]
    simp only [hrn2]
    rw [textGo_join (rn l) (34, [34]) [] 0 1 rfl (fun x hx => ⟨(h2 x hx).2.1, (h2 x hx).1⟩) (by omega)]
    simp only [if_true]
    rw [flat_rn]
    simp
    omega
  · rw [hrn]
    intro c hc
    rcases List.mem_cons.1 hc with rfl | hc
    · rfl
    · rcases List.mem_append.1 hc with hc | hc
      · exact (h2 c hc).2.2
      · simp at hc; rw [hc]; rfl

theorem two_toks {w : World} {base : Nat} {v : Value} {t u : Tok} {e : TypeId} (h : w.ownsRow base e 4 v ([t, u] : List Tok).length (toksC [t, u])) :
    ∃ g c, v = .slice (some ⟨g, 0, none⟩) 2 c ∧ 2 ≤ c ∧ w.cell? ⟨g, 0, none⟩ = some (.int .i64 t.kind) ∧ w.cell? ⟨g, 1, none⟩ = some (.string ⟨t.text.toArray⟩) ∧ w.cell? ⟨g, 2, none⟩ = some (.int .i64 t.n) := by
  obtain ⟨A, c, rfl⟩ := ownsRow_slice h
  obtain ⟨_, hcap, hrow⟩ := own_toks h
  obtain ⟨g, rfl, _, hcells⟩ := hrow (by simp)
  obtain ⟨x0, x1, x2, _⟩ := hcells 0 (by simp)
  exact ⟨g, c, rfl, hcap, x0, x1, x2⟩
theorem string_whole (s : ByteArray) : Value.string ⟨s.data.toList.toArray⟩ = .string s := congrArg Value.string (whole_list s).symm

set_option maxRecDepth 100000 in
set_option maxHeartbeats 8000000 in
theorem words_111 (s : ByteArray) (n : Int) (w : World) (hs : s.size ≤ 100) (h0 : -9223372036854775808 ≤ n) (h1 : n ≤ 9223372036854775807) (hT : Tab w) (HN : Hid (nameB s.data.toList = true)) (HQ : Hid (quoteE s.data.toList = .returned (.tuple #[.string ⟨(34 :: (s.data.toList ++ [34])).toArray⟩, .bool true]))) (hn : 0 ≤ n) (p : Int) (HC : Hid (cutL s.data.toList = ([⟨1, s.data.toList, 0, 0⟩, ⟨0, [], 0, p⟩], 0, 0))) (q : Int) (HD : Hid (cutL (34 :: (s.data.toList ++ [34])) = ([⟨3, s.data.toList, 0, 0⟩, ⟨0, [], 0, q⟩], 0, 0))) (r : Int) (HE : Hid (cutL (Lib.itoa n) = ([⟨2, Lib.itoa n, n, 0⟩, ⟨0, [], 0, r⟩], 0, 0))) :
    Calls Tryd.prog 11 #[.string s, .int .i64 n] w fun e w' => e = .returned (.bool true) ∧ Below w.heap.size w w' := by
  have d0 : decide ((100 : Int) < s.size) = false := by simp; omega
  have d1 : decide ((0 : Int) ≤ n) = true := by simp; omega
  go_enter Tryd.func11, Tryd.ntmps11
  go_wp2_with fail
  refine (awake_any _ hT).mono ?_
  rintro e w1 ⟨rfl, hb1⟩
  go_wp2_with fail
  refine (Name_any s _).mono ?_
  rintro e w2 ⟨rfl, hb2⟩
  rw [HN.out]
  have hb12 := hb1.trans (hb2.mono hb1.size)
  clear hb1 hb2
  go_wp2_with fail
  refine (Cut_any s _ (by omega)).mono ?_
  rintro e w3 ⟨v, rfl, hown, hb⟩
  have HX : cutL s.data.toList = _ := HC.out
  rw [HX] at hown ⊢
  clear HX
  simp only at hown ⊢
  obtain ⟨g3, c3, rfl, hcap, x0, x1, x2⟩ := two_toks hown
  clear hown
  have hb13 := hb12.trans (hb.mono hb12.size)
  clear hb hb12
  rw [string_whole] at x1
  go_wp2_with fail
  clear x0 x1 x2 hcap
  refine (Quote_any s _ (by omega)).mono ?_
  rintro e w4 ⟨he, hb⟩
  rw [HQ.out] at he
  subst he
  have hb14 := (hb13).trans (hb.mono (hb13).size)
  clear hb hb13
  go_wp2_with fail
  refine (Cut_any _ _ (by show (34 :: (s.data.toList ++ [34])).toArray.size ≤ _; rw [List.size_toArray]; have : s.data.toList.length = s.size := Array.length_toList; simp; omega)).mono ?_
  rintro e w5 ⟨v, rfl, hown, hb⟩
  have HX : cutL (⟨(34 :: (s.data.toList ++ [34])).toArray⟩ : ByteArray).data.toList = _ := HD.out
  rw [HX] at hown ⊢
  clear HX
  simp only at hown ⊢
  obtain ⟨g5, c5, rfl, hcap, x0, x1, x2⟩ := two_toks hown
  clear hown
  have hb15 := hb14.trans (hb.mono hb14.size)
  clear hb hb14
  rw [string_whole] at x1
  go_wp2_with fail
  clear x0 x1 x2 hcap
  refine (Show_any n _ h0 h1 (hT.below (hb15))).mono ?_
  rintro e w6 ⟨rfl, hb⟩
  have hb16 := (hb15).trans (hb.mono (hb15).size)
  clear hb hb15
  go_wp2_with fail
  refine (Cut_any _ _ (by show (Lib.itoa n).toArray.size ≤ _; rw [List.size_toArray]; have := Lib.itoa_length_le n h0 h1; omega)).mono ?_
  rintro e w7 ⟨v, rfl, hown, hb⟩
  have HX : cutL (⟨(Lib.itoa n).toArray⟩ : ByteArray).data.toList = _ := HE.out
  rw [HX] at hown ⊢
  clear HX
  simp only at hown ⊢
  obtain ⟨g7, c7, rfl, hcap, x0, x1, x2⟩ := two_toks hown
  clear hown
  have hb17 := hb16.trans (hb.mono hb16.size)
  clear hb hb16
  have t2 : (n != n) = false := by simp
  go_wp2_with fail
  clear x0 x1 x2 hcap t2
  go_ret
  exact ⟨rfl, hb17⟩
set_option maxRecDepth 100000 in
set_option maxHeartbeats 8000000 in
theorem words_110 (s : ByteArray) (n : Int) (w : World) (hs : s.size ≤ 100) (_h0 : -9223372036854775808 ≤ n) (_h1 : n ≤ 9223372036854775807) (hT : Tab w) (HN : Hid (nameB s.data.toList = true)) (HQ : Hid (quoteE s.data.toList = .returned (.tuple #[.string ⟨(34 :: (s.data.toList ++ [34])).toArray⟩, .bool true]))) (hn : n < 0) (p : Int) (HC : Hid (cutL s.data.toList = ([⟨1, s.data.toList, 0, 0⟩, ⟨0, [], 0, p⟩], 0, 0))) (q : Int) (HD : Hid (cutL (34 :: (s.data.toList ++ [34])) = ([⟨3, s.data.toList, 0, 0⟩, ⟨0, [], 0, q⟩], 0, 0))) :
    Calls Tryd.prog 11 #[.string s, .int .i64 n] w fun e w' => e = .returned (.bool true) ∧ Below w.heap.size w w' := by
  have d0 : decide ((100 : Int) < s.size) = false := by simp; omega
  have d1 : decide ((0 : Int) ≤ n) = false := by simp; omega
  go_enter Tryd.func11, Tryd.ntmps11
  go_wp2_with fail
  refine (awake_any _ hT).mono ?_
  rintro e w1 ⟨rfl, hb1⟩
  go_wp2_with fail
  refine (Name_any s _).mono ?_
  rintro e w2 ⟨rfl, hb2⟩
  rw [HN.out]
  have hb12 := hb1.trans (hb2.mono hb1.size)
  clear hb1 hb2
  go_wp2_with fail
  refine (Cut_any s _ (by omega)).mono ?_
  rintro e w3 ⟨v, rfl, hown, hb⟩
  have HX : cutL s.data.toList = _ := HC.out
  rw [HX] at hown ⊢
  clear HX
  simp only at hown ⊢
  obtain ⟨g3, c3, rfl, hcap, x0, x1, x2⟩ := two_toks hown
  clear hown
  have hb13 := hb12.trans (hb.mono hb12.size)
  clear hb hb12
  rw [string_whole] at x1
  go_wp2_with fail
  clear x0 x1 x2 hcap
  refine (Quote_any s _ (by omega)).mono ?_
  rintro e w4 ⟨he, hb⟩
  rw [HQ.out] at he
  subst he
  have hb14 := (hb13).trans (hb.mono (hb13).size)
  clear hb hb13
  go_wp2_with fail
  refine (Cut_any _ _ (by show (34 :: (s.data.toList ++ [34])).toArray.size ≤ _; rw [List.size_toArray]; have : s.data.toList.length = s.size := Array.length_toList; simp; omega)).mono ?_
  rintro e w5 ⟨v, rfl, hown, hb⟩
  have HX : cutL (⟨(34 :: (s.data.toList ++ [34])).toArray⟩ : ByteArray).data.toList = _ := HD.out
  rw [HX] at hown ⊢
  clear HX
  simp only at hown ⊢
  obtain ⟨g5, c5, rfl, hcap, x0, x1, x2⟩ := two_toks hown
  clear hown
  have hb15 := hb14.trans (hb.mono hb14.size)
  clear hb hb14
  rw [string_whole] at x1
  go_wp2_with fail
  clear x0 x1 x2 hcap
  go_ret
  exact ⟨rfl, hb15⟩
set_option maxRecDepth 100000 in
set_option maxHeartbeats 8000000 in
theorem words_101 (s : ByteArray) (n : Int) (w : World) (hs : s.size ≤ 100) (h0 : -9223372036854775808 ≤ n) (h1 : n ≤ 9223372036854775807) (hT : Tab w) (HN : Hid (nameB s.data.toList = true)) (HQ : Hid (quoteE s.data.toList = .returned (.tuple #[.string ⟨#[]⟩, .bool false]))) (hn : 0 ≤ n) (p : Int) (HC : Hid (cutL s.data.toList = ([⟨1, s.data.toList, 0, 0⟩, ⟨0, [], 0, p⟩], 0, 0))) (r : Int) (HE : Hid (cutL (Lib.itoa n) = ([⟨2, Lib.itoa n, n, 0⟩, ⟨0, [], 0, r⟩], 0, 0))) :
    Calls Tryd.prog 11 #[.string s, .int .i64 n] w fun e w' => e = .returned (.bool true) ∧ Below w.heap.size w w' := by
  have d0 : decide ((100 : Int) < s.size) = false := by simp; omega
  have d1 : decide ((0 : Int) ≤ n) = true := by simp; omega
  go_enter Tryd.func11, Tryd.ntmps11
  go_wp2_with fail
  refine (awake_any _ hT).mono ?_
  rintro e w1 ⟨rfl, hb1⟩
  go_wp2_with fail
  refine (Name_any s _).mono ?_
  rintro e w2 ⟨rfl, hb2⟩
  rw [HN.out]
  have hb12 := hb1.trans (hb2.mono hb1.size)
  clear hb1 hb2
  go_wp2_with fail
  refine (Cut_any s _ (by omega)).mono ?_
  rintro e w3 ⟨v, rfl, hown, hb⟩
  have HX : cutL s.data.toList = _ := HC.out
  rw [HX] at hown ⊢
  clear HX
  simp only at hown ⊢
  obtain ⟨g3, c3, rfl, hcap, x0, x1, x2⟩ := two_toks hown
  clear hown
  have hb13 := hb12.trans (hb.mono hb12.size)
  clear hb hb12
  rw [string_whole] at x1
  go_wp2_with fail
  clear x0 x1 x2 hcap
  refine (Quote_any s _ (by omega)).mono ?_
  rintro e w4 ⟨he, hb⟩
  rw [HQ.out] at he
  subst he
  have hb14 := (hb13).trans (hb.mono (hb13).size)
  clear hb hb13
  go_wp2_with fail
  refine (Show_any n _ h0 h1 (hT.below (hb14))).mono ?_
  rintro e w5 ⟨rfl, hb⟩
  have hb15 := (hb14).trans (hb.mono (hb14).size)
  clear hb hb14
  go_wp2_with fail
  refine (Cut_any _ _ (by show (Lib.itoa n).toArray.size ≤ _; rw [List.size_toArray]; have := Lib.itoa_length_le n h0 h1; omega)).mono ?_
  rintro e w6 ⟨v, rfl, hown, hb⟩
  have HX : cutL (⟨(Lib.itoa n).toArray⟩ : ByteArray).data.toList = _ := HE.out
  rw [HX] at hown ⊢
  clear HX
  simp only at hown ⊢
  obtain ⟨g6, c6, rfl, hcap, x0, x1, x2⟩ := two_toks hown
  clear hown
  have hb16 := hb15.trans (hb.mono hb15.size)
  clear hb hb15
  have t2 : (n != n) = false := by simp
  go_wp2_with fail
  clear x0 x1 x2 hcap t2
  go_ret
  exact ⟨rfl, hb16⟩
set_option maxRecDepth 100000 in
set_option maxHeartbeats 8000000 in
theorem words_100 (s : ByteArray) (n : Int) (w : World) (hs : s.size ≤ 100) (_h0 : -9223372036854775808 ≤ n) (_h1 : n ≤ 9223372036854775807) (hT : Tab w) (HN : Hid (nameB s.data.toList = true)) (HQ : Hid (quoteE s.data.toList = .returned (.tuple #[.string ⟨#[]⟩, .bool false]))) (hn : n < 0) (p : Int) (HC : Hid (cutL s.data.toList = ([⟨1, s.data.toList, 0, 0⟩, ⟨0, [], 0, p⟩], 0, 0))) :
    Calls Tryd.prog 11 #[.string s, .int .i64 n] w fun e w' => e = .returned (.bool true) ∧ Below w.heap.size w w' := by
  have d0 : decide ((100 : Int) < s.size) = false := by simp; omega
  have d1 : decide ((0 : Int) ≤ n) = false := by simp; omega
  go_enter Tryd.func11, Tryd.ntmps11
  go_wp2_with fail
  refine (awake_any _ hT).mono ?_
  rintro e w1 ⟨rfl, hb1⟩
  go_wp2_with fail
  refine (Name_any s _).mono ?_
  rintro e w2 ⟨rfl, hb2⟩
  rw [HN.out]
  have hb12 := hb1.trans (hb2.mono hb1.size)
  clear hb1 hb2
  go_wp2_with fail
  refine (Cut_any s _ (by omega)).mono ?_
  rintro e w3 ⟨v, rfl, hown, hb⟩
  have HX : cutL s.data.toList = _ := HC.out
  rw [HX] at hown ⊢
  clear HX
  simp only at hown ⊢
  obtain ⟨g3, c3, rfl, hcap, x0, x1, x2⟩ := two_toks hown
  clear hown
  have hb13 := hb12.trans (hb.mono hb12.size)
  clear hb hb12
  rw [string_whole] at x1
  go_wp2_with fail
  clear x0 x1 x2 hcap
  refine (Quote_any s _ (by omega)).mono ?_
  rintro e w4 ⟨he, hb⟩
  rw [HQ.out] at he
  subst he
  have hb14 := (hb13).trans (hb.mono (hb13).size)
  clear hb hb13
  go_wp2_with fail
  go_ret
  exact ⟨rfl, hb14⟩
set_option maxRecDepth 100000 in
set_option maxHeartbeats 8000000 in
theorem words_011 (s : ByteArray) (n : Int) (w : World) (hs : s.size ≤ 100) (h0 : -9223372036854775808 ≤ n) (h1 : n ≤ 9223372036854775807) (hT : Tab w) (HN : Hid (nameB s.data.toList = false)) (HQ : Hid (quoteE s.data.toList = .returned (.tuple #[.string ⟨(34 :: (s.data.toList ++ [34])).toArray⟩, .bool true]))) (hn : 0 ≤ n) (q : Int) (HD : Hid (cutL (34 :: (s.data.toList ++ [34])) = ([⟨3, s.data.toList, 0, 0⟩, ⟨0, [], 0, q⟩], 0, 0))) (r : Int) (HE : Hid (cutL (Lib.itoa n) = ([⟨2, Lib.itoa n, n, 0⟩, ⟨0, [], 0, r⟩], 0, 0))) :
    Calls Tryd.prog 11 #[.string s, .int .i64 n] w fun e w' => e = .returned (.bool true) ∧ Below w.heap.size w w' := by
  have d0 : decide ((100 : Int) < s.size) = false := by simp; omega
  have d1 : decide ((0 : Int) ≤ n) = true := by simp; omega
  go_enter Tryd.func11, Tryd.ntmps11
  go_wp2_with fail
  refine (awake_any _ hT).mono ?_
  rintro e w1 ⟨rfl, hb1⟩
  go_wp2_with fail
  refine (Name_any s _).mono ?_
  rintro e w2 ⟨rfl, hb2⟩
  rw [HN.out]
  have hb12 := hb1.trans (hb2.mono hb1.size)
  clear hb1 hb2
  go_wp2_with fail
  refine (Quote_any s _ (by omega)).mono ?_
  rintro e w3 ⟨he, hb⟩
  rw [HQ.out] at he
  subst he
  have hb13 := (hb12).trans (hb.mono (hb12).size)
  clear hb hb12
  go_wp2_with fail
  refine (Cut_any _ _ (by show (34 :: (s.data.toList ++ [34])).toArray.size ≤ _; rw [List.size_toArray]; have : s.data.toList.length = s.size := Array.length_toList; simp; omega)).mono ?_
  rintro e w4 ⟨v, rfl, hown, hb⟩
  have HX : cutL (⟨(34 :: (s.data.toList ++ [34])).toArray⟩ : ByteArray).data.toList = _ := HD.out
  rw [HX] at hown ⊢
  clear HX
  simp only at hown ⊢
  obtain ⟨g4, c4, rfl, hcap, x0, x1, x2⟩ := two_toks hown
  clear hown
  have hb14 := hb13.trans (hb.mono hb13.size)
  clear hb hb13
  rw [string_whole] at x1
  go_wp2_with fail
  clear x0 x1 x2 hcap
  refine (Show_any n _ h0 h1 (hT.below (hb14))).mono ?_
  rintro e w5 ⟨rfl, hb⟩
  have hb15 := (hb14).trans (hb.mono (hb14).size)
  clear hb hb14
  go_wp2_with fail
  refine (Cut_any _ _ (by show (Lib.itoa n).toArray.size ≤ _; rw [List.size_toArray]; have := Lib.itoa_length_le n h0 h1; omega)).mono ?_
  rintro e w6 ⟨v, rfl, hown, hb⟩
  have HX : cutL (⟨(Lib.itoa n).toArray⟩ : ByteArray).data.toList = _ := HE.out
  rw [HX] at hown ⊢
  clear HX
  simp only at hown ⊢
  obtain ⟨g6, c6, rfl, hcap, x0, x1, x2⟩ := two_toks hown
  clear hown
  have hb16 := hb15.trans (hb.mono hb15.size)
  clear hb hb15
  have t2 : (n != n) = false := by simp
  go_wp2_with fail
  clear x0 x1 x2 hcap t2
  go_ret
  exact ⟨rfl, hb16⟩
set_option maxRecDepth 100000 in
set_option maxHeartbeats 8000000 in
theorem words_010 (s : ByteArray) (n : Int) (w : World) (hs : s.size ≤ 100) (_h0 : -9223372036854775808 ≤ n) (_h1 : n ≤ 9223372036854775807) (hT : Tab w) (HN : Hid (nameB s.data.toList = false)) (HQ : Hid (quoteE s.data.toList = .returned (.tuple #[.string ⟨(34 :: (s.data.toList ++ [34])).toArray⟩, .bool true]))) (hn : n < 0) (q : Int) (HD : Hid (cutL (34 :: (s.data.toList ++ [34])) = ([⟨3, s.data.toList, 0, 0⟩, ⟨0, [], 0, q⟩], 0, 0))) :
    Calls Tryd.prog 11 #[.string s, .int .i64 n] w fun e w' => e = .returned (.bool true) ∧ Below w.heap.size w w' := by
  have d0 : decide ((100 : Int) < s.size) = false := by simp; omega
  have d1 : decide ((0 : Int) ≤ n) = false := by simp; omega
  go_enter Tryd.func11, Tryd.ntmps11
  go_wp2_with fail
  refine (awake_any _ hT).mono ?_
  rintro e w1 ⟨rfl, hb1⟩
  go_wp2_with fail
  refine (Name_any s _).mono ?_
  rintro e w2 ⟨rfl, hb2⟩
  rw [HN.out]
  have hb12 := hb1.trans (hb2.mono hb1.size)
  clear hb1 hb2
  go_wp2_with fail
  refine (Quote_any s _ (by omega)).mono ?_
  rintro e w3 ⟨he, hb⟩
  rw [HQ.out] at he
  subst he
  have hb13 := (hb12).trans (hb.mono (hb12).size)
  clear hb hb12
  go_wp2_with fail
  refine (Cut_any _ _ (by show (34 :: (s.data.toList ++ [34])).toArray.size ≤ _; rw [List.size_toArray]; have : s.data.toList.length = s.size := Array.length_toList; simp; omega)).mono ?_
  rintro e w4 ⟨v, rfl, hown, hb⟩
  have HX : cutL (⟨(34 :: (s.data.toList ++ [34])).toArray⟩ : ByteArray).data.toList = _ := HD.out
  rw [HX] at hown ⊢
  clear HX
  simp only at hown ⊢
  obtain ⟨g4, c4, rfl, hcap, x0, x1, x2⟩ := two_toks hown
  clear hown
  have hb14 := hb13.trans (hb.mono hb13.size)
  clear hb hb13
  rw [string_whole] at x1
  go_wp2_with fail
  clear x0 x1 x2 hcap
  go_ret
  exact ⟨rfl, hb14⟩
set_option maxRecDepth 100000 in
set_option maxHeartbeats 8000000 in
theorem words_001 (s : ByteArray) (n : Int) (w : World) (hs : s.size ≤ 100) (h0 : -9223372036854775808 ≤ n) (h1 : n ≤ 9223372036854775807) (hT : Tab w) (HN : Hid (nameB s.data.toList = false)) (HQ : Hid (quoteE s.data.toList = .returned (.tuple #[.string ⟨#[]⟩, .bool false]))) (hn : 0 ≤ n) (r : Int) (HE : Hid (cutL (Lib.itoa n) = ([⟨2, Lib.itoa n, n, 0⟩, ⟨0, [], 0, r⟩], 0, 0))) :
    Calls Tryd.prog 11 #[.string s, .int .i64 n] w fun e w' => e = .returned (.bool true) ∧ Below w.heap.size w w' := by
  have d0 : decide ((100 : Int) < s.size) = false := by simp; omega
  have d1 : decide ((0 : Int) ≤ n) = true := by simp; omega
  go_enter Tryd.func11, Tryd.ntmps11
  go_wp2_with fail
  refine (awake_any _ hT).mono ?_
  rintro e w1 ⟨rfl, hb1⟩
  go_wp2_with fail
  refine (Name_any s _).mono ?_
  rintro e w2 ⟨rfl, hb2⟩
  rw [HN.out]
  have hb12 := hb1.trans (hb2.mono hb1.size)
  clear hb1 hb2
  go_wp2_with fail
  refine (Quote_any s _ (by omega)).mono ?_
  rintro e w3 ⟨he, hb⟩
  rw [HQ.out] at he
  subst he
  have hb13 := (hb12).trans (hb.mono (hb12).size)
  clear hb hb12
  go_wp2_with fail
  refine (Show_any n _ h0 h1 (hT.below (hb13))).mono ?_
  rintro e w4 ⟨rfl, hb⟩
  have hb14 := (hb13).trans (hb.mono (hb13).size)
  clear hb hb13
  go_wp2_with fail
  refine (Cut_any _ _ (by show (Lib.itoa n).toArray.size ≤ _; rw [List.size_toArray]; have := Lib.itoa_length_le n h0 h1; omega)).mono ?_
  rintro e w5 ⟨v, rfl, hown, hb⟩
  have HX : cutL (⟨(Lib.itoa n).toArray⟩ : ByteArray).data.toList = _ := HE.out
  rw [HX] at hown ⊢
  clear HX
  simp only at hown ⊢
  obtain ⟨g5, c5, rfl, hcap, x0, x1, x2⟩ := two_toks hown
  clear hown
  have hb15 := hb14.trans (hb.mono hb14.size)
  clear hb hb14
  have t2 : (n != n) = false := by simp
  go_wp2_with fail
  clear x0 x1 x2 hcap t2
  go_ret
  exact ⟨rfl, hb15⟩
set_option maxRecDepth 100000 in
set_option maxHeartbeats 8000000 in
theorem words_000 (s : ByteArray) (n : Int) (w : World) (hs : s.size ≤ 100) (_h0 : -9223372036854775808 ≤ n) (_h1 : n ≤ 9223372036854775807) (hT : Tab w) (HN : Hid (nameB s.data.toList = false)) (HQ : Hid (quoteE s.data.toList = .returned (.tuple #[.string ⟨#[]⟩, .bool false]))) (hn : n < 0) :
    Calls Tryd.prog 11 #[.string s, .int .i64 n] w fun e w' => e = .returned (.bool true) ∧ Below w.heap.size w w' := by
  have d0 : decide ((100 : Int) < s.size) = false := by simp; omega
  have d1 : decide ((0 : Int) ≤ n) = false := by simp; omega
  go_enter Tryd.func11, Tryd.ntmps11
  go_wp2_with fail
  refine (awake_any _ hT).mono ?_
  rintro e w1 ⟨rfl, hb1⟩
  go_wp2_with fail
  refine (Name_any s _).mono ?_
  rintro e w2 ⟨rfl, hb2⟩
  rw [HN.out]
  have hb12 := hb1.trans (hb2.mono hb1.size)
  clear hb1 hb2
  go_wp2_with fail
  refine (Quote_any s _ (by omega)).mono ?_
  rintro e w3 ⟨he, hb⟩
  rw [HQ.out] at he
  subst he
  have hb13 := (hb12).trans (hb.mono (hb12).size)
  clear hb hb12
  go_wp2_with fail
  go_ret
  exact ⟨rfl, hb13⟩

set_option maxRecDepth 100000 in
set_option maxHeartbeats 8000000 in
theorem words_walk (s : ByteArray) (n : Int) (w : World) (hs : s.size ≤ 9223372036854775807) (h0 : -9223372036854775808 ≤ n) (h1 : n ≤ 9223372036854775807) (hT : Tab w) :
    Calls Tryd.prog 11 #[.string s, .int .i64 n] w fun e w' => e = .returned (.bool true) ∧ Below w.heap.size w w' := by
  by_cases hbig : 100 < s.size
  · go_enter Tryd.func11, Tryd.ntmps11
    go_wp2_with fail
    refine (awake_any _ hT).mono ?_
    rintro e w1 ⟨rfl, hb⟩
    go_wp2_with fail
    go_ret
    exact ⟨rfl, hb⟩
  · have hsm : s.size ≤ 100 := by omega
    have hll : s.data.toList.length = s.size := Array.length_toList
    have hn : (∃ p, nameB s.data.toList = true ∧ cutL s.data.toList = ([⟨1, s.data.toList, 0, 0⟩, ⟨0, [], 0, p⟩], 0, 0)) ∨ nameB s.data.toList = false := by
      cases h : nameB s.data.toList with
      | true =>
        obtain ⟨p, hp⟩ := cut_name _ (by omega) h
        exact Or.inl ⟨p, rfl, hp⟩
      | false => exact Or.inr rfl
    have hq : (∃ q, quoteE s.data.toList = .returned (.tuple #[.string ⟨(34 :: (s.data.toList ++ [34])).toArray⟩, .bool true]) ∧ cutL (34 :: (s.data.toList ++ [34])) = ([⟨3, s.data.toList, 0, 0⟩, ⟨0, [], 0, q⟩], 0, 0)) ∨ quoteE s.data.toList = .returned (.tuple #[.string ⟨#[]⟩, .bool false]) := by
      by_cases h : quoteB s.data.toList = true
      · obtain ⟨q, hq⟩ := cut_quote _ (by omega) h
        exact Or.inl ⟨q, by unfold quoteE; rw [if_pos h], hq⟩
      · exact Or.inr (by unfold quoteE; rw [if_neg h])
    have hm : (0 ≤ n ∧ ∃ r, cutL (Lib.itoa n) = ([⟨2, Lib.itoa n, n, 0⟩, ⟨0, [], 0, r⟩], 0, 0)) ∨ n < 0 := by
      by_cases h : 0 ≤ n
      · exact Or.inl ⟨h, cut_show n h h1⟩
      · exact Or.inr (by omega)
    rcases hn with ⟨p, hn, hp⟩ | hn <;> rcases hq with ⟨q, hq, hq2⟩ | hq <;> rcases hm with ⟨hm, r, hr⟩ | hm
    · exact words_111 s n w hsm h0 h1 hT hn hq hm p hp q hq2 r hr
    · exact words_110 s n w hsm h0 h1 hT hn hq hm p hp q hq2
    · exact words_101 s n w hsm h0 h1 hT hn hq hm p hp r hr
    · exact words_100 s n w hsm h0 h1 hT hn hq hm p hp
    · exact words_011 s n w hsm h0 h1 hT hn hq hm q hq2 r hr
    · exact words_010 s n w hsm h0 h1 hT hn hq hm q hq2
    · exact words_001 s n w hsm h0 h1 hT hn hq hm r hr
    · exact words_000 s n w hsm h0 h1 hT hn hq hm
end Go.Proofs.YtbbebnbofalmlaaDoor.Lx
namespace Go.Proofs.YtbbebnbofalmlaaDoor.LexWords
open Go.ChangeShapes Go.WideShapes Go.ChangeAt Go.RowKit Lx

theorem contract (H : Type) (enc : TypeId × Value → H) (W : World) (base : Nat) (args : Array Value) (ds gs : List (DataW H)) (before : List MemPlace)
    (hval : ∀ (j : Nat) t v, Tryd.f11.params[j]? = some t → args[j]? = some v → Value.okWide Tryd.prog W .any base t v)
    (hW : DataW.Whole enc Tryd.prog Tryd.f11.params.toList Rows.lexWordsSpec.vars false W args.toList ds gs before) (hL : laidMetH Tryd.prog Rows.lexWordsRow.laid W) :
    Calls Tryd.prog 11 args W fun e W' => ∃ v, e = .returned v ∧ Rows.lexWordsSpec.post enc Tryd.prog Tryd.f11 false true false false W args v W' := by
  have hW' := hW
  obtain ⟨p, q, hA0, hV, rfl, hfz, hnd⟩ := hW
  have hA : DataW.TrodAll enc Tryd.prog W 0 (fun _ => true) true Tryd.f11.params.toList args.toList ds p := hA0
  rw [Tryd.params11] at hA hval
  obtain ⟨v0, vs0, d0, ds0, p0, q0, hargs, rfl, rfl, h0, r0⟩ := trodAll_cons hA
  obtain ⟨v1, vs1, d1, ds1, p1, q1, rfl, rfl, rfl, h1, r1⟩ := trodAll_cons r0
  obtain ⟨rfl, rfl, rfl⟩ := trodAll_nil r1
  obtain rfl : args = #[v0, v1] := by cases args; simp_all
  obtain ⟨rfl, rfl⟩ := trodVars_none hV
  obtain ⟨x0, rfl, rfl, rfl, w0⟩ := Go.ChangeMaps.open_string Tryd.underlying9 (hval 0 9 v0 rfl rfl) h0
  obtain ⟨x1, rfl, rfl, rfl, w1⟩ := open_int Tryd.underlying3 (hval 1 3 v1 rfl rfl) h1
  have b1 := bounds_i64 w1
  clear hA0
  refine (words_walk x0 x1 W (by unfold maxLen at w0; exact w0) b1.1 b1.2 (table hL)).mono fun e W' h => ?_
  obtain ⟨rfl, hb⟩ := h
  exact ⟨_, rfl, _, _, _, [], [], [], hW', trodAll_cons_mk (shut_bool Tryd.underlying4 _) trodAll_mk0, (trodAll_cons_mk (Go.ChangeMaps.shut_string Tryd.underlying9 w0) (trodAll_cons_mk (shut_int Tryd.underlying3 w1) trodAll_mk0)), rfl, hb.frame _, fun h => by cases h⟩

theorem laid_met (os : Os) : laidMet Tryd.prog Rows.lexWordsRow.laid ((laidWorld os).forCall (fun _ _ => 0) ⟨#[], #[.string ⟨#[]⟩, .int .i64 0], []⟩).memory :=
  laidMet_of_run' 8 (by kernel_rfl) (by kernel_rfl)
theorem reads (os : Os) {H : Type} (enc : TypeId × Value → H) : ∃ places, DataW.whole enc Tryd.prog ((laidWorld os).forCall (fun _ _ => 0) ⟨#[], #[.string ⟨#[]⟩, .int .i64 0], []⟩).memory Tryd.f11.params.toList Rows.lexWordsSpec.vars false #[Value.string ⟨#[]⟩, Value.int .i64 0].toList 8 = some ([.lit (.string []), .lit (.int .i64 0)], [], places) :=
  ⟨[], by kernel_rfl⟩

set_option maxRecDepth 100000 in
theorem lifted (os : Os) (started : os.Started) (H : Type) (enc : TypeId × Value → H) (F : Stop.Interp) :
    ReturnsInHanded {} Tryd.checked os 11 .any ((OpenSpec.ofChange Rows.lexWordsSpec).preRow enc Tryd.prog Tryd.f11 Rows.lexWordsRow.domain false Rows.lexWordsRow.laid) (((OpenSpec.ofChange Rows.lexWordsSpec).at F).post enc Tryd.prog Tryd.f11 false true false false) := by
  obtain ⟨places, hx⟩ := reads os enc
  refine returnsInHanded_of_row (C := Tryd.checked) (s := OpenSpec.ofChange Rows.lexWordsSpec) own started (by kernel_rfl) Tryd.func11
    (witness_row_at (enc := enc) (C := Tryd.checked) false (laidWorld os) #[.string ⟨#[]⟩, .int .i64 0] rfl (by kernel_rfl) (by kernel_rfl) (by kernel_rfl)
      (OpenSpec.preRow_of_cond 8 hx (by kernel_rfl) (fun k hk => by cases hk) (by kernel_rfl) (laid_met os))) ?_
  intro W base args ds gs before hval hW _ _ _ hL _ _
  exact contract H enc W base args ds gs before hval hW hL

theorem said : Rows.LexWordsSaid :=
  OpenClaim.holds_of_cond 11 Tryd.f11 rfl rfl rfl rfl rfl rfl rfl ⟨rfl, rfl, rfl, rfl, rfl⟩ rfl rfl rfl rfl rfl (by kernel_rfl) Tryd.func11 (by kernel_rfl)
    (of_decide_eq_true (by kernel_rfl)) (by unfold Func.isWrapper; first | (rw [if_pos (by decide +kernel)]; kernel_rfl) | (rw [if_neg (by decide +kernel)]; exact ⟨rfl, rfl⟩))
    (fun os started H enc _ F => by rw [OpenClaim.pre_eq_preRow]; exact lifted os started H enc F)

theorem plain (f : FuncId) (fn : Func) (hf : Tryd.pinned.checked.prog.funcNamed "malthouse/malthouselaw01.LexWords" = some f) (hfn : Tryd.pinned.checked.prog.funcs[f]? = some fn) :
    false = Tryd.pinned.checked.prog.looks [] ∧ ∀ (j : Nat) t, fn.params[j]? = some t → Tryd.pinned.checked.prog.wantsStandIn t = false := by
  obtain rfl : f = 11 := Option.some.inj ((show Tryd.prog.funcNamed "malthouse/malthouselaw01.LexWords" = some 11 by kernel_rfl).symm.trans hf) |>.symm
  obtain rfl : fn = Tryd.f11 := (Option.some.inj (Tryd.func11.symm.trans hfn)).symm
  refine ⟨by kernel_rfl, fun j t ht => ?_⟩
  rw [Tryd.params11] at ht
  have hm : t ∈ [9, 3] := by simpa using Array.mem_of_getElem? ht
  have h0 : Tryd.prog.wantsStandIn 9 = false := by kernel_rfl
  have h1 : Tryd.prog.wantsStandIn 3 = false := by kernel_rfl
  simp only [List.mem_cons, List.not_mem_nil, or_false] at hm
  rcases hm with rfl | rfl
  · exact h0
  · exact h1

theorem card : Rows.LexWordsCardSaid :=
  Claim7.holds_tied_plain_at .later [] _ _ _ _ said (fun _ h => by cases h) (by kernel_rfl) (fun _ h => by cases h) lexWords_row_tie rfl ⟨rfl, rfl⟩ (by kernel_rfl) rfl plain (by kernel_rfl)
end Go.Proofs.YtbbebnbofalmlaaDoor.LexWords
namespace Go.Proofs.YtbbebnbofalmlaaDoor
theorem lexWords_holds : Rows.LexWordsCardSaid := LexWords.card
end Go.Proofs.YtbbebnbofalmlaaDoor
