/-
  Plainly: the text of a tree is cut to tokens like the tree's own.
-/
import Derived.Test.YtlbmojflinkfcaaDoorExP9
import Derived.Test.YtlbmojflinkfcaaDoorExP5
import Derived.Test.YtlbmojflinkfcaaDoorLexN
import Derived.Lib.ItoaLen
namespace Go.Proofs.YtlbmojflinkfcaaDoor.Ep
open Lx

def Any (_ : List UInt8) : Prop := True
def NotEq (r : List UInt8) : Prop := ∀ r', r ≠ 61 :: r'

theorem Likes.append : ∀ {a b c d : List Tok}, Likes a b → Likes c d → Likes (a ++ c) (b ++ d)
  | [], [], _, _, _, h => h
  | _ :: _, _ :: _, _, _, h, k => ⟨h.1, Likes.append h.2 k⟩

theorem Cuts.append {E E1 : List UInt8 → Prop} {l1 l2 : List UInt8} {u1 u2 : List Tok} (h1 : Cuts E1 l1 u1) (h2 : Cuts E l2 u2) (hE : ∀ r, E r → E1 (l2 ++ r)) : Cuts E (l1 ++ l2) (u1 ++ u2) := by
  intro r hr a acc hlen
  rw [List.length_append] at hlen
  obtain ⟨v1, n1, k1, e1⟩ := h1 (l2 ++ r) (hE r hr) a acc (by omega)
  obtain ⟨v2, n2, k2, e2⟩ := h2 r hr (a + n1) (acc ++ v1) (by rw [List.length_append, Likes.length k1]; omega)
  refine ⟨v1 ++ v2, n1 + n2, Likes.append k1 k2, ?_⟩
  rw [List.append_assoc, e1, e2, List.append_assoc, Nat.add_assoc]

/-- A blank. -/
theorem cuts_blank (E : List UInt8 → Prop) : Cuts E [32] [] := by
  intro r _ a acc _
  have h32 : rn (32 :: r) = (32, [32]) :: rn r := rn_blank [] (by simp) 32 (by decide) r
  refine ⟨[], 1, trivial, ?_⟩
  rw [List.append_nil]
  show T (rn (32 :: r)) a acc = _
  rw [h32, T_blank _ _ _ _ (by show clsI 32 = 1; decide)]

/-- A sign of one byte. -/
theorem cuts_one (E : List UInt8 → Prop) (b : UInt8) (hb : b.toNat < 128) (hc : clsI b.toNat = 4) (ht : ∀ r, E r → two (b :: r) = false) : Cuts E [b] [sg [b]] := by
  intro r hr a acc hlen
  have hrn : rn (b :: r) = (b.toNat, [b]) :: rn r := rn_blank [] (by simp) b hb r
  have hcan : Lx.Can ((b.toNat, [b]) :: rn r) := by rw [← hrn]; exact can_rn _
  have hfl : flat ((b.toNat, [b]) :: rn r) = b :: r := by rw [← hrn, flat_rn]
  have htok : tokenT (clsI b.toNat) (flat ((b.toNat, [b]) :: rn r)) = (⟨4, [b], 0, 0⟩, 1, 0) := by
    rw [hfl, hc]
    unfold tokenT
    rw [if_neg (by decide), if_neg (by decide), if_neg (by decide), if_pos rfl]
    unfold signT
    rw [ht r hr]
    rfl
  refine ⟨[⟨4, [b], 0, a⟩], 1, ⟨⟨rfl, rfl, rfl⟩, trivial⟩, ?_⟩
  show T (rn (b :: r)) a acc = _
  have h := T_ok (b.toNat, [b]) (rn r) [] (rn r) a acc hcan (by show clsI b.toNat ≠ 1; rw [hc]; decide) (by show clsI b.toNat ≠ 6; rw [hc]; decide) rfl (by show (tokenT (clsI b.toNat) _).2.2 = 0; rw [htok]) (by show (tokenT (clsI b.toNat) _).2.1 = _; rw [htok]; simp [flat])
  have hl1 : ([sg [b]] : List Tok).length = 1 := rfl
  rw [hrn, h, if_neg (by omega)]
  have e2 : (tokenT (clsI ((b.toNat, [b]) : Ch).1) (flat ((b.toNat, [b]) :: rn r))).1 = ⟨4, [b], 0, 0⟩ := by show (tokenT (clsI b.toNat) _).1 = _; rw [htok]
  rw [e2]
  rfl
/-- A sign of two bytes. -/
theorem cuts_two (E : List UInt8 → Prop) (b : UInt8) (hb : b.toNat < 128) (hc : clsI b.toNat = 4) (ht : ∀ r, two (b :: 61 :: r) = true) : Cuts E [b, 61] [sg [b, 61]] := by
  intro r _ a acc hlen
  have h61 : rn (61 :: r) = (61, [61]) :: rn r := rn_blank [] (by simp) 61 (by decide) r
  have hrn : rn (b :: 61 :: r) = (b.toNat, [b]) :: ((61, [61]) :: rn r) := by
    rw [← h61]
    exact rn_blank [] (by simp) b hb (61 :: r)
  have hcan : Lx.Can ((b.toNat, [b]) :: ((61, [61]) :: rn r)) := by rw [← hrn]; exact can_rn _
  have hfl : flat ((b.toNat, [b]) :: ((61, [61]) :: rn r)) = b :: 61 :: r := by rw [← hrn, flat_rn]
  have htok : tokenT (clsI b.toNat) (flat ((b.toNat, [b]) :: ((61, [61]) :: rn r))) = (⟨4, [b, 61], 0, 0⟩, 2, 0) := by
    rw [hfl, hc]
    unfold tokenT
    rw [if_neg (by decide), if_neg (by decide), if_neg (by decide), if_pos rfl]
    unfold signT
    rw [ht r]
    rfl
  refine ⟨[⟨4, [b, 61], 0, a⟩], 2, ⟨⟨rfl, rfl, rfl⟩, trivial⟩, ?_⟩
  show T (rn (b :: 61 :: r)) a acc = _
  have h := T_ok (b.toNat, [b]) ((61, [61]) :: rn r) [(61, [61])] (rn r) a acc hcan (by show clsI b.toNat ≠ 1; rw [hc]; decide) (by show clsI b.toNat ≠ 6; rw [hc]; decide) rfl (by show (tokenT (clsI b.toNat) _).2.2 = 0; rw [htok]) (by show (tokenT (clsI b.toNat) _).2.1 = _; rw [htok]; simp [flat])
  have hl1 : ([sg [b, 61]] : List Tok).length = 1 := rfl
  rw [hrn, h, if_neg (by omega)]
  have e2 : (tokenT (clsI ((b.toNat, [b]) : Ch).1) (flat ((b.toNat, [b]) :: ((61, [61]) :: rn r)))).1 = ⟨4, [b, 61], 0, 0⟩ := by show (tokenT (clsI b.toNat) _).1 = _; rw [htok]
  rw [e2]
  rfl

theorem two_shut (r : List UInt8) : two (41 :: r) = false := by cases r <;> rfl
theorem two_open (r : List UInt8) : two (40 :: r) = false := by cases r <;> rfl
theorem cuts_open (E : List UInt8 → Prop) : Cuts E [40] [sg [40]] := cuts_one E 40 (by decide) (by decide) fun r _ => two_open r
theorem cuts_shut (E : List UInt8 → Prop) : Cuts E [41] [sg [41]] := cuts_one E 41 (by decide) (by decide) fun r _ => two_shut r

/-- An operand's text, in brackets or not. -/
theorem cuts_wrap {l : List UInt8} {us : List Tok} (h : Cuts Ends l us) (b : Bool) : Cuts Ends (wrapT b l) (wrapK b us) := by
  cases b with
  | false => exact h
  | true =>
    show Cuts Ends ([40] ++ (l ++ [41])) ([sg [40]] ++ (us ++ [sg [41]]))
    exact Cuts.append (cuts_open Any) (Cuts.append h (cuts_shut Ends) fun r _ => .inr (.inr ⟨r, rfl⟩)) fun _ _ => trivial

/-- The sign of an operator of two parts, between blanks. -/
theorem cuts_oper (op : Int) (h : 4 ≤ op ∧ op ≤ 16) : Cuts Any (32 :: (opS op ++ [32])) [sg (opS op)] := by
  have key : Cuts (fun r => ∃ r', r = 32 :: r') (opS op) [sg (opS op)] := by
    have hop : op = 4 ∨ op = 5 ∨ op = 6 ∨ op = 7 ∨ op = 8 ∨ op = 9 ∨ op = 10 ∨ op = 11 ∨ op = 12 ∨ op = 13 ∨ op = 14 ∨ op = 15 ∨ op = 16 := by omega
    rcases hop with rfl | rfl | rfl | rfl | rfl | rfl | rfl | rfl | rfl | rfl | rfl | rfl | rfl
    all_goals first
      | exact cuts_one _ _ (by decide) (by decide) (fun r hr => by obtain ⟨r', rfl⟩ := hr; rfl)
      | exact cuts_two _ _ (by decide) (by decide) (fun r => rfl)
  have h1 := Cuts.append (cuts_blank Any) (Cuts.append key (cuts_blank Any) fun r _ => ⟨r, rfl⟩) fun _ _ => trivial
  simpa using h1
theorem digs_all (u : Nat) : ∀ b ∈ Lib.decDigits u, 48 ≤ b.toNat ∧ b.toNat ≤ 57 := by
  induction u using Nat.strongRecOn with
  | ind u ih =>
    intro b hb
    by_cases h : u < 10
    · rw [Lib.decDigits_one h] at hb
      simp at hb
      subst hb
      simp
      omega
    · rw [Lib.decDigits, dif_neg h] at hb
      rcases List.mem_append.1 hb with hb | hb
      · exact ih (u / 10) (by omega) b hb
      · simp at hb
        subst hb
        simp
        omega
theorem rn_digs : ∀ (l : List UInt8), (∀ b ∈ l, 48 ≤ b.toNat ∧ b.toNat ≤ 57) → ∀ c ∈ rn l, digitI c.1 = true
  | [], _, c, hc => by simp [rn_nil] at hc
  | b :: l, h, c, hc => by
    have hb := h b (by simp)
    rw [rn_ascii b l (by omega)] at hc
    rcases List.mem_cons.1 hc with rfl | hc
    · simp [digitI]; omega
    · exact rn_digs l (fun x hx => h x (by simp [hx])) c hc

theorem name_each : ∀ (cs : List Ch) (n : Nat), nameGo n cs = true → (∀ c ∈ cs, isW c = true) ∧ (n = 0 → ∃ c ds, cs = c :: ds ∧ letterI c.1 = true)
  | [], n, h => by
    refine ⟨fun c hc => by simp at hc, fun e => ?_⟩
    subst e
    simp [nameGo] at h
  | c :: cs, n, h => by
    rw [nameGo] at h
    split at h
    · cases h
    · next hn =>
      obtain ⟨h1, _⟩ := name_each cs (n + 1) h
      have hw : isW c = true := by
        unfold isW
        cases hl : letterI c.1 with
        | true => rfl
        | false =>
          cases hd : digitI c.1 with
          | true => rfl
          | false => exact absurd (.inr ⟨hl, .inr hd⟩) hn
      refine ⟨fun x hx => ?_, fun e => ⟨c, cs, rfl, ?_⟩⟩
      · rcases List.mem_cons.1 hx with rfl | hx
        · exact hw
        · exact h1 x hx
      · cases hl : letterI c.1 with
        | true => rfl
        | false => exact absurd (.inr ⟨hl, .inl e⟩) hn

theorem cuts_name (l : List UInt8) (h : nameB l = true) : Cuts Ends l [⟨1, l, 0, 0⟩] := by
  obtain ⟨hw, hf⟩ := name_each (rn l) 0 h
  obtain ⟨c, ds, hc, hL⟩ := hf rfl
  have hc2 := (cls_two' c.1).2 hL
  have hne : l ≠ [] := fun e => by subst e; rw [show rn [] = [] from rfl] at hc; cases hc
  intro r hr a acc hlen
  have hl1 : ([⟨1, l, 0, 0⟩] : List Tok).length = 1 := rfl
  refine ⟨[⟨1, l, 0, a⟩], (rn l).length, ⟨⟨rfl, rfl, rfl⟩, trivial⟩, ?_⟩
  refine T_word l r hr hw hne ⟨1, l, 0, 0⟩ c ds hc (by rw [hc2]; decide) (by rw [hc2]; decide) (fun m hm => ?_) a acc (by omega)
  rw [hc2]
  unfold tokenT
  rw [if_pos rfl]
  unfold nameT
  rw [hm, if_pos h]
theorem cuts_num (n : Int) (h0 : 0 ≤ n) (h1 : n ≤ 9223372036854775807) : Cuts Ends (Lib.itoa n) [⟨2, Lib.itoa n, n, 0⟩] := by
  have hs := number_show n h1
  rw [if_neg (by omega)] at hs
  have hi : Lib.itoa n = Lib.decDigits n.toNat := by unfold Lib.itoa; rw [if_neg (by omega)]
  have hd : ∀ c ∈ rn (Lib.itoa n), digitI c.1 = true := by rw [hi]; exact rn_digs _ (digs_all _)
  have hne : Lib.itoa n ≠ [] := by rw [hi]; exact decDigits_ne _
  generalize Lib.itoa n = l at *
  have hw : ∀ c ∈ rn l, isW c = true := fun c hc => by unfold isW; rw [hd c hc]; simp
  obtain ⟨c, ds, hc⟩ : ∃ c ds, rn l = c :: ds := by
    cases hm : rn l with
    | nil => exact absurd (rn_eq_nil hm) hne
    | cons c ds => exact ⟨c, ds, rfl⟩
  have hc3 := (cls_three' c.1).2 (hd c (by rw [hc]; simp))
  intro r hr a acc hlen
  have hl1 : ([⟨2, l, n, 0⟩] : List Tok).length = 1 := rfl
  refine ⟨[⟨2, l, n, a⟩], (rn l).length, ⟨⟨rfl, rfl, rfl⟩, trivial⟩, ?_⟩
  refine T_word l r hr hw hne ⟨2, l, n, 0⟩ c ds hc (by rw [hc3]; decide) (by rw [hc3]; decide) (fun m hm => ?_) a acc (by omega)
  rw [hc3]
  unfold tokenT
  rw [if_neg (by decide), if_pos rfl]
  unfold numberT
  rw [hm, hs]

/-- What a tree's text begins with is no '='. -/
theorem head_word {l : List UInt8} {c : Ch} {ds : List Ch} (hc : rn l = c :: ds) (h : isW c = true) (r : List UInt8) : NotEq (l ++ r) := by
  intro r' e
  cases l with
  | nil => rw [show rn [] = [] from rfl] at hc; cases hc
  | cons b l =>
    injection e with e _
    subst e
    rw [rn_ascii 61 l (by decide)] at hc
    injection hc with hc _
    subst hc
    revert h
    decide

theorem tx_0 (op n : Int) (nm : List UInt8) (ks : List Ex) (h : opK op = 0) : textE (.mk op n nm ks) = if op = 0 then Lib.itoa n else nm := by rw [textE, if_pos h]
theorem tx_1 (op n : Int) (nm : List UInt8) (k : Ex) (h : opK op = 1) : textE (.mk op n nm [k]) = opS op ++ wrapT (enclB op k.op 0) (textE k) := by
  rw [textE, if_neg (by omega), textL, textL, if_pos h, if_pos rfl, List.append_nil]
theorem tx_2 (op n : Int) (nm : List UInt8) (k l : Ex) (h : opK op = 2) : textE (.mk op n nm [k, l]) = wrapT (enclB op k.op 0) (textE k) ++ ((32 :: (opS op ++ [32])) ++ wrapT (enclB op l.op 1) (textE l)) := by
  rw [textE, if_neg (by omega), textL, textL, textL, if_neg (by omega), if_pos rfl, if_neg (by omega), if_neg (by omega), if_pos rfl, List.append_nil, List.append_assoc]

theorem noteq_wrap {l : List UInt8} (h : ∀ r, NotEq (l ++ r)) (b : Bool) (r : List UInt8) : NotEq (wrapT b l ++ r) := by
  cases b with
  | false => exact h r
  | true =>
    intro r' e
    have e' : (40 : UInt8) :: (l ++ [41] ++ r) = 61 :: r' := e
    injection e' with e' _
    revert e'
    decide

/-- The text of a tree is cut to tokens like its own, whatever ends a word behind it. -/
theorem cuts_text (t : Ex) : goodE t → Cuts Ends (textE t) (tkE t) ∧ ∀ r, NotEq (textE t ++ r) := by
  induction t using Ex.ind with
  | h op n nm ks ih =>
    intro hg
    rw [goodE] at hg
    obtain ⟨hf, hn, hgl⟩ := hg
    have hin := (formed_true hf).1
    obtain ⟨hl2, hl1, hl0⟩ := op_lv op hin
    rcases opK_012 hin with hz | hz | hz
    · have hk := kids_0 hf hz
      subst hk
      obtain ⟨hop, _⟩ := hl0 hz
      rw [tx_0 _ _ _ _ hz, tk_0 _ _ _ _ hz]
      unfold leafK
      rcases hop with rfl | rfl
      · rw [if_pos rfl, if_pos rfl]
        have h0 : 0 ≤ n := by
          unfold formedB at hf
          simp only [Bool.and_eq_true] at hf
          have := hf.2
          simp at this
          exact this.1
        refine ⟨cuts_num n h0 hn.2, fun r => ?_⟩
        have hi : Lib.itoa n = Lib.decDigits n.toNat := by unfold Lib.itoa; rw [if_neg (by omega)]
        have hd : ∀ c ∈ rn (Lib.itoa n), digitI c.1 = true := by rw [hi]; exact rn_digs _ (digs_all _)
        have hne : Lib.itoa n ≠ [] := by rw [hi]; exact decDigits_ne _
        cases hm : rn (Lib.itoa n) with
        | nil => exact absurd (rn_eq_nil hm) hne
        | cons c ds => exact head_word hm (by unfold isW; rw [hd c (by rw [hm]; simp)]; simp) r
      · rw [if_neg (by decide), if_neg (by decide)]
        have hb : nameB nm = true := by
          unfold formedB at hf
          simp only [Bool.and_eq_true] at hf
          have := hf.2
          simp at this
          exact this.2
        obtain ⟨hw, hfst⟩ := name_each (rn nm) 0 hb
        obtain ⟨c, ds, hc, _⟩ := hfst rfl
        exact ⟨cuts_name nm hb, fun r => head_word hc (hw c (by rw [hc]; simp)) r⟩
    · obtain ⟨k, rfl⟩ := kids_1 hf hz
      obtain ⟨hop, _⟩ := hl1 hz
      rw [goodL] at hgl
      obtain ⟨hK, hH⟩ := ih k (by simp) hgl.1
      rw [tx_1 _ _ _ _ hz, tk_1 _ _ _ _ hz]
      have key : Cuts NotEq (opS op) [sg (opS op)] ∧ ∀ r, NotEq (opS op ++ r) := by
        rcases hop with rfl | rfl
        all_goals
          refine ⟨cuts_one _ _ (by decide) (by decide) (fun r hr => ?_), fun r r' e => ?_⟩
          · cases r with
            | nil => rfl
            | cons b r =>
              first
                | rfl
                | (have hb : b ≠ 61 := fun e => hr r (by rw [e])
                   show ((true && (b == 61)) = false)
                   simpa using hb)
          · injection e with e _
            revert e
            decide
      refine ⟨Cuts.append key.1 (cuts_wrap hK _) fun r _ => noteq_wrap hH _ r, fun r => ?_⟩
      rw [List.append_assoc]
      exact key.2 _
    · obtain ⟨k, l, rfl⟩ := kids_2 hf hz
      obtain ⟨hop1, hop2, _⟩ := hl2 hz
      rw [goodL, goodL] at hgl
      obtain ⟨hK, hH⟩ := ih k (by simp) hgl.1
      obtain ⟨hL, _⟩ := ih l (by simp) hgl.2.1
      rw [tx_2 _ _ _ _ _ hz, tk_2 _ _ _ _ _ hz]
      refine ⟨?_, fun r => ?_⟩
      · show Cuts Ends _ (wrapK (enclB op k.op 0) (tkE k) ++ ([sg (opS op)] ++ wrapK (enclB op l.op 1) (tkE l)))
        exact Cuts.append (cuts_wrap hK _) (Cuts.append (cuts_oper op ⟨hop1, hop2⟩) (cuts_wrap hL _) fun _ _ => trivial) fun r _ => .inr (.inl ⟨_, rfl⟩)
      · rw [List.append_assoc]
        exact noteq_wrap hH _ _

/-- The whole text: the tokens, and the end behind them. -/
theorem cut_text (t : Ex) (hg : goodE t) (hl : (textE t).length ≤ 8192) (hgood : Lx.Good (rn (textE t))) (hn : (tkE t).length ≤ 2000) :
    ∃ vs p, Likes (tkE t) vs ∧ cutL (textE t) = (vs ++ [⟨0, [], 0, p⟩], 0, 0) := by
  obtain ⟨vs, n, k, e⟩ := (cuts_text t hg).1 [] (.inl rfl) 0 [] (by simpa using hn)
  refine ⟨vs, ((0 + n : Nat) : Int), k, ?_⟩
  have hc : cutL (textE t) = T (rn (textE t)) 0 [] := by
    unfold cutL
    rw [if_neg (by omega), (badAt_none _ _).2 hgood]
    rfl
  rw [List.append_nil] at e
  rw [hc, e, show rn [] = [] from rfl, T_nil, List.nil_append]
end Go.Proofs.YtlbmojflinkfcaaDoor.Ep
