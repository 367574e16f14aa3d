/-
  Plainly: what is cut of a text in brackets, and what is read of it.
-/
import Derived.Test.YtlbmojflinkfcaaDoorExP6
import Derived.Test.YtlbmojflinkfcaaDoorExP2
import Derived.Test.YtlbmojflinkfcaaDoorLexV
namespace Go.Proofs.YtlbmojflinkfcaaDoor.Ep
open Lx

theorem sign_open (r : List UInt8) : signT (40 :: r) = (⟨4, [40], 0, 0⟩, 1, 0) := by
  cases r <;> rfl
theorem sign_shut : signT [41] = (⟨4, [41], 0, 0⟩, 1, 0) := rfl
theorem cls_open : clsI 40 = 4 := by decide
theorem cls_shut : clsI 41 = 4 := by decide
theorem rn_shut : rn [41] = [(41, [41])] := by decide
theorem rn_open (r : List UInt8) : rn (40 :: r) = (40, [40]) :: rn r := rn_blank [] (by simp) 40 (by decide) r

theorem T_open (cs : List Ch) (acc : List Tok) (a : Nat) (hcan : Lx.Can ((40, [40]) :: cs)) (hl : acc.length < 2000) : T ((40, [40]) :: cs) a acc = T cs (a + 1) (acc ++ [⟨4, [40], 0, (a : Int)⟩]) := by
  have ht : tokenT (clsI (40 : Nat)) (flat ((40, [40]) :: cs)) = (⟨4, [40], 0, 0⟩, 1, 0) := by
    have e : flat ((40, [40]) :: cs) = 40 :: flat cs := by simp [flat]
    rw [e]
    show tokenT (clsI 40) _ = _
    rw [cls_open]
    exact sign_open _
  have h := T_ok (40, [40]) cs [] cs a acc hcan (by show clsI 40 ≠ 1; rw [cls_open]; decide) (by show clsI 40 ≠ 6; rw [cls_open]; decide) rfl (by show (tokenT (clsI (40 : Nat)) _).2.2 = 0; rw [ht]) (by show (tokenT (clsI (40 : Nat)) _).2.1 = _; rw [ht]; simp [flat])
  rw [h, if_neg (by omega)]
  have e2 : (tokenT (clsI ((40, [40]) : Ch).1) (flat ((40, [40]) :: cs))).1 = ⟨4, [40], 0, 0⟩ := by show (tokenT (clsI (40 : Nat)) _).1 = _; rw [ht]
  rw [e2]
  rfl
theorem T_shut (acc : List Tok) (a : Nat) (hl : acc.length < 2000) : T (rn [41]) a acc = (acc ++ [⟨4, [41], 0, (a : Int)⟩] ++ [⟨0, [], 0, ((a + 1 : Nat) : Int)⟩], 0, 0) := by
  rw [rn_shut]
  have hcan : Lx.Can ([(41, [41])] : List Ch) := by unfold Lx.Can; decide
  have ht : tokenT (clsI (41 : Nat)) (flat ([(41, [41])] : List Ch)) = (⟨4, [41], 0, 0⟩, 1, 0) := by
    show tokenT (clsI 41) _ = _
    rw [cls_shut]
    rfl
  have h := T_ok (41, [41]) [] [] [] a acc hcan (by show clsI 41 ≠ 1; rw [cls_shut]; decide) (by show clsI 41 ≠ 6; rw [cls_shut]; decide) rfl (by show (tokenT (clsI (41 : Nat)) _).2.2 = 0; rw [ht]) (by show (tokenT (clsI (41 : Nat)) _).2.1 = _; rw [ht]; simp [flat])
  rw [h, if_neg (by omega)]
  have e2 : (tokenT (clsI ((41, [41]) : Ch).1) (flat ([(41, [41])] : List Ch))).1 = ⟨4, [41], 0, 0⟩ := by show (tokenT (clsI (41 : Nat)) _).1 = _; rw [ht]
  rw [e2, T_nil]
  rfl

theorem cut_good' {l : List UInt8} (hl : l.length ≤ 8192) (h : (cutL l).2.1 = 0) : Lx.Good (rn l) ∧ cutL l = T (rn l) 0 [] := by
  unfold cutL at h ⊢
  rw [if_neg (by omega)] at h ⊢
  cases hb : badAt 0 (rn l) with
  | some a => rw [hb] at h; cases h
  | none => exact ⟨(badAt_none _ _).1 hb, rfl⟩

theorem cut_brackets (s : List UInt8) (hs : s.length ≤ 2000) (ts : List Tok) (p : Int) (h : cutL s = (ts ++ [⟨0, [], 0, p⟩], 0, 0)) (hn : ts.length ≤ 1000) :
    ∃ q r : Int, cutL (40 :: (s ++ [10, 41])) = (⟨4, [40], 0, 0⟩ :: (mv 1 ts ++ [⟨4, [41], 0, q⟩, ⟨0, [], 0, r⟩]), 0, 0) := by
  obtain ⟨hg, hT⟩ := cut_good' (l := s) (by omega) (by rw [h])
  have hrn : rn (40 :: (s ++ [10, 41])) = (40, [40]) :: (rn s ++ (10, [10]) :: rn [41]) := by rw [rn_open, rn_feed]
  have hgood : Lx.Good (rn (40 :: (s ++ [10, 41]))) := by
    rw [hrn, rn_shut]
    intro c hc
    simp only [List.mem_cons, List.mem_append, List.not_mem_nil, or_false] at hc
    rcases hc with rfl | hc | rfl | rfl
    · decide
    · exact hg c hc
    · decide
    · decide
  have ej : cutL (40 :: (s ++ [10, 41])) = T ((40, [40]) :: (rn s ++ (10, [10]) :: rn [41])) 0 [] := by
    unfold cutL
    rw [if_neg (by simp; omega), (badAt_none _ _).2 hgood]
    show T (rn _) 0 [] = _
    rw [hrn]
  have hcan : Lx.Can ((40, [40]) :: (rn s ++ (10, [10]) :: rn [41])) := by rw [← hrn]; exact can_rn _
  rw [ej, T_open _ [] 0 hcan (by simp), List.nil_append]
  have hT' : T (rn s) 0 [] = (ts ++ [⟨0, [], 0, p⟩], 0, 0) := by rw [← hT, h]
  rcases T_shift _ (rn s) (Nat.le_refl _) (can_rn s) hg 0 1 [] [⟨4, [40], 0, ((0 : Nat) : Int)⟩] (by simp) (by simp) with ⟨e, p', e', p'', q1, q2, _⟩ | ⟨us, q1, _, q3⟩
  · rw [hT'] at q1
    injection q1 with q1 q4
    injection q4 with q4
    exact absurd q4.symm q2
  · have hm0 : mv 0 us = us := by unfold mv; simp
    rw [hT', hm0, List.nil_append] at q1
    injection q1 with q1 _
    have hts : ts = us := by
      have := congrArg List.dropLast q1
      simpa using this
    subst hts
    rcases q3 with ⟨_, q3⟩ | ⟨q3, _⟩
    · rcases T_feed _ (rn [41]) (rn s) (Nat.le_refl _) (can_rn s) hg (can_tail hcan) 1 [⟨4, [40], 0, ((0 : Nat) : Int)⟩] (by simp) with ⟨e, p', r1, r2, _⟩ | ⟨vs, r1, _, r3⟩
      · rw [q3] at r1
        injection r1 with _ r4
        injection r4 with r4
        exact absurd r4.symm r2
      · rw [q3] at r1
        injection r1 with r1 _
        have hvs : vs = mv 1 ts := (List.append_cancel_left (List.append_inj_left' r1 rfl)).symm
        subst hvs
        rw [show 0 + 1 = 1 by rfl, r3, T_shut _ _ (by simp [mv_length]; omega)]
        exact ⟨((1 + (rn s).length + 1 : Nat) : Int), ((1 + (rn s).length + 1 + 1 : Nat) : Int), by simp⟩
    · simp at q3; omega

theorem mv_drop (a k : Nat) (ts : List Tok) : (mv a ts).drop k = mv a (ts.drop k) := by unfold mv; rw [List.map_drop]
theorem nextT_mv (a : Nat) (ts us us' : List Tok) (h : 0 < ts.length) : Lk (nextT (ts ++ us)) (nextT (mv a ts ++ us')) := by
  cases ts with
  | nil => simp at h
  | cons t ts => exact ⟨rfl, rfl, rfl⟩
theorem oper_end (p : Int) (ts : List Tok) (lv : Int) : operT (⟨0, [], 0, p⟩ :: ts) lv 2 = -1 := by
  have key : ∀ (l : List (List UInt8 × Int × Int)) (i : Nat), operGo (⟨0, [], 0, p⟩ :: ts) lv 2 l i = -1 := by
    intro l
    induction l with
    | nil => intro i; rfl
    | cons x xs ih =>
      intro i
      have e : sgnT (⟨0, [], 0, p⟩ :: ts) x.1 = false := rfl
      rw [operGo, e, Bool.and_false, if_neg (by decide)]
      exact ih (i + 1)
  exact key opsT 0
theorem oper_shut (p : Int) (ts : List Tok) (lv : Int) : operT (⟨4, [41], 0, p⟩ :: ts) lv 2 = -1 := by
  have key : ∀ (l : List (List UInt8 × Int × Int)), (∀ x ∈ l, x.1 ≠ [41]) → ∀ (i : Nat), operGo (⟨4, [41], 0, p⟩ :: ts) lv 2 l i = -1 := by
    intro l
    induction l with
    | nil => intro _ i; rfl
    | cons x xs ih =>
      intro hx i
      have e : sgnT (⟨4, [41], 0, p⟩ :: ts) x.1 = false := by
        show (decide ((4 : Int) = 4) && ([41] == x.1)) = false
        rw [beq_eq_false_iff_ne.2 (fun h => hx x (by simp) h.symm), Bool.and_false]
      rw [operGo, e, Bool.and_false, if_neg (by decide)]
      exact ih (fun y hy => hx y (by simp [hy])) (i + 1)
  exact key opsT (by decide) 0

theorem toks_kind : ∀ (ts : List Tok) (lo hi : Nat), Toks lo hi ts → ∀ t ∈ ts, t.kind ≠ 0
  | [], _, _, _ => by simp
  | t :: ts, lo, hi, h => by
    obtain ⟨a, _, _, _, ⟨c, xs, hok⟩, hr⟩ := h
    intro x hx
    rcases List.mem_cons.1 hx with rfl | hx
    · have := hok.kind; omega
    · exact toks_kind ts _ _ hr x hx
/-- WHAT IS READ OF A TEXT IN BRACKETS: the same tree, or there are too many tokens. -/
theorem parse_brackets (s : List UInt8) (hs : s.length ≤ 2000) (t : Ex) (h : parseP s = (some t, 0, 0)) :
    ∃ ts p, cutL s = (ts ++ [⟨0, [], 0, p⟩], 0, 0) ∧ (if ts.length ≤ 62 then parseP (40 :: (s ++ [10, 41])) = (some t, 0, 0) else ∃ q, parseP (40 :: (s ++ [10, 41])) = (none, 2, q)) := by
  have h0 : (cutL s).2.1 = 0 := by
    unfold parseP at h
    by_cases h0 : (cutL s).2.1 = 0
    · exact h0
    · rw [if_pos h0] at h; cases h
  rcases cut_run s (by omega) with ⟨e, p, h1, h2, _⟩ | ⟨ts, h1, hT, _⟩
  · rw [h1] at h0; exact absurd h0 h2
  · refine ⟨ts, _, h1, ?_⟩
    have hk := toks_kind ts _ _ hT
    unfold parseP at h
    rw [if_neg (by rw [h0]; simp), h1] at h
    simp only at h
    cases hr : takeT (ts ++ [⟨0, [], 0, ((rn s).length : Int)⟩]) with
    | er f b' => rw [hr] at h; cases h
    | ok t' b' rest =>
      rw [hr] at h
      simp only at h
      by_cases hz : (nextT rest).kind = 0
      · rw [if_neg (by rw [hz]; simp)] at h
        obtain rfl : t' = t := by injection h with h _; injection h with h
        have hc := take_cons (fun _ => True) (ts ++ [⟨0, [], 0, ((rn s).length : Int)⟩]) (fun _ _ => trivial)
        rw [hr] at hc
        obtain ⟨hb, hrest, hkinds, _⟩ := hc
        have hlt := taken_lt _ ts _ rfl (64 - b') hkinds
        have hn : 64 - b' = ts.length := by
          rcases Nat.lt_or_ge (64 - b') ts.length with hl | hl
          · exfalso
            rw [hrest, ← getD_next, List.getD_eq_getElem?_getD, List.getElem?_append_left hl, List.getElem?_eq_getElem hl] at hz
            exact hk _ (List.getElem_mem hl) hz
          · simp at hlt; omega
        obtain ⟨q, r, hcut⟩ := cut_brackets s hs ts _ h1 (by omega)
        have hlen : (mv 1 ts).length = ts.length := mv_length 1 ts
        have hd1 : (ts ++ [(⟨0, [], 0, ((rn s).length : Int)⟩ : Tok)]).drop (64 - b') = [⟨0, [], 0, ((rn s).length : Int)⟩] := by rw [hn]; simp
        have hd2 : (mv 1 ts ++ [(⟨4, [41], 0, q⟩ : Tok), ⟨0, [], 0, r⟩]).drop (64 - b') = [⟨4, [41], 0, q⟩, ⟨0, [], 0, r⟩] := by rw [hn, ← hlen]; simp
        have hA : LikeN (64 - b') (ts ++ [(⟨0, [], 0, ((rn s).length : Int)⟩ : Tok)]) (mv 1 ts ++ [(⟨4, [41], 0, q⟩ : Tok), ⟨0, [], 0, r⟩]) := fun j hj => by
          have hjt : j < ts.length := by omega
          rw [List.drop_append_of_le_length (by omega), List.drop_append_of_le_length (by rw [hlen]; omega), mv_drop]
          exact nextT_mv 1 (ts.drop j) _ _ (by rw [List.length_drop]; omega)
        have hB : StopEq ((ts ++ [(⟨0, [], 0, ((rn s).length : Int)⟩ : Tok)]).drop (64 - b')) ((mv 1 ts ++ [(⟨4, [41], 0, q⟩ : Tok), ⟨0, [], 0, r⟩]).drop (64 - b')) := by
          rw [hd1, hd2]; exact fun lv => by rw [oper_end, oper_shut]
        have hC : sgnT ((mv 1 ts ++ [(⟨4, [41], 0, q⟩ : Tok), ⟨0, [], 0, r⟩]).drop (64 - b')) [41] = true := by rw [hd2]; rfl
        have hE : ∀ lv : Int, operT ((mv 1 ts ++ [(⟨4, [41], 0, q⟩ : Tok), ⟨0, [], 0, r⟩]).drop (64 - b')).tail lv 2 < 0 := by
          rw [hd2]; exact fun lv => by rw [List.tail_cons, oper_end]; decide
        have htb := take_brackets _ _ _ _ _ hr (⟨4, [40], 0, 0⟩ : Tok) ⟨rfl, rfl⟩ hA hB hC hE
        rw [hd2, hn] at htb
        unfold parseP
        rw [hcut]
        simp only
        rw [htb]
        by_cases h62 : ts.length ≤ 62
        · rw [if_pos h62, if_pos h62]
          simp [nextT]
        · rw [if_neg h62, if_neg h62]
          exact ⟨_, rfl⟩
      · rw [if_pos hz] at h; cases h
end Go.Proofs.YtlbmojflinkfcaaDoor.Ep
