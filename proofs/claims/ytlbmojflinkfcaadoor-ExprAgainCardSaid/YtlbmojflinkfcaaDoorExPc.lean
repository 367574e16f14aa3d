/-
  Plainly: what is read of a text is a tree whose own text has no more tokens.
-/
import Derived.Test.YtlbmojflinkfcaaDoorExPb
namespace Go.Proofs.YtlbmojflinkfcaaDoor.Ep
open Lx

/-- How many tokens a tree takes as an operand at that level. -/
def costE (lv : Int) (t : Ex) : Nat := ntE t + (if opL t.op < lv then 2 else 0)
theorem cost_le {a b : Int} (h : a ≤ b) (t : Ex) : costE a t ≤ costE b t := by
  unfold costE
  split <;> split <;> omega
theorem cost_two (a : Int) (t : Ex) : ntE t ≤ costE a t ∧ costE a t ≤ ntE t + 2 := by
  unfold costE
  split <;> omega
theorem operGo_spec (ts : List Tok) (lv k : Int) : ∀ (l : List (List UInt8 × Int × Int)) (i : Nat), 0 ≤ operGo ts lv k l i → ∃ j o, operGo ts lv k l i = ((i + j : Nat) : Int) ∧ l[j]? = some o ∧ o.2.1 = lv ∧ o.2.2 = k
  | [], i, h => by rw [operGo] at h; omega
  | o :: l, i, h => by
    rw [operGo] at h ⊢
    by_cases hc : (decide (o.2.1 = lv) && decide (o.2.2 = k) && sgnT ts o.1) = true
    · rw [if_pos hc]
      simp only [Bool.and_eq_true, decide_eq_true_eq] at hc
      exact ⟨0, o, rfl, rfl, hc.1.1, hc.1.2⟩
    · rw [if_neg hc] at h ⊢
      obtain ⟨j, o', h1, h2, h3⟩ := operGo_spec ts lv k l (i + 1) h
      exact ⟨j + 1, o', by rw [h1]; congr 1; omega, by simpa using h2, h3⟩
theorem oper_spec {ts : List Tok} {lv k : Int} (h : ¬ operT ts lv k < 0) : inT (operT ts lv k) = true ∧ opL (operT ts lv k) = lv ∧ opK (operT ts lv k) = k := by
  obtain ⟨j, o, h1, h2, h3, h4⟩ := operGo_spec ts lv k opsT 0 (by unfold operT at h; omega)
  have e : operT ts lv k = (j : Int) := by unfold operT; rw [h1]; congr 1; omega
  have hj : j < 17 := by
    have := (List.getElem?_eq_some_iff.1 h2).1
    exact this
  have ho : opAt (j : Int) = o := by
    unfold opAt
    rw [Int.toNat_natCast, List.getD_eq_getElem?_getD, h2]
    rfl
  rw [e]
  refine ⟨by simp [inT]; omega, ?_, ?_⟩
  · unfold opL; rw [ho]; exact h3
  · unfold opK; rw [ho]; exact h4
theorem op_ge {op : Int} (h : inT op = true) (hk : opK op = 1 ∨ opK op = 2) : 2 ≤ op := by
  have hl := op_lv op h
  rcases hk with hk | hk
  · have := (hl.2.1 hk).1; omega
  · have := hl.1 hk; omega
theorem formed_mk {op : Int} {k : Nat} (h : inT op = true) (hk : opK op = (k : Int)) (h2 : 2 ≤ op) : formedB op 0 [] k = true := by
  rw [formed_parts op 0 [] k h hk.symm, if_neg (by omega), if_neg (by omega)]
  rfl
theorem good_one {op : Int} {a : Ex} (h : inT op = true) (hk : opK op = 1) (ha : numsE a → goodE a) : numsE (.mk op 0 [] [a]) → goodE (.mk op 0 [] [a]) := fun hn => by
  rw [numsE, numsL, numsL] at hn
  rw [goodE, goodL, goodL]
  exact ⟨formed_mk h hk (op_ge h (.inl hk)), hn.1, ha hn.2.1, trivial⟩
theorem good_two {op : Int} {a b : Ex} (h : inT op = true) (hk : opK op = 2) (ha : numsE a → goodE a) (hb : numsE b → goodE b) : numsE (.mk op 0 [] [a, b]) → goodE (.mk op 0 [] [a, b]) := fun hn => by
  rw [numsE, numsL, numsL, numsL] at hn
  rw [goodE, goodL, goodL, goodL]
  exact ⟨formed_mk h hk (op_ge h (.inr hk)), hn.1, ha hn.2.1, hb hn.2.2.1, trivial⟩
theorem encl_true {op kid : Int} {i : Nat} (h : enclB op kid i = true) : opL kid < opL op ∨ (opL kid = opL op ∧ (i = 1 ∨ opL op = 2)) := by
  unfold enclB at h
  simp only [Bool.and_eq_true, Bool.or_eq_true, decide_eq_true_eq] at h
  exact h.2
theorem cost_kid {op : Int} {k : Ex} {i : Nat} {lv : Int} (h : enclB op k.op i = true → opL k.op < lv) : ntE k + (if enclB op k.op i = true then 2 else 0) ≤ costE lv k := by
  unfold costE
  by_cases he : enclB op k.op i = true
  · rw [if_pos he, if_pos (h he)]
    omega
  · rw [if_neg he]
    omega

/-- A reading at a level: what it made would take no more tokens than were taken. -/
def RC (lv : Int) (F : Nat → List Tok → Res) : Prop := ∀ b ts t b' rest, F b ts = .ok t b' rest → costE lv t + b' ≤ b ∧ (numsE t → goodE t)
theorem leaf_rc : RC 5 leafT := by
  have key : ∀ (op n : Int) (nm : List UInt8), (op = 0 ∨ op = 1) → formedB op n nm 0 = true → costE 5 (.mk op n nm []) = 1 ∧ (numsE (.mk op n nm []) → goodE (.mk op n nm [])) := fun op n nm ho hf => by
    refine ⟨?_, fun hn => ?_⟩
    · unfold costE
      rw [nt_0, if_neg]
      show ¬ opL op < 5
      rcases ho with rfl | rfl <;> decide
    · rw [numsE, numsL] at hn
      rw [goodE, goodL]
      exact ⟨hf, hn.1, trivial⟩
  intro b ts t b' rest h
  unfold leafT at h
  simp only at h
  split at h
  · split at h
    · rename_i hf
      split at h
      · cases h
      · injection h with h1 h2 _
        subst h1
        have := key 0 _ _ (.inl rfl) hf
        exact ⟨by rw [this.1]; omega, this.2⟩
    · cases h
  · split at h
    · split at h
      · rename_i hf
        split at h
        · cases h
        · injection h with h1 h2 _
          subst h1
          have := key 1 _ _ (.inr rfl) hf
          exact ⟨by rw [this.1]; omega, this.2⟩
      · cases h
    · cases h
theorem chainGo_rc {F : Nat → List Tok → Res} (lv : Int) (hlv : lv ≠ 2) (hF : RC (lv + 1) F) : ∀ (m : Nat) (e : Ex) (b : Nat) (ts : List Tok) (t : Ex) (b' : Nat) (rest : List Tok) (B : Nat), costE lv e + b ≤ B → (numsE e → goodE e) → chainGo F lv m e b ts = .ok t b' rest → costE lv t + b' ≤ B ∧ (numsE t → goodE t)
  | 0, e, b, ts, t, b', rest, B, hc, hg, h => by
    rw [chainGo] at h
    injection h with h1 h2 _
    subst h1
    exact ⟨by omega, hg⟩
  | m + 1, e, b, ts, t, b', rest, B, hc, hg, h => by
    rw [chainGo] at h
    split at h
    · injection h with h1 h2 _
      subst h1
      exact ⟨by omega, hg⟩
    · rename_i hop
      split at h
      · cases h
      · cases hr : F (b - 1) ts.tail with
        | er f b1 => rw [hr] at h; cases h
        | ok r b1 ts1 =>
          rw [hr] at h
          have hr2 := hF _ _ _ _ _ hr
          obtain ⟨h1, h2, h3⟩ := oper_spec hop
          refine chainGo_rc lv hlv hF m _ _ _ t b' rest B ?_ (good_two h1 h3 hg hr2.2) h
          have k1 := cost_kid (op := operT ts lv 2) (k := e) (i := 0) (lv := lv) (fun he => by
            rcases encl_true he with he | ⟨_, he | he⟩
            · rw [h2] at he; exact he
            · cases he
            · rw [h2] at he; exact absurd he hlv)
          have k2 := cost_kid (op := operT ts lv 2) (k := r) (i := 1) (lv := lv + 1) (fun he => by
            rcases encl_true he with he | ⟨he, _⟩ <;> rw [h2] at he <;> omega)
          have hn : costE lv (.mk (operT ts lv 2) 0 [] [e, r]) = ntE (.mk (operT ts lv 2) 0 [] [e, r]) := by
            unfold costE
            rw [if_neg]
            · rfl
            · show ¬ opL (operT ts lv 2) < lv
              omega
          rw [hn, nt_2]
          omega
theorem chain_rc {F : Nat → List Tok → Res} (lv : Int) (hlv : lv ≠ 2) (hF : RC (lv + 1) F) : RC lv (chainT F lv) := by
  intro b ts t b' rest h
  unfold chainT at h
  cases hr : F b ts with
  | er f b1 => rw [hr] at h; cases h
  | ok r b1 ts1 =>
    rw [hr] at h
    have hr2 := hF _ _ _ _ _ hr
    have := cost_le (show lv ≤ lv + 1 by omega) r
    exact chainGo_rc lv hlv hF _ _ _ _ t b' rest b (by omega) hr2.2 h
theorem pair_rc {F : Nat → List Tok → Res} (hF : RC 3 F) : RC 2 (pairT F 2) := by
  intro b ts t b' rest h
  unfold pairT at h
  cases hr : F b ts with
  | er f b1 => rw [hr] at h; cases h
  | ok e b1 ts1 =>
    rw [hr] at h
    have hr2 := hF _ _ _ _ _ hr
    simp only at h
    split at h
    · injection h with h1 h2 _
      subst h1
      have := cost_le (show (2 : Int) ≤ 3 by omega) e
      exact ⟨by omega, hr2.2⟩
    · rename_i hop
      split at h
      · cases h
      · cases hq : F (b1 - 1) ts1.tail with
        | er f b3 => rw [hq] at h; cases h
        | ok r b3 ts3 =>
          rw [hq] at h
          have hq2 := hF _ _ _ _ _ hq
          injection h with h1 h2 _
          subst h1
          obtain ⟨g1, g2, g3⟩ := oper_spec hop
          refine ⟨?_, good_two g1 g3 hr2.2 hq2.2⟩
          have k1 := cost_kid (op := operT ts1 2 2) (k := e) (i := 0) (lv := 3) (fun he => by
            rcases encl_true he with he | ⟨he, _⟩ <;> rw [g2] at he <;> omega)
          have k2 := cost_kid (op := operT ts1 2 2) (k := r) (i := 1) (lv := 3) (fun he => by
            rcases encl_true he with he | ⟨he, _⟩ <;> rw [g2] at he <;> omega)
          have hn : costE 2 (.mk (operT ts1 2 2) 0 [] [e, r]) = ntE (.mk (operT ts1 2 2) 0 [] [e, r]) := by
            unfold costE
            rw [if_neg]
            · rfl
            · show ¬ opL (operT ts1 2 2) < 2
              omega
          rw [hn, nt_2]
          omega
theorem or_rc {U : Nat → List Tok → Res} (hU : RC 5 U) : RC 0 (orOf U) :=
  chain_rc 0 (by omega) (chain_rc 1 (by omega) (pair_rc (chain_rc 3 (by omega) (chain_rc 4 (by omega) hU))))
theorem unary_rc : ∀ d, RC 5 (unaryT d)
  | 0 => fun b ts t b' rest h => by rw [unaryT] at h; cases h
  | d + 1 => fun b ts t b' rest h => by
    rw [unaryT] at h
    split at h
    · rename_i hop
      split at h
      · cases h
      · cases hr : unaryT d (b - 1) ts.tail with
        | er f b1 => rw [hr] at h; cases h
        | ok e b1 ts1 =>
          rw [hr] at h
          have hr2 := unary_rc d _ _ _ _ _ hr
          injection h with h1 h2 _
          subst h1
          obtain ⟨g1, g2, g3⟩ := oper_spec (ts := ts) (lv := 5) (k := 1) (by omega)
          refine ⟨?_, good_one g1 g3 hr2.2⟩
          have k1 := cost_kid (op := operT ts 5 1) (k := e) (i := 0) (lv := 5) (fun he => by
            rcases encl_true he with he | ⟨_, he | he⟩
            · rw [g2] at he; exact he
            · cases he
            · rw [g2] at he; omega)
          have hn : costE 5 (.mk (operT ts 5 1) 0 [] [e]) = ntE (.mk (operT ts 5 1) 0 [] [e]) := by
            unfold costE
            rw [if_neg]
            · rfl
            · show ¬ opL (operT ts 5 1) < 5
              omega
          rw [hn, nt_1]
          omega
    · split at h
      · split at h
        · cases h
        · cases hr : orOf (unaryT d) (b - 1) ts.tail with
          | er f b1 => rw [hr] at h; cases h
          | ok e b1 ts1 =>
            rw [hr] at h
            have hr2 := or_rc (unary_rc d) _ _ _ _ _ hr
            simp only at h
            split at h
            · split at h
              · cases h
              · injection h with h1 h2 _
                subst h1
                have h3 := cost_two 0 e
                have h4 := cost_two 5 e
                exact ⟨by omega, hr2.2⟩
            · cases h
      · exact leaf_rc b ts t b' rest h

theorem spare_nt (t : Ex) : goodE t → ∀ m : Int, (ntE t : Int) ≤ m → spareE t m = m - ntE t := by
  induction t using Ex.ind with
  | h op n nm ks ih =>
    intro hg m hm
    have hpos := nt_pos (.mk op n nm ks)
    rw [goodE] at hg
    obtain ⟨hf, hn, hgl⟩ := hg
    have he : spareE (.mk op n nm ks) m = spareL op ks 0 (m - 1) := by
      rw [spareE, if_neg]
      rw [hf]
      simp
      omega
    rw [he]
    have hin := (formed_true hf).1
    rcases opK_012 hin with hz | hz | hz
    · have hk := kids_0 hf hz
      subst hk
      rw [spareL_nil, nt_0]
      rfl
    · obtain ⟨k, rfl⟩ := kids_1 hf hz
      rw [goodL] at hgl
      rw [nt_1] at hm ⊢
      rw [spareL_cons, spareL_nil, ih k (by simp) hgl.1 _ (by split at hm <;> split <;> simp_all <;> omega)]
      split <;> simp_all <;> omega
    · obtain ⟨k, l, rfl⟩ := kids_2 hf hz
      rw [goodL, goodL] at hgl
      rw [nt_2] at hm ⊢
      have h1 := ih k (by simp) hgl.1 (if enclB op k.op 0 = true then m - 1 - 2 else m - 1) (by split at hm <;> split <;> simp_all <;> omega)
      rw [spareL_cons, spareL_cons, spareL_nil, h1, ih l (by simp) hgl.2.1 _ (by split at hm <;> split <;> simp_all <;> omega)]
      split <;> split <;> simp_all <;> omega

/-- WHAT ANY TEXT IS, PRINTED: the same again, with no more tokens. -/
theorem again_text (s : List UInt8) (hs : s.length ≤ 5000) (t : Ex) (h : parseP s = (some t, 0, 0)) :
    numsE t ∧ mayB t = true ∧ ∃ ls ms : List Tok, cutL s = (ls, 0, 0) ∧ cutL (textE t) = (ms, 0, 0) ∧ ms.length ≤ ls.length := by
  have h0 : (cutL s).2.1 = 0 := by
    unfold parseP at h
    by_cases h0 : (cutL s).2.1 = 0
    · exact h0
    · rw [if_pos h0] at h; cases h
  rcases cut_run s (by omega) with ⟨e, p, h1, h2, _⟩ | ⟨ts, h1, hT, _⟩
  · rw [h1] at h0; exact absurd h0 h2
  · have hk := toks_kind ts _ _ hT
    have hfine := cut_fine s
    rw [h1] at hfine
    unfold parseP at h
    rw [if_neg (by rw [h0]; simp), h1] at h
    simp only at h hfine
    cases hr : takeT (ts ++ [⟨0, [], 0, ((rn s).length : Int)⟩]) with
    | er f b' => rw [hr] at h; cases h
    | ok t' b' rest =>
      rw [hr] at h
      simp only at h
      by_cases hz : (nextT rest).kind = 0
      · rw [if_neg (by rw [hz]; simp)] at h
        obtain rfl : t' = t := by injection h with h _; injection h with h
        have hc := take_cons Fine (ts ++ [⟨0, [], 0, ((rn s).length : Int)⟩]) hfine
        rw [hr] at hc
        obtain ⟨hb, hrest, hkinds, hnum⟩ := hc
        have hn := hnum (fun t ht => ht.n)
        have hlt := taken_lt _ ts _ rfl (64 - b') hkinds
        have hrc := or_rc (unary_rc 65) 64 _ _ _ _ hr
        have hg := hrc.2 hn
        have hnt := cost_two 0 t'
        have hsp := spare_nt t' hg 64 (by omega)
        have hmay : mayB t' = true := by
          unfold mayB
          rw [hsp]
          simp
          omega
        have hlen := may_len hmay hn
        have hln := nt_len t' hg
        obtain ⟨vs, p, hlk, hcut⟩ := cut_text t' hg (by omega) (snd_text t' hg).1 (by omega)
        refine ⟨hn, hmay, _, _, h1, hcut, ?_⟩
        have hvl := Likes.length hlk
        simp only [List.length_append, List.length_singleton] at hlt ⊢
        omega
      · rw [if_pos hz] at h
        cases h
end Go.Proofs.YtlbmojflinkfcaaDoor.Ep
