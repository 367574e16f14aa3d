/-
  Plain facts: the tokens of a well formed tree's text, read, are the tree.
-/
import Derived.Test.YtlbmojflinkfcaaDoorExP4
namespace Go.Proofs.YtlbmojflinkfcaaDoor.Ep
open Lx

theorem G_chain (U : Nat → List Tok → Res) (lv : Nat) (h : lv ≤ 4) (h2 : lv ≠ 2) : G U lv = chainT (G U (lv + 1)) lv := by
  have : lv = 0 ∨ lv = 1 ∨ lv = 3 ∨ lv = 4 := by omega
  rcases this with rfl | rfl | rfl | rfl <;> rfl
theorem G_cons (d : Nat) (lv : Nat) : Cons (fun _ => True) (G (unaryT d) lv) := by
  have hU := unary_cons (fun _ => True) d
  unfold G
  split
  · exact chain_cons (chain_cons (pair_cons (chain_cons (chain_cons hU 4) 3) 2) 1) 0
  · exact chain_cons (pair_cons (chain_cons (chain_cons hU 4) 3) 2) 1
  · exact pair_cons (chain_cons (chain_cons hU 4) 3) 2
  · exact chain_cons (chain_cons hU 4) 3
  · exact chain_cons hU 4
  · exact hU
theorem chainGo_fuel {F : Nat → List Tok → Res} (hF : Cons (fun _ => True) F) (lv : Int) : ∀ (m m' : Nat) (e : Ex) (b : Nat) (ts : List Tok), b < m → b < m' → chainGo F lv m e b ts = chainGo F lv m' e b ts
  | 0, _, _, _, _, h, _ => by omega
  | _ + 1, 0, _, _, _, _, h => by omega
  | m + 1, m' + 1, e, b, ts, h, h' => by
    rw [chainGo, chainGo]
    by_cases ho : operT ts lv 2 < 0
    · rw [if_pos ho, if_pos ho]
    · rw [if_neg ho, if_neg ho]
      by_cases hb : b = 0
      · rw [if_pos hb, if_pos hb]
      · rw [if_neg hb, if_neg hb]
        have hc := hF (b - 1) ts.tail (fun _ _ => trivial)
        cases hr : F (b - 1) ts.tail with
        | er f b' => rfl
        | ok r b' ts' =>
          rw [hr] at hc
          have h1 : b' < b - 1 := hc.1
          simp only
          exact chainGo_fuel hF lv m m' _ b' ts' (by omega) (by omega)

/-- A tree of a chained level is read as the head of what follows. -/
def Spine (t : Ex) (lv : Nat) : Prop := ∀ (d b : Nat) (rest : List Tok), ntE t ≤ b → b < d → Free (lv + 1) rest →
  G (unaryT d) lv b (tkE t ++ rest) = chainGo (G (unaryT d) (lv + 1)) lv (b - ntE t + 1) t (b - ntE t) rest

theorem formed_op {op n : Int} {nm : List UInt8} {k : Nat} (h : formedB op n nm k = true) (h2 : 2 ≤ op) : n = 0 ∧ nm = [] := by
  unfold formedB at h
  simp only [Bool.and_eq_true] at h
  obtain ⟨-, h⟩ := h
  rw [if_neg (by omega), if_neg (by omega)] at h
  simpa using h
theorem good_in {t : Ex} (h : goodE t) : inT t.op = true := by
  cases t
  rw [goodE] at h
  exact (formed_true h.1).1
theorem opL_bds {op : Int} (h : inT op = true) : 0 ≤ opL op ∧ opL op ≤ 5 := by
  have hh := (inT_iff _).1 h
  have := opL_bd op.toNat (by omega)
  rw [Int.toNat_of_nonneg hh.1] at this
  exact this
theorem encl_false {op kid : Int} {i : Nat} (h : enclB op kid i = false) (hk : inT kid = true) : opL op ≤ opL kid ∧ (opL kid = opL op → i ≠ 1 ∧ opL op ≠ 2) := by
  unfold enclB at h
  rw [hk, Bool.true_and] at h
  simp only [Bool.or_eq_false_iff, decide_eq_false_iff_not, Bool.and_eq_false_iff] at h
  refine ⟨by omega, fun he => ?_⟩
  rcases h.2 with h2 | h2
  · exact absurd he h2
  · exact h2
theorem leaf_read (op n : Int) (nm : List UInt8) (hf : formedB op n nm 0 = true) (h : op = 0 ∨ op = 1) (d b : Nat) (rest : List Tok) (hb : 1 ≤ b) (hd : b < d) :
    unaryT d b (leafK op n nm :: rest) = .ok (.mk op n nm []) (b - 1) rest := by
  obtain ⟨e, rfl⟩ : ∃ e, d = e + 1 := ⟨d - 1, by omega⟩
  have hk : (nextT (leafK op n nm :: rest)).kind ≠ 4 := by
    show (leafK op n nm).kind ≠ 4
    unfold leafK; split <;> simp
  rw [unaryT, if_neg (by rw [operT_kind hk]; omega), if_neg (by rw [sgnT_kind hk]; decide)]
  rcases h with rfl | rfl
  · have hn : nm = [] := by
      unfold formedB at hf
      simp only [Bool.and_eq_true, if_true] at hf
      simpa using hf.2.2
    subst hn
    unfold leafT
    simp only
    rw [if_pos (show (nextT (leafK 0 n [] :: rest)).kind = 2 from rfl), if_pos (show formedB 0 (nextT (leafK 0 n [] :: rest)).n [] 0 = true from hf), if_neg (by omega)]
    rfl
  · have hn : n = 0 := by
      unfold formedB at hf
      simp at hf
      exact hf.2.1
    subst hn
    unfold leafT
    simp only
    rw [if_neg (show ¬ (nextT (leafK 1 0 nm :: rest)).kind = 2 from show ¬ (1 : Int) = 2 by decide), if_pos (show (nextT (leafK 1 0 nm :: rest)).kind = 1 from rfl), if_pos (show formedB 1 0 (nextT (leafK 1 0 nm :: rest)).text 0 = true from hf), if_neg (by omega)]
    rfl

theorem rd_good (t : Ex) : goodE t → RdOK t ∧ (∀ lv : Nat, opL t.op = lv → lv ≤ 4 → lv ≠ 2 → Spine t lv) := by
  induction t using Ex.ind with
  | h op n nm ks ih =>
    intro hg
    rw [goodE] at hg
    obtain ⟨hf, -, hgl⟩ := hg
    have hin := (formed_true hf).1
    obtain ⟨hl2, hl1, hl0⟩ := op_lv op hin
    rcases opK_012 hin with hz | hz | hz
    · have hk := kids_0 hf hz
      subst hk
      obtain ⟨hop, hlv⟩ := hl0 hz
      refine ⟨fun d b rest lv h1 h2 h3 h4 => ?_, fun lv h1 h2 _ => by simp only [Ex.op] at h1; omega⟩
      simp only [Ex.op] at h1
      rw [nt_0] at h2 ⊢
      rw [tk_0 _ _ _ _ hz]
      have hr := leaf_read op n nm hf hop d b rest h2 h3
      exact G_downs (5 - lv) lv (by omega) (by rw [show lv + (5 - lv) = 5 by omega]; exact hr) h4
    · obtain ⟨k, rfl⟩ := kids_1 hf hz
      obtain ⟨hop, hlv⟩ := hl1 hz
      rw [goodL] at hgl
      have hik := good_in hgl.1
      have hK := (ih k (by simp) hgl.1).1
      obtain ⟨rfl, rfl⟩ := formed_op hf (by omega)
      refine ⟨fun d b rest lv h1 h2 h3 h4 => ?_, fun lv h1 h2 _ => by simp only [Ex.op] at h1; omega⟩
      simp only [Ex.op] at h1
      rw [nt_1] at h2 ⊢
      rw [tk_1 _ _ _ _ hz]
      obtain ⟨e, rfl⟩ : ∃ e, d = e + 1 := ⟨d - 1, by omega⟩
      have hr : unaryT (e + 1) b (sg (opS op) :: wrapK (enclB op k.op 0) (tkE k) ++ rest) = .ok (.mk op 0 [] [k]) (b - (1 + (ntE k + if enclB op k.op 0 = true then 2 else 0))) rest := by
        have ho := op_one op hop
        rw [List.cons_append, unaryT, if_pos (by rw [operT_cons, ho]; omega), if_neg (by omega), List.tail_cons]
        have hkid := kid_ok hK (opL_bds hik) (enclB op k.op 0) 5 (by omega) (fun he => by have := (encl_false he hik).1; omega) e (b - 1) rest (by omega) (by omega) (fun l h5 h4 => by omega)
        rw [show G (unaryT e) 5 = unaryT e from rfl] at hkid
        rw [hkid]
        simp only
        rw [operT_cons, ho, show b - 1 - (ntE k + if enclB op k.op 0 = true then 2 else 0) = b - (1 + (ntE k + if enclB op k.op 0 = true then 2 else 0)) by omega]
      exact G_downs (5 - lv) lv (by omega) (by rw [show lv + (5 - lv) = 5 by omega]; exact hr) h4
    · obtain ⟨k, l, rfl⟩ := kids_2 hf hz
      obtain ⟨hop1, hop2, hL0, hL4⟩ := hl2 hz
      rw [goodL, goodL] at hgl
      have hik := good_in hgl.1
      have hil := good_in hgl.2.1
      obtain ⟨hK, hKS⟩ := ih k (by simp) hgl.1
      obtain ⟨hLd, -⟩ := ih l (by simp) hgl.2.1
      obtain ⟨rfl, rfl⟩ := formed_op hf (by omega)
      obtain ⟨L, hL⟩ := Int.eq_ofNat_of_zero_le hL0
      have hL' : L ≤ 4 := by omega
      have ht : tkE (.mk op 0 [] [k, l]) = wrapK (enclB op k.op 0) (tkE k) ++ sg (opS op) :: wrapK (enclB op l.op 1) (tkE l) := tk_2 _ _ _ _ _ hz
      have hn := nt_2 op 0 [] k l
      have hright : ∀ (d b : Nat) (rest : List Tok), ntE l + (if enclB op l.op 1 = true then 2 else 0) ≤ b → b < d → Free (L + 1) rest → G (unaryT d) (L + 1) b (wrapK (enclB op l.op 1) (tkE l) ++ rest) = .ok l (b - (ntE l + (if enclB op l.op 1 = true then 2 else 0))) rest :=
        fun d b rest h1 h2 h3 => kid_ok hLd (opL_bds hil) _ (L + 1) (by omega) (fun he => by
          obtain ⟨e1, e2⟩ := encl_false he hil
          have : ¬ opL l.op = opL op := fun he => (e2 he).1 rfl
          omega) d b rest h1 h2 h3
      have hopt : ∀ ts, operT (sg (opS op) :: ts) L 2 = op := fun ts => by rw [operT_cons, op_two op ⟨hop1, hop2⟩ L hL', if_pos hL]
      by_cases h2 : L = 2
      · subst h2
        have hr : ∀ (d b : Nat) (rest : List Tok), ntE (.mk op 0 [] [k, l]) ≤ b → b < d → Free 3 rest → G (unaryT d) 2 b (tkE (.mk op 0 [] [k, l]) ++ rest) = .ok (.mk op 0 [] [k, l]) (b - ntE (.mk op 0 [] [k, l])) rest := by
          intro d b rest h1 h3 h4
          rw [hn] at h1 ⊢
          have hleft := kid_ok hK (opL_bds hik) (enclB op k.op 0) 3 (by omega) (fun he => by
            obtain ⟨e1, e2⟩ := encl_false he hik
            have : ¬ opL k.op = opL op := fun he => (e2 he).2 hL
            omega) d b (sg (opS op) :: (wrapK (enclB op l.op 1) (tkE l) ++ rest)) (by omega) h3 (free_op op ⟨hop1, hop2⟩ 3 (by omega) _)
          rw [ht, List.append_assoc, List.cons_append]
          show pairT (G (unaryT d) 3) 2 b _ = _
          unfold pairT
          rw [hleft]
          simp only
          have ho := hopt (wrapK (enclB op l.op 1) (tkE l) ++ rest)
          simp only [Int.cast_ofNat_Int] at ho
          rw [ho, if_neg (by omega), if_neg (by omega), List.tail_cons, hright d _ rest (by omega) (by omega) h4]
          simp only
          congr 1
          omega
        refine ⟨fun d b rest lv h1 h2 h3 h4 => ?_, fun lv h1 _ hne => by simp only [Ex.op] at h1; omega⟩
        simp only [Ex.op] at h1
        exact G_downs (2 - lv) lv (by omega) (by rw [show lv + (2 - lv) = 2 by omega]; exact hr d b rest h2 h3 (h4.mono (by omega))) h4
      · have hsp : Spine (.mk op 0 [] [k, l]) L := by
          intro d b rest h1 h3 h4
          rw [hn] at h1 ⊢
          have hF := G_cons d (L + 1)
          have hleft : G (unaryT d) L b (wrapK (enclB op k.op 0) (tkE k) ++ sg (opS op) :: (wrapK (enclB op l.op 1) (tkE l) ++ rest)) =
              chainGo (G (unaryT d) (L + 1)) L (b - (ntE k + if enclB op k.op 0 = true then 2 else 0) + 1) k (b - (ntE k + if enclB op k.op 0 = true then 2 else 0)) (sg (opS op) :: (wrapK (enclB op l.op 1) (tkE l) ++ rest)) := by
            have hfr : Free (L + 1) (sg (opS op) :: (wrapK (enclB op l.op 1) (tkE l) ++ rest)) := free_op op ⟨hop1, hop2⟩ (L + 1) (by omega) _
            by_cases hc : enclB op k.op 0 = false ∧ opL k.op = L
            · rw [hc.1]
              simp only [wrapK, Bool.false_eq_true, if_false, Nat.add_zero]
              rw [hc.1] at h1
              simp only [Bool.false_eq_true, if_false, Nat.add_zero] at h1
              exact hKS L hc.2 hL' h2 d b _ (by omega) h3 hfr
            · have := kid_ok hK (opL_bds hik) (enclB op k.op 0) (L + 1) (by omega) (fun he => by
                have e1 := (encl_false he hik).1
                have : ¬ opL k.op = L := fun h => hc ⟨he, h⟩
                omega) d b _ (by omega) h3 hfr
              rw [G_chain _ L hL' h2]
              unfold chainT
              rw [this]
          rw [ht, List.append_assoc, List.cons_append, hleft, chainGo, hopt, if_neg (by omega), if_neg (by omega), List.tail_cons, hright d _ rest (by omega) (by omega) h4]
          simp only
          rw [show b - (ntE k + if enclB op k.op 0 = true then 2 else 0) - 1 - (ntE l + if enclB op l.op 1 = true then 2 else 0) = b - (1 + (ntE k + (if enclB op k.op 0 = true then 2 else 0) + (ntE l + if enclB op l.op 1 = true then 2 else 0))) by omega]
          exact chainGo_fuel hF L _ _ _ _ _ (by omega) (by omega)
        refine ⟨fun d b rest lv h1 h3 h4 h5 => ?_, fun lv h1 _ _ => by simp only [Ex.op] at h1; have : lv = L := by omega
                                                                       subst this; exact hsp⟩
        simp only [Ex.op] at h1
        have hr := hsp d b rest h3 h4 (h5.mono (by omega))
        rw [chainGo, if_pos (h5 L (by omega) hL')] at hr
        exact G_downs (L - lv) lv (by omega) (by rw [show lv + (L - lv) = L by omega]; exact hr) h5

/-- The tokens of a tree's text, read, are the tree. -/
theorem take_tk (t : Ex) (hg : goodE t) (h : ntE t ≤ 64) (rest : List Tok) (hr : Free 0 rest) : takeT (tkE t ++ rest) = .ok t (64 - ntE t) rest := by
  have := (rd_good t hg).1 65 64 rest 0 (by exact_mod_cast (opL_bds (good_in hg)).1) h (by omega) hr
  exact this
end Go.Proofs.YtlbmojflinkfcaaDoor.Ep
