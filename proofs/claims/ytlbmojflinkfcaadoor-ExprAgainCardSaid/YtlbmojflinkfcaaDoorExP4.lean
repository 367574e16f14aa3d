/-
  Plain facts: the tokens of a tree's text, read, are the tree.
-/
import Derived.Test.YtlbmojflinkfcaaDoorExP1
namespace Go.Proofs.YtlbmojflinkfcaaDoor.Ep
open Lx

mutual
/-- How many tokens a tree's text has. -/
def ntE : Ex → Nat
  | .mk op _ _ ks => 1 + ntL op ks 0
def ntL (op : Int) : List Ex → Nat → Nat
  | [], _ => 0
  | k :: ks, i => ntE k + (if enclB op k.op i = true then 2 else 0) + ntL op ks (i + 1)
end
def sg (s : List UInt8) : Tok := ⟨4, s, 0, 0⟩
def leafK (op n : Int) (nm : List UInt8) : Tok := if op = 0 then ⟨2, Lib.itoa n, n, 0⟩ else ⟨1, nm, 0, 0⟩
def wrapK (b : Bool) (l : List Tok) : List Tok := if b = true then sg [40] :: (l ++ [sg [41]]) else l
mutual
/-- The tokens of a tree's text. -/
def tkE : Ex → List Tok
  | .mk op n nm ks => if opK op = 0 then [leafK op n nm] else tkL op ks 0
def tkL (op : Int) : List Ex → Nat → List Tok
  | [], _ => []
  | k :: ks, i => (if opK op = 1 then sg (opS op) :: wrapK (enclB op k.op i) (tkE k) else if i = 0 then wrapK (enclB op k.op i) (tkE k) ++ [sg (opS op)] else wrapK (enclB op k.op i) (tkE k)) ++ tkL op ks (i + 1)
end
theorem tk_0 (op n : Int) (nm : List UInt8) (ks : List Ex) (h : opK op = 0) : tkE (.mk op n nm ks) = [leafK op n nm] := by rw [tkE, if_pos h]
theorem tk_1 (op n : Int) (nm : List UInt8) (k : Ex) (h : opK op = 1) : tkE (.mk op n nm [k]) = sg (opS op) :: wrapK (enclB op k.op 0) (tkE k) := by
  rw [tkE, if_neg (by omega), tkL, tkL, if_pos h, List.append_nil]
theorem tk_2 (op n : Int) (nm : List UInt8) (k l : Ex) (h : opK op = 2) : tkE (.mk op n nm [k, l]) = wrapK (enclB op k.op 0) (tkE k) ++ sg (opS op) :: wrapK (enclB op l.op 1) (tkE l) := by
  rw [tkE, if_neg (by omega), tkL, tkL, tkL, if_neg (by omega), if_pos rfl, if_neg (by omega), if_neg (by omega), List.append_nil, List.append_assoc]
  rfl
theorem nt_0 (op n : Int) (nm : List UInt8) : ntE (.mk op n nm []) = 1 := by rw [ntE, ntL]
theorem nt_1 (op n : Int) (nm : List UInt8) (k : Ex) : ntE (.mk op n nm [k]) = 1 + (ntE k + (if enclB op k.op 0 = true then 2 else 0)) := by rw [ntE, ntL, ntL]; rfl
theorem nt_2 (op n : Int) (nm : List UInt8) (k l : Ex) : ntE (.mk op n nm [k, l]) = 1 + (ntE k + (if enclB op k.op 0 = true then 2 else 0) + (ntE l + (if enclB op l.op 1 = true then 2 else 0))) := by rw [ntE, ntL, ntL, ntL]; rfl
theorem wrapK_len (b : Bool) (l : List Tok) : (wrapK b l).length = l.length + (if b = true then 2 else 0) := by cases b <;> simp [wrapK]
theorem nt_pos (t : Ex) : 1 ≤ ntE t := by cases t; rw [ntE]; omega

/-- What stands next is all that counts. -/
theorem operGo_next (ts us : List Tok) (lv k : Int) (h : nextT ts = nextT us) : ∀ (l : List (List UInt8 × Int × Int)) (i : Nat), operGo ts lv k l i = operGo us lv k l i
  | [], i => by rw [operGo, operGo]
  | o :: l, i => by
    rw [operGo, operGo, operGo_next ts us lv k h l (i + 1)]
    unfold sgnT
    rw [h]
theorem operT_next {ts us : List Tok} (h : nextT ts = nextT us) (lv k : Int) : operT ts lv k = operT us lv k := operGo_next ts us lv k h opsT 0
theorem operT_cons (t : Tok) (ts : List Tok) (lv k : Int) : operT (t :: ts) lv k = operT [t] lv k := operT_next rfl lv k
theorem sgnT_cons (t : Tok) (ts : List Tok) (s : List UInt8) : sgnT (t :: ts) s = sgnT [t] s := rfl
theorem operGo_kind (ts : List Tok) (lv k : Int) (h : (nextT ts).kind ≠ 4) : ∀ (l : List (List UInt8 × Int × Int)) (i : Nat), operGo ts lv k l i = -1
  | [], i => by rw [operGo]
  | o :: l, i => by
    rw [operGo, operGo_kind ts lv k h l (i + 1)]
    unfold sgnT
    rw [decide_eq_false h]
    simp
theorem operT_kind {ts : List Tok} (h : (nextT ts).kind ≠ 4) (lv k : Int) : operT ts lv k = -1 := operGo_kind ts lv k h opsT 0
theorem sgnT_kind {ts : List Tok} (h : (nextT ts).kind ≠ 4) (s : List UInt8) : sgnT ts s = false := by unfold sgnT; rw [decide_eq_false h]; rfl

theorem op_two (op : Int) (h : 4 ≤ op ∧ op ≤ 16) (lv : Nat) (hlv : lv ≤ 4) : operT [sg (opS op)] lv 2 = if opL op = lv then op else -1 := by
  have : ∀ k : Fin 17, 4 ≤ k.val → ∀ l : Fin 5, operT [sg (opS (k.val : Int))] (l.val : Int) 2 = if opL (k.val : Int) = (l.val : Int) then (k.val : Int) else -1 := by decide +kernel
  have := this ⟨op.toNat, by omega⟩ (by simp only; omega) ⟨lv, by omega⟩
  simpa [Int.toNat_of_nonneg (show 0 ≤ op by omega)] using this
theorem op_one (op : Int) (h : op = 2 ∨ op = 3) : operT [sg (opS op)] 5 1 = op := by
  rcases h with rfl | rfl <;> decide +kernel
theorem no_shut (lv : Nat) (h : lv ≤ 4) : operT [sg [41]] lv 2 < 0 := by
  have : ∀ l : Fin 5, operT [sg [41]] (l.val : Int) 2 < 0 := by decide +kernel
  exact this ⟨lv, by omega⟩
theorem no_open : operT [sg [40]] 5 1 < 0 := by decide +kernel
theorem op_lv (op : Int) (h : inT op = true) : (opK op = 2 → 4 ≤ op ∧ op ≤ 16 ∧ 0 ≤ opL op ∧ opL op ≤ 4) ∧ (opK op = 1 → (op = 2 ∨ op = 3) ∧ opL op = 5) ∧ (opK op = 0 → (op = 0 ∨ op = 1) ∧ opL op = 5) := by
  have hh := (inT_iff _).1 h
  have : ∀ k : Fin 17, (opK (k.val : Int) = 2 → 4 ≤ (k.val : Int) ∧ (k.val : Int) ≤ 16 ∧ 0 ≤ opL (k.val : Int) ∧ opL (k.val : Int) ≤ 4) ∧ (opK (k.val : Int) = 1 → ((k.val : Int) = 2 ∨ (k.val : Int) = 3) ∧ opL (k.val : Int) = 5) ∧ (opK (k.val : Int) = 0 → ((k.val : Int) = 0 ∨ (k.val : Int) = 1) ∧ opL (k.val : Int) = 5) := by decide +kernel
  have := this ⟨op.toNat, by omega⟩
  simpa [Int.toNat_of_nonneg hh.1] using this

/-- The readings by their levels. -/
def G (U : Nat → List Tok → Res) : Nat → (Nat → List Tok → Res)
  | 0 => chainT (chainT (pairT (chainT (chainT U 4) 3) 2) 1) 0
  | 1 => chainT (pairT (chainT (chainT U 4) 3) 2) 1
  | 2 => pairT (chainT (chainT U 4) 3) 2
  | 3 => chainT (chainT U 4) 3
  | 4 => chainT U 4
  | _ => U
theorem G_or (U : Nat → List Tok → Res) : orOf U = G U 0 := rfl
/-- What stands next is no operator of these levels. -/
def Free (lv : Nat) (ts : List Tok) : Prop := ∀ l : Nat, lv ≤ l → l ≤ 4 → operT ts l 2 < 0

theorem chain_stop {F : Nat → List Tok → Res} {lv : Int} {b b' : Nat} {ts rest : List Tok} {t : Ex} (h : F b ts = .ok t b' rest) (ho : operT rest lv 2 < 0) : chainT F lv b ts = .ok t b' rest := by
  unfold chainT; rw [h]
  simp only
  rw [chainGo, if_pos ho]
theorem pair_stop {F : Nat → List Tok → Res} {lv : Int} {b b' : Nat} {ts rest : List Tok} {t : Ex} (h : F b ts = .ok t b' rest) (ho : operT rest lv 2 < 0) : pairT F lv b ts = .ok t b' rest := by
  unfold pairT; rw [h]
  simp only
  rw [if_pos ho]
theorem G_down {U : Nat → List Tok → Res} {lv b b' : Nat} {ts rest : List Tok} {t : Ex} (hlv : lv ≤ 4) (h : G U (lv + 1) b ts = .ok t b' rest) (ho : operT rest lv 2 < 0) : G U lv b ts = .ok t b' rest := by
  have : lv = 0 ∨ lv = 1 ∨ lv = 2 ∨ lv = 3 ∨ lv = 4 := by omega
  rcases this with rfl | rfl | rfl | rfl | rfl
  · exact chain_stop h ho
  · exact chain_stop h ho
  · exact pair_stop h ho
  · exact chain_stop h ho
  · exact chain_stop h ho
theorem G_downs {U : Nat → List Tok → Res} {b b' : Nat} {ts rest : List Tok} {t : Ex} : ∀ (n lv : Nat), lv + n ≤ 5 → G U (lv + n) b ts = .ok t b' rest → Free lv rest → G U lv b ts = .ok t b' rest
  | 0, lv, _, h, _ => h
  | n + 1, lv, hn, h, hf => G_down (by omega) (G_downs n (lv + 1) (by omega) (by rw [show lv + 1 + n = lv + (n + 1) by omega]; exact h) (fun l hl h4 => hf l (by omega) h4)) (hf lv (Nat.le_refl _) (by omega))
theorem Free.mono {lv lv' : Nat} {ts : List Tok} (h : Free lv ts) (hl : lv ≤ lv') : Free lv' ts := fun l h1 h4 => h l (by omega) h4
theorem free_shut (lv : Nat) (ts : List Tok) : Free lv (sg [41] :: ts) := fun l _ h4 => by rw [operT_cons]; exact no_shut l h4
theorem free_op (op : Int) (h : 4 ≤ op ∧ op ≤ 16) (lv : Nat) (hlv : (lv : Int) > opL op) (ts : List Tok) : Free lv (sg (opS op) :: ts) := fun l h1 h4 => by
  rw [operT_cons, op_two op h l h4, if_neg (by omega)]; omega

/-- The reading of a tree, at each level that it stands on. -/
def RdOK (t : Ex) : Prop := ∀ (d b : Nat) (rest : List Tok) (lv : Nat), (lv : Int) ≤ opL t.op → ntE t ≤ b → b < d → Free lv rest → G (unaryT d) lv b (tkE t ++ rest) = .ok t (b - ntE t) rest
/-- In parentheses it is read as one. -/
theorem atom_ok {t : Ex} (h : RdOK t) (hl : 0 ≤ opL t.op) (d b : Nat) (rest : List Tok) (hn : ntE t + 2 ≤ b) (hd : b < d) : unaryT d b (sg [40] :: (tkE t ++ [sg [41]]) ++ rest) = .ok t (b - (ntE t + 2)) rest := by
  obtain ⟨e, rfl⟩ : ∃ e, d = e + 1 := ⟨d - 1, by omega⟩
  rw [List.cons_append, unaryT, if_neg (by rw [operT_cons]; have := no_open; omega), if_pos (by rw [sgnT_cons]; decide +kernel), if_neg (by omega), List.tail_cons, G_or, List.append_assoc,
    h e (b - 1) ([sg [41]] ++ rest) 0 (by exact_mod_cast hl) (by omega) (by omega) (free_shut 0 _)]
  simp only
  rw [if_pos (show sgnT ([sg [41]] ++ rest) [41] = true from rfl), if_neg (by omega)]
  show Res.ok t (b - 1 - ntE t - 1) rest = _
  rw [show b - 1 - ntE t - 1 = b - (ntE t + 2) by omega]
/-- An operand, in parentheses or not, is read at a level. -/
theorem kid_ok {k : Ex} (h : RdOK k) (hl : 0 ≤ opL k.op ∧ opL k.op ≤ 5) (e : Bool) (lv : Nat) (hlv : lv ≤ 5) (he : e = false → (lv : Int) ≤ opL k.op) (d b : Nat) (rest : List Tok) (hn : ntE k + (if e = true then 2 else 0) ≤ b) (hd : b < d) (hf : Free lv rest) :
    G (unaryT d) lv b (wrapK e (tkE k) ++ rest) = .ok k (b - (ntE k + (if e = true then 2 else 0))) rest := by
  cases e with
  | false =>
    simp only [wrapK, Bool.false_eq_true, if_false, Nat.add_zero] at hn ⊢
    exact h d b rest lv (he rfl) hn hd hf
  | true =>
    simp only [wrapK, if_true] at hn ⊢
    have ha := atom_ok h hl.1 d b rest hn hd
    exact G_downs (5 - lv) lv (by omega) (by rw [show lv + (5 - lv) = 5 by omega]; exact ha) hf
end Go.Proofs.YtlbmojflinkfcaaDoor.Ep
