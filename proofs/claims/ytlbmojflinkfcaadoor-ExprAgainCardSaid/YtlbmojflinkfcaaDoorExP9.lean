/-
  Plainly: the steps of a cut through the text of a tree: a name, a number, a sign, a blank, each with what stands behind it.
-/
import Derived.Test.YtlbmojflinkfcaaDoorExP7
import Derived.Test.YtlbmojflinkfcaaDoorExP4
namespace Go.Proofs.YtlbmojflinkfcaaDoor.Ep
open Lx

/-- What may stand behind a word: nothing, a blank, a closing bracket. -/
def Ends (r : List UInt8) : Prop := r = [] ∨ (∃ r', r = 32 :: r') ∨ (∃ r', r = 41 :: r')
/-- A text l is cut to tokens like us, whatever of these stands behind it. -/
def Cuts (E : List UInt8 → Prop) (l : List UInt8) (us : List Tok) : Prop :=
  ∀ (r : List UInt8), E r → ∀ (a : Nat) (acc : List Tok), acc.length + us.length ≤ 2000 →
    ∃ vs n, Likes us vs ∧ T (rn (l ++ r)) a acc = T (rn r) (a + n) (acc ++ vs)
theorem ends_word (r : List UInt8) (h : Ends r) : ∀ c cs, rn r = c :: cs → isW c = false := by
  intro c cs e
  rcases h with rfl | ⟨r', rfl⟩ | ⟨r', rfl⟩
  · have h0 : rn [] = [] := rfl
    rw [h0] at e; cases e
  · have h32 : rn (32 :: r') = (32, [32]) :: rn r' := rn_blank [] (by simp) 32 (by decide) r'
    rw [h32] at e
    injection e with e _
    subst e
    decide
  · have h41 : rn (41 :: r') = (41, [41]) :: rn r' := rn_blank [] (by simp) 41 (by decide) r'
    rw [h41] at e
    injection e with e _
    subst e
    decide

theorem takeWhile_each {p : Ch → Bool} : ∀ ws : List Ch, (∀ w ∈ ws, p w = true) → ws.takeWhile p = ws
  | [], _ => rfl
  | w :: ws, h => by rw [List.takeWhile_cons_of_pos (h w (by simp)), takeWhile_each ws (fun x hx => h x (by simp [hx]))]
theorem takeWhile_to {p : Ch → Bool} (ws ys : List Ch) (h : ∀ w ∈ ws, p w = true) (hy : ∀ c cs, ys = c :: cs → p c = false) : (ws ++ ys).takeWhile p = ws := by
  cases ys with
  | nil => rw [List.append_nil]; exact takeWhile_each ws h
  | cons c cs => exact takeWhile_stop ws h c (hy c cs rfl) cs
/-- A word, cut off what stands behind it. -/
theorem T_word (l r : List UInt8) (hr : Ends r) (hw : ∀ c ∈ rn l, isW c = true) (_hne : l ≠ []) (tk : Tok) (c : Ch) (ds : List Ch) (hc : rn l = c :: ds) (h1 : clsI c.1 ≠ 1) (h6 : clsI c.1 ≠ 6)
    (htok : ∀ m : List UInt8, wordL m = l → tokenT (clsI c.1) m = (tk, l.length, 0)) (a : Nat) (acc : List Tok) (ha : acc.length < 2000) :
    T (rn (l ++ r)) a acc = T (rn r) (a + (rn l).length) (acc ++ [{ tk with at_ := a }]) := by
  have hfirm : ∀ x ∈ rn l, Firm x := fun x hx => firm_mem l x hx (isW_not_bad (hw x hx))
  have hrn : rn (l ++ r) = rn l ++ rn r := by
    conv => lhs; rw [← flat_rn l]
    exact rn_firm (rn l) hfirm r
  have hword : wordL (l ++ r) = l := by
    unfold wordL wordC
    rw [hrn, takeWhile_to _ _ hw (fun c cs e => ends_word r hr c cs e), flat_rn]
  have hcan : Lx.Can (c :: (ds ++ rn r)) := by
    have := can_rn (l ++ r)
    rw [hrn, hc] at this
    exact this
  have hflat : flat (c :: (ds ++ rn r)) = l ++ r := by
    have e : c :: (ds ++ rn r) = rn (l ++ r) := by rw [hrn, hc]; rfl
    rw [e, flat_rn]
  have ht := htok (l ++ r) hword
  have hlen : l.length = (flat (c :: ds)).length := by rw [← hc, flat_rn]
  rw [hrn, hc, List.cons_append]
  rw [T_ok c (ds ++ rn r) ds (rn r) a acc hcan h1 h6 rfl (by rw [hflat, ht]) (by rw [hflat, ht]; exact hlen), if_neg (by omega), hflat, ht]
  rw [show a + 1 + ds.length = a + (c :: ds).length by simp; omega]
end Go.Proofs.YtlbmojflinkfcaaDoor.Ep
