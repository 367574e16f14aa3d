/-
  Rows of tokens in memory, and the law's own Joined.
-/
import Derived.Test.YtinocaggponpmaaGreatDoorLexW9
import Derived.Test.YtinocaggponpmaaGreatDoorLexU
import Derived.Deep.AppendLies
namespace Go.Proofs.YtinocaggponpmaaGreatDoor.Lx
open Go.RowKit

def zTok : Tok := ⟨0, [], 0, 0⟩
theorem toks_at (ts : List Tok) : ∀ (lo hi : Nat), Toks lo hi ts → ∀ (k : Nat) (hk : k < ts.length), (lo : Int) ≤ ts[k].at_ ∧ ts[k].at_ < hi ∧ (∀ (j : Nat) (hj : j < ts.length), j < k → ts[j].at_ < ts[k].at_) ∧ 1 ≤ ts[k].kind ∧ (ts[k].text = [] → ts[k].kind = 3) := by
  induction ts with
  | nil => intro lo hi _ k hk; simp at hk
  | cons t ts ih =>
    rintro lo hi ⟨a, h1, h2, h3, ⟨c, xs, hok⟩, h5⟩ k hk
    cases k with
    | zero =>
      refine ⟨?_, ?_, fun j _ hj => by omega, hok.kind.1, hok.text⟩
      · simp only [List.getElem_cons_zero, h1]; omega
      · simp only [List.getElem_cons_zero, h1]; omega
    | succ k =>
      simp only [List.length_cons] at hk
      obtain ⟨q1, q2, q3, q4, q5⟩ := ih _ _ h5 k (by omega)
      refine ⟨?_, ?_, fun j hj hjk => ?_, ?_, ?_⟩
      · simp only [List.getElem_cons_succ]; omega
      · simp only [List.getElem_cons_succ]; exact q2
      · cases j with
        | zero => simp only [List.getElem_cons_zero, List.getElem_cons_succ, h1]; omega
        | succ j => simp only [List.getElem_cons_succ]; exact q3 j (by simp at hj; omega) (by omega)
      · simp only [List.getElem_cons_succ]; exact q4
      · simp only [List.getElem_cons_succ]; exact q5

/-- What the law asks of each token. -/
theorem places_at (ts : List Tok) (hi : Nat) (h : Toks 0 hi ts) (k : Nat) (hk : k < ts.length + 1) :
    0 ≤ ((ts ++ ([⟨0, [], 0, (hi : Int)⟩] : List Tok)).getD k zTok).at_ ∧ ((ts ++ ([⟨0, [], 0, (hi : Int)⟩] : List Tok)).getD k zTok).at_ ≤ hi ∧
    (0 < k → ((ts ++ ([⟨0, [], 0, (hi : Int)⟩] : List Tok)).getD (k - 1) zTok).at_ < ((ts ++ ([⟨0, [], 0, (hi : Int)⟩] : List Tok)).getD k zTok).at_) ∧
    ((k = ts.length ∧ ((ts ++ ([⟨0, [], 0, (hi : Int)⟩] : List Tok)).getD k zTok).kind = 0 ∧ ((ts ++ ([⟨0, [], 0, (hi : Int)⟩] : List Tok)).getD k zTok).text = []) ∨
     (k < ts.length ∧ 1 ≤ ((ts ++ ([⟨0, [], 0, (hi : Int)⟩] : List Tok)).getD k zTok).kind ∧ (((ts ++ ([⟨0, [], 0, (hi : Int)⟩] : List Tok)).getD k zTok).text = [] → ((ts ++ ([⟨0, [], 0, (hi : Int)⟩] : List Tok)).getD k zTok).kind = 3))) := by
  have hget : ∀ j (hj : j < ts.length), (ts ++ ([⟨0, [], 0, (hi : Int)⟩] : List Tok)).getD j zTok = ts[j] := fun j hj => by
    rw [List.getD_eq_getElem?_getD, List.getElem?_append_left hj, List.getElem?_eq_getElem hj]; rfl
  have hlast : (ts ++ ([⟨0, [], 0, (hi : Int)⟩] : List Tok)).getD ts.length zTok = ⟨0, [], 0, (hi : Int)⟩ := by
    rw [List.getD_eq_getElem?_getD, List.getElem?_append_right (Nat.le_refl _)]; simp
  by_cases hlt : k < ts.length
  · obtain ⟨q1, q2, q3, q4, q5⟩ := toks_at ts 0 hi h k hlt
    rw [hget k hlt]
    refine ⟨by omega, by omega, fun h0 => ?_, Or.inr ⟨hlt, q4, q5⟩⟩
    rw [hget (k - 1) (by omega)]
    exact q3 (k - 1) (by omega) (by omega)
  · obtain rfl : k = ts.length := by omega
    rw [hlast]
    refine ⟨by simp only; omega, Int.le_refl _, fun h0 => ?_, Or.inl ⟨rfl, rfl, rfl⟩⟩
    rw [hget _ (by omega)]
    exact (toks_at ts 0 hi h (ts.length - 1) (by omega)).2.1

theorem toksC_get (L : List Tok) : ∀ (k f : Nat), k < L.length → f < 4 → (toksC L)[k * 4 + f]? = (tokC (L.getD k zTok))[f]? := by
  induction L with
  | nil => intro k f hk; simp at hk
  | cons t L ih =>
    intro k f hk hf
    have e : toksC (t :: L) = tokC t ++ toksC L := by simp [toksC]
    have hl : (tokC t).length = 4 := rfl
    rw [e]
    cases k with
    | zero => rw [List.getElem?_append_left (by omega)]; simp
    | succ k =>
      rw [List.getElem?_append_right (by omega), hl, show (k + 1) * 4 + f - 4 = k * 4 + f from by omega, ih k f (by simp at hk; omega) hf]
      rfl
/-- What a walk wants of a row of tokens. -/
theorem own_toks {w : World} {base n c : Nat} {A : Option Addr} {L : List Tok} {e : TypeId} (h : w.ownsRow base e 4 (.slice A n c) L.length (toksC L)) :
    n = L.length ∧ L.length ≤ c ∧ (0 < L.length → ∃ g, A = some ⟨g, 0, none⟩ ∧ g < w.heap.size ∧ ∀ k (_hk : k < L.length), w.cell? ⟨g, k * 4, none⟩ = some (.int .i64 (L.getD k zTok).kind) ∧ w.cell? ⟨g, k * 4 + 1, none⟩ = some (.string ⟨(L.getD k zTok).text.toArray⟩) ∧
      w.cell? ⟨g, k * 4 + 2, none⟩ = some (.int .i64 (L.getD k zTok).n) ∧ w.cell? ⟨g, k * 4 + 3, none⟩ = some (.int .i64 (L.getD k zTok).at_)) := by
  refine ⟨?_, ?_, fun hpos => ?_⟩
  · obtain ⟨A', c', e'⟩ := ownsRow_slice h
    injection e'
  · rcases h.2 with ⟨e', hn⟩ | ⟨g, cap, cur, hv, _, _, hle, _⟩
    · rw [hn]; exact Nat.zero_le _
    · injection hv with _ _ hc
      omega
  · obtain ⟨g, cap, hv, _, hlt⟩ := h.form (by omega)
    rw [hv] at h
    injection hv with hA
    refine ⟨g, hA, hlt, fun k hk => ⟨?_, ?_, ?_, ?_⟩⟩
    · have := h.cellAt (k * 4) (by omega)
      rw [this, ← Nat.add_zero (k * 4), toksC_get L k 0 hk (by omega)]; rfl
    · have := h.cellAt (k * 4 + 1) (by omega)
      rw [this, toksC_get L k 1 hk (by omega)]; rfl
    · have := h.cellAt (k * 4 + 2) (by omega)
      rw [this, toksC_get L k 2 hk (by omega)]; rfl
    · have := h.cellAt (k * 4 + 3) (by omega)
      rw [this, toksC_get L k 3 hk (by omega)]; rfl


theorem joined_take (L : List Tok) (k : Nat) (hk : k < L.length) : joinedL (L.take (k + 1)) = joinedL (L.take k) ++ (src (L.getD k zTok) ++ [32]) := by
  rw [List.take_succ_eq_append_getElem hk]
  unfold joinedL
  rw [List.flatMap_append, List.getD_eq_getElem?_getD, List.getElem?_eq_getElem hk]
  simp
theorem joined_take_le (L : List Tok) (k : Nat) : (joinedL (L.take k)).length ≤ (joinedL L).length := by
  have h : joinedL L = joinedL (L.take k) ++ joinedL (L.drop k) := by
    unfold joinedL
    rw [← List.flatMap_append, List.take_append_drop]
  rw [h, List.length_append]
  omega
theorem cat_text (S t : List UInt8) : ((⟨S.toArray⟩ : ByteArray) ++ ⟨#[34]⟩ ++ ⟨t.toArray⟩ ++ ⟨#[34, 32]⟩) = ⟨(S ++ (34 :: (t ++ [34]) ++ [32])).toArray⟩ := by
  apply ByteArray.ext
  apply Array.toList_inj.1
  simp
theorem cat_plain (S t : List UInt8) : ((⟨S.toArray⟩ : ByteArray) ++ ⟨t.toArray⟩ ++ ⟨#[32]⟩) = ⟨(S ++ (t ++ [32])).toArray⟩ := by
  apply ByteArray.ext
  apply Array.toList_inj.1
  simp
end Go.Proofs.YtinocaggponpmaaGreatDoor.Lx
