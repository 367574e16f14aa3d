/-
  A record put into a page (plain), and the row that grows by it.
-/
import Derived.Test.YthgoapcafjijfaaPgW4
import Derived.Test.YthgoapcafjijfaaPgR3
namespace Go.Proofs.Ythgoapcafjijfaa.Pg
open Go.RowKit

def stepI (x : Rec) (st : Bool × List Rec) (p : Rec) : Bool × List Rec := if (!st.1 && less x.1 p.1) = true then (true, st.2 ++ [x] ++ [p]) else (st.1, st.2 ++ [p])
def foldI (x : Rec) (l : List Rec) : Bool × List Rec := l.foldl (stepI x) (false, [])
def endI (x : Rec) (st : Bool × List Rec) : List Rec := if st.1 = true then st.2 else st.2 ++ [x]
def insR (x : Rec) : List Rec → List Rec
  | [] => [x]
  | p :: r => if less x.1 p.1 = true then x :: p :: r else p :: insR x r
theorem fold_true (x : Rec) : ∀ (l acc : List Rec), endI x (l.foldl (stepI x) (true, acc)) = acc ++ l
  | [], acc => by simp [endI]
  | p :: r, acc => by
    have e : stepI x (true, acc) p = (true, acc ++ [p]) := by simp [stepI]
    rw [List.foldl_cons, e, fold_true x r]
    simp
theorem fold_false (x : Rec) : ∀ (l acc : List Rec), endI x (l.foldl (stepI x) (false, acc)) = acc ++ insR x l
  | [], acc => by simp [endI, insR]
  | p :: r, acc => by
    rw [List.foldl_cons]
    by_cases h : less x.1 p.1 = true
    · have e : stepI x (false, acc) p = (true, acc ++ [x] ++ [p]) := by simp [stepI, h]
      rw [e, fold_true x r, insR, if_pos h]
      simp
    · have e : stepI x (false, acc) p = (false, acc ++ [p]) := by simp [stepI, h]
      rw [e, fold_false x r, insR, if_neg h]
      simp
theorem end_fold (x : Rec) (l : List Rec) : endI x (foldI x l) = insR x l := by
  rw [foldI, fold_false]
  rfl
theorem fold_succ (x : Rec) {l : List Rec} {k : Nat} (h : k < l.length) : foldI x (l.take (k + 1)) = stepI x (foldI x (l.take k)) l[k] := by
  unfold foldI
  rw [take_snoc h, List.foldl_append]
  rfl
theorem ins_sum (x : Rec) : ∀ l : List Rec, sumP (insR x l) = slotsP x + sumP l
  | [] => rfl
  | p :: r => by
    unfold insR
    split
    · rfl
    · show slotsP p + sumP (insR x r) = slotsP x + (slotsP p + sumP r)
      rw [ins_sum x r]
      omega
theorem ins_len (x : Rec) : ∀ l : List Rec, (insR x l).length = l.length + 1
  | [] => rfl
  | p :: r => by
    unfold insR
    split
    · rfl
    · simp [ins_len x r]
theorem ins_mem {x q : Rec} : ∀ {l : List Rec}, q ∈ insR x l → q = x ∨ q ∈ l
  | [], h => by
    simp [insR] at h
    exact .inl h
  | p :: r, h => by
    unfold insR at h
    split at h
    · rcases List.mem_cons.1 h with h | h
      · exact .inl h
      · exact .inr h
    · rcases List.mem_cons.1 h with h | h
      · exact .inr (by simp [h])
      · rcases ins_mem h with h | h
        · exact .inl h
        · exact .inr (by simp [h])
theorem less_of_not {a b : ByteArray} (h : ¬ less a b = true) (hn : a ≠ b) : less b a = true := by
  have h1 := less_leq a b
  have h2 : less a b = false := by simpa using h
  rw [h2] at h1
  have h3 : (b.toList == a.toList) = false := str_ne (fun e => hn e.symm)
  unfold less
  rw [h3] at h1
  simpa using h1
theorem ins_inc {x : Rec} : ∀ {l : List Rec}, incP l → (∀ p ∈ l, p.1 ≠ x.1) → incP (insR x l)
  | [], _, _ => trivial
  | [p], _, hn => by
    unfold insR
    split
    · next h => exact ⟨h, trivial⟩
    · next h => exact ⟨less_of_not h (fun e => hn p (by simp) e.symm), trivial⟩
  | p :: q :: r, hi, hn => by
    unfold insR
    split
    · next h => exact ⟨h, hi⟩
    · next h =>
      have ih := ins_inc (l := q :: r) hi.2 (fun y hy => hn y (by simp [hy]))
      unfold insR at ih ⊢
      split
      · next h2 =>
        rw [if_pos h2] at ih
        exact ⟨less_of_not h (fun e => hn p (by simp) e.symm), ih⟩
      · next h2 =>
        rw [if_neg h2] at ih
        exact ⟨hi.1, ih⟩

/-- The row of records that a law makes. -/
def RowP (g : Nat) (B : Nat) (w : World) (A : Option Addr) (n c : Nat) (l : List Rec) : Prop :=
  l.length = n ∧ ∃ xs, w.ownsRow (g + 1) 37 2 (.slice A n c) n xs ∧ PCells (fun b => B ≤ b) w l xs
theorem RowP.recs {g B n c : Nat} {w : World} {A : Option Addr} {l : List Rec} (h : RowP g B w A n c l) : Recs (fun _ => False) w A l := by
  obtain ⟨rfl, xs, h1, h2⟩ := h
  exact (h2.mono (Y := fun _ => False) (fun b _ h => h.elim)).recs h1 (fun b hb => id)
theorem RowP.below {g B n c : Nat} {w w' : World} {A : Option Addr} {l : List Rec} (h : RowP g B w A n c l) (k : Below w.heap.size w w') : RowP g B w' A n c l := by
  obtain ⟨h0, xs, h1, h2⟩ := h
  exact ⟨h0, xs, own_keep h1 k, h2.fr (Fr.of_below k)⟩
theorem RowP.nil_ (g B : Nat) (w : World) : RowP g B w none 0 0 [] := ⟨rfl, [], World.ownsRow_nil _ _ _ _, PCells.nil_⟩
theorem run_app_rec {g B n c m : Nat} {w : World} {A : Option Addr} {l : List Rec} (h : RowP g B w A n c l) (hm : n + 1 = m) {v0 v1 : Value} {p : Rec} (hv : RecV (fun b => B ≤ b) w v0 v1 p) (hn : n ≤ 1000) (hg : g < w.heap.size) {cs : Array Value} (hx : Box w g 37 cs) {w0 : World} (hB : B ≤ g) (hb : Below B w0 w) :
    ∃ A' c' w', (Builtin.append_ #[22, 22] 22 #[.slice A n c, .slice (some ⟨w.heap.size, 0, none⟩) 1 1]).run Try.prog (w.alloc (.cells #[v0, v1] 37)) = .ok (.slice A' m c') w' ∧
      RowP g B w' A' m c' (l ++ [p]) ∧ Box w' g 37 cs ∧ Below B w0 w' := by
  subst hm
  obtain ⟨h0, xs, h1, h2⟩ := h
  have o0 : v0.oneCell' = true := by obtain ⟨_, _, rfl, _⟩ := hv; rfl
  have o1 : v1.oneCell' = true := by obtain ⟨_, _, _, rfl, _⟩ := hv; rfl
  obtain ⟨A', c', w', hr, ho, hgr, _⟩ := run_append_rec v0 v1 o0 o1 h1 (by omega) (by omega)
  have hlt : ∀ k, (Value.slice A n c).ownBlock = some k → g + 1 ≤ k := fun k hk => (h1.lt k hk).1
  have hs : (w.alloc (.cells #[v0, v1] 37)).heap.size = w.heap.size + 1 := by simp
  have hf : Fr (fun b => B ≤ b) w w' := ((Fr.refl _ w).alloc (.cells #[v0, v1] 37)).trans ⟨hgr.os, hgr.tape, hgr.output, hgr.size, fun b hb hn => hgr.block b hb (fun e => by have := hlt b e.symm; exact hn (by omega))⟩
  refine ⟨A', c', w', hr, ⟨by simp [h0], xs ++ [v0, v1], ho, (h2.append (PCells.one hv)).fr hf⟩, (hx.alloc _).grown hgr (fun e => by have := hlt g e.symm; omega), (hb.alloc (by omega) _).grown hgr (by omega) (fun k hk => by have := hlt k hk; omega)⟩
end Go.Proofs.Ythgoapcafjijfaa.Pg
