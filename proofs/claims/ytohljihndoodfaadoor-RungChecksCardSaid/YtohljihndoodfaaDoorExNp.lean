/-
  Plainly: a tree's names, sorted and without doubles (the first part of layer 2's text of names).
-/
import Derived.Test.YtohljihndoodfaaDoorExC
import Derived.Lib.SlicesCompact
namespace Go.Proofs.YtohljihndoodfaaDoor.Ep
open Lx

mutual
/-- The names in a tree, from left to right. -/
def namesE : Ex → List (List UInt8)
  | .mk op _ nm ks => if op = 1 then [nm] else namesL ks
def namesL : List Ex → List (List UInt8)
  | [] => []
  | k :: ks => namesE k ++ namesL ks
end
/-- A name put in its place. -/
def putN (nm : List UInt8) : List (List UInt8) → List (List UInt8)
  | [] => [nm]
  | x :: l => if nm < x then nm :: x :: l else x :: putN nm l
def insN (l : List (List UInt8)) (nm : List UInt8) : List (List UInt8) := if nm ∈ l then l else putN nm l
def SortedN (l : List (List UInt8)) : Prop := l.Pairwise (· < ·)

theorem lt_no (a : List UInt8) : ¬ a < a := List.lt_irrefl a
theorem lt_tr {a b c : List UInt8} (h : a < b) (k : b < c) : a < c := List.lt_trans h k
theorem le_anti {a b : List UInt8} (h : ¬ a < b) (k : ¬ b < a) : a = b := List.le_antisymm (show a ≤ b from k) (show b ≤ a from h)
theorem lt_of_le_ne {a b : List UInt8} (h : a ≤ b) (k : a ≠ b) : a < b := Classical.byContradiction fun q => k (le_anti q h)
theorem lt_of_le_lt {a b c : List UInt8} (h : a ≤ b) (k : b < c) : a < c := by
  by_cases e : a = b
  · rw [e]; exact k
  · exact lt_tr (lt_of_le_ne h e) k

theorem putN_mem (nm x : List UInt8) : ∀ l, x ∈ putN nm l ↔ x = nm ∨ x ∈ l
  | [] => by simp [putN]
  | y :: l => by
    rw [putN]
    split
    · simp
    · rw [List.mem_cons, putN_mem nm x l, List.mem_cons]
      constructor
      · rintro (h | h | h)
        · exact Or.inr (Or.inl h)
        · exact Or.inl h
        · exact Or.inr (Or.inr h)
      · rintro (h | h | h)
        · exact Or.inr (Or.inl h)
        · exact Or.inl h
        · exact Or.inr (Or.inr h)
theorem putN_sorted (nm : List UInt8) : ∀ l, SortedN l → nm ∉ l → SortedN (putN nm l)
  | [], _, _ => by simp [putN, SortedN]
  | y :: l, h, hn => by
    rw [putN]
    have h' := List.pairwise_cons.1 h
    split
    · rename_i hlt
      refine List.pairwise_cons.2 ⟨fun z hz => ?_, h⟩
      rcases List.mem_cons.1 hz with rfl | hz
      · exact hlt
      · exact lt_tr hlt (h'.1 z hz)
    · rename_i hlt
      have hyn : y < nm := Classical.byContradiction fun q => hn (by rw [le_anti hlt q]; simp)
      refine List.pairwise_cons.2 ⟨fun z hz => ?_, putN_sorted nm l h'.2 (fun q => hn (List.mem_cons_of_mem _ q))⟩
      rcases (putN_mem nm z l).1 hz with rfl | hz
      · exact hyn
      · exact h'.1 z hz
theorem insN_mem (l : List (List UInt8)) (nm x : List UInt8) : x ∈ insN l nm ↔ x = nm ∨ x ∈ l := by
  unfold insN
  split
  · rename_i h
    constructor
    · exact Or.inr
    · rintro (rfl | h')
      · exact h
      · exact h'
  · exact putN_mem nm x l
theorem insN_sorted {l : List (List UInt8)} (h : SortedN l) (nm : List UInt8) : SortedN (insN l nm) := by
  unfold insN
  split
  · exact h
  · exact putN_sorted nm l h (by assumption)
theorem fold_mem (x : List UInt8) : ∀ (ns l : List (List UInt8)), x ∈ ns.foldl insN l ↔ x ∈ ns ∨ x ∈ l
  | [], l => by simp
  | n :: ns, l => by
    rw [List.foldl_cons, fold_mem x ns, insN_mem, List.mem_cons]
    constructor
    · rintro (h | h | h)
      · exact Or.inl (Or.inr h)
      · exact Or.inl (Or.inl h)
      · exact Or.inr h
    · rintro ((h | h) | h)
      · exact Or.inr (Or.inl h)
      · exact Or.inl h
      · exact Or.inr (Or.inr h)
theorem fold_sorted : ∀ (ns l : List (List UInt8)), SortedN l → SortedN (ns.foldl insN l)
  | [], _, h => h
  | n :: ns, _, h => fold_sorted ns _ (insN_sorted h n)
theorem sorted_ext : ∀ (l m : List (List UInt8)), SortedN l → SortedN m → (∀ x, x ∈ l ↔ x ∈ m) → l = m
  | [], [], _, _, _ => rfl
  | [], y :: m, _, _, h => by have := (h y).2 (by simp); simp at this
  | x :: l, [], _, _, h => by have := (h x).1 (by simp); simp at this
  | x :: l, y :: m, hl, hm, h => by
    have hl' := List.pairwise_cons.1 hl
    have hm' := List.pairwise_cons.1 hm
    have e : x = y := by
      rcases List.mem_cons.1 ((h x).1 (by simp)) with e | e
      · exact e
      · rcases List.mem_cons.1 ((h y).2 (by simp)) with e' | e'
        · exact e'.symm
        · exact absurd (lt_tr (hl'.1 y e') (hm'.1 x e)) (lt_no x)
    subst e
    rw [sorted_ext l m hl'.2 hm'.2 fun z => ?_]
    constructor
    · intro hz
      rcases List.mem_cons.1 ((h z).1 (List.mem_cons_of_mem _ hz)) with rfl | hz'
      · exact absurd (hl'.1 z hz) (lt_no z)
      · exact hz'
    · intro hz
      rcases List.mem_cons.1 ((h z).2 (List.mem_cons_of_mem _ hz)) with rfl | hz'
      · exact absurd (hm'.1 z hz) (lt_no z)
      · exact hz'

/-- What slices.Compact keeps of what is sorted. -/
theorem compact_inv (d : Array (List UInt8)) (hs : ∀ i j, i ≤ j → j < d.size → d[i]! ≤ d[j]!) : ∀ m, m ≤ d.size →
    SortedN (Lib.compactUpTo d m) ∧ (∀ x, x ∈ Lib.compactUpTo d m ↔ ∃ j, j < m ∧ d[j]! = x) ∧ (0 < m → ∀ x ∈ Lib.compactUpTo d m, x ≤ d[m - 1]!)
  | 0, _ => ⟨by simp [Lib.compactUpTo, SortedN], by simp [Lib.compactUpTo], fun h => absurd h (by omega)⟩
  | m + 1, hm => by
    obtain ⟨h1, h2, h3⟩ := compact_inv d hs m (by omega)
    rw [Lib.compactUpTo_succ]
    have hmem : ∀ x, (∃ j, j < m + 1 ∧ d[j]! = x) ↔ (∃ j, j < m ∧ d[j]! = x) ∨ d[m]! = x := by
      intro x
      constructor
      · rintro ⟨j, hj, e⟩
        by_cases q : j = m
        · subst q; exact Or.inr e
        · exact Or.inl ⟨j, by omega, e⟩
      · rintro (⟨j, hj, e⟩ | e)
        · exact ⟨j, by omega, e⟩
        · exact ⟨m, by omega, e⟩
    by_cases hk : Lib.keeps d m = true
    · rw [if_pos hk]
      refine ⟨?_, fun x => ?_, fun _ x hx => ?_⟩
      · unfold SortedN
        rw [List.pairwise_append]
        refine ⟨h1, by simp, fun a ha b hb => ?_⟩
        simp only [List.mem_singleton] at hb
        subst hb
        have h0 : 0 < m := by
          rcases Nat.eq_zero_or_pos m with h0 | h0
          · subst h0; simp [Lib.compactUpTo] at ha
          · exact h0
        have hne : d[m]! ≠ d[m - 1]! := by
          unfold Lib.keeps at hk
          rcases of_decide_eq_true hk with q | q
          · omega
          · exact q
        exact lt_of_le_lt (h3 h0 a ha) (lt_of_le_ne (hs (m - 1) m (by omega) (by omega)) (fun e => hne e.symm))
      · rw [List.mem_append, h2, hmem, List.mem_singleton]
        exact ⟨fun h => h.imp id Eq.symm, fun h => h.imp id Eq.symm⟩
      · simp only [Nat.add_sub_cancel]
        rcases List.mem_append.1 hx with hx | hx
        · obtain ⟨j, hj, rfl⟩ := (h2 x).1 hx
          exact hs j m (by omega) (by omega)
        · simp only [List.mem_singleton] at hx
          subst hx
          exact List.le_refl _
    · rw [if_neg hk, List.append_nil]
      have hk' : ¬ m = 0 ∧ d[m]! = d[m - 1]! := by
        unfold Lib.keeps at hk
        rw [decide_eq_true_eq] at hk
        exact ⟨fun e => hk (Or.inl e), Classical.byContradiction fun e => hk (Or.inr e)⟩
      refine ⟨h1, fun x => ?_, fun _ x hx => ?_⟩
      · rw [h2, hmem]
        constructor
        · exact Or.inl
        · rintro (h | h)
          · exact h
          · exact ⟨m - 1, by omega, hk'.2.symm.trans h⟩
      · simp only [Nat.add_sub_cancel]
        rw [hk'.2]
        exact h3 (by omega) x hx

def leS (x y : List UInt8) : Bool := decide (x ≤ y)
theorem names_same (l : List (List UInt8)) : Lib.compact (l.mergeSort fun x y => decide (x ≤ y)) = l.foldl insN [] := by
  have hp : (l.mergeSort fun x y => decide (x ≤ y)).Perm l := List.mergeSort_perm l _
  have hsd : (l.mergeSort fun x y => decide (x ≤ y)).Pairwise fun a b => (decide (a ≤ b)) = true :=
    List.pairwise_mergeSort (fun a b c h1 h2 => by simp only [decide_eq_true_eq] at *; exact List.le_trans h1 h2) (fun a b => by rcases List.le_total a b with h | h <;> simp [h]) l
  generalize hz : (l.mergeSort fun x y => decide (x ≤ y)) = zs at *
  have hs : ∀ i j, i ≤ j → j < zs.toArray.size → zs.toArray[i]! ≤ zs.toArray[j]! := by
    intro i j hij hj
    have hj' : j < zs.length := by simpa using hj
    rw [getElem!_pos zs.toArray i (by simp; omega), getElem!_pos zs.toArray j (by simpa using hj)]
    by_cases e : i = j
    · subst e; exact List.le_refl _
    · have := List.pairwise_iff_getElem.1 hsd i j (by omega) hj' (by omega)
      simpa using this
  obtain ⟨h1, h2, -⟩ := compact_inv zs.toArray hs zs.length (by simp)
  refine sorted_ext _ _ h1 (fold_sorted _ _ (by simp [SortedN])) fun x => ?_
  rw [fold_mem]
  show x ∈ Lib.compactUpTo zs.toArray zs.length ↔ _
  rw [h2, ← hp.mem_iff]
  simp only [List.not_mem_nil, or_false]
  constructor
  · rintro ⟨j, hj, rfl⟩
    rw [getElem!_pos zs.toArray j (by simpa using hj)]
    simp
  · intro hx
    obtain ⟨j, hj, rfl⟩ := List.getElem_of_mem hx
    exact ⟨j, hj, by rw [getElem!_pos zs.toArray j (by simpa using hj)]; simp⟩
theorem spareE_eq (op n : Int) (nm : List UInt8) (ks : List Ex) (m : Int) (h : 0 ≤ spareE (.mk op n nm ks) m) : spareE (.mk op n nm ks) m = spareL op ks 0 (m - 1) ∧ 0 < m ∧ formedB op n nm ks.length = true := by
  unfold spareE at h ⊢
  split at h
  · omega
  · rename_i hc
    rw [if_neg hc]
    refine ⟨rfl, by omega, ?_⟩
    cases hf : formedB op n nm ks.length
    · exact absurd (Or.inr hf) hc
    · rfl
/-- What Names tells. -/
def namesP (t : Ex) : List (List UInt8) := if mayB t = true then (namesE t).foldl insN [] else []
end Go.Proofs.YtohljihndoodfaaDoor.Ep
