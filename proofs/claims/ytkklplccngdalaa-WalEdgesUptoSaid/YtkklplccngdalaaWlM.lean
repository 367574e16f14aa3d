/-
  The plain log of layer 5: where its sectors lie, what they hold, writes that may be cut off. No Go here.
-/
import Derived.Test.YtkklplccngdalaaDkM
namespace Go.Proofs.Ytkklplccngdalaa.Dk

/-! ### how many data sectors there are, and where they lie -/
def room (n : Nat) : Nat := (n - 1) / 129 * 64 + ((n - 1) % 129 - 1) / 2
def fitR (n p : Nat) : Prop := 1 + (p + 63) / 64 + 2 * p ≤ n
theorem room_fit {n : Nat} (h : 4 ≤ n) : fitR n (room n) := by unfold fitR room; omega
theorem room_max (n : Nat) : ¬ fitR n (room n + 1) := by unfold fitR room; omega
theorem room_small {n : Nat} (h : n < 4) : room n = 0 := by unfold room; omega
theorem room_pos {n : Nat} (h : 4 ≤ n) : 0 < room n := by unfold room; omega
theorem room_lt {n : Nat} : 2 * room n ≤ n := by unfold room; omega
def spareAt (n i : Nat) : Nat := 2 + (room n - 1) / 64 + i
def dataAt (n j : Nat) : Nat := spareAt n (room n) + j
theorem spare_lt {n i : Nat} (h : 4 ≤ n) (hi : i < room n) : spareAt n i < n := by
  have := room_fit h
  unfold fitR at this
  unfold spareAt
  omega
theorem data_lt {n j : Nat} (h : 4 ≤ n) (hj : j < room n) : dataAt n j < n := by
  have := room_fit h
  unfold fitR at this
  unfold dataAt spareAt
  omega
theorem index_lt {n i : Nat} (h : 4 ≤ n) (hi : i < room n) : 1 + i / 64 < n := by
  have := room_fit h
  unfold fitR at this
  omega
theorem index_spare {n i j : Nat} (hi : i < room n) : 1 + i / 64 ≠ spareAt n j := by unfold spareAt; omega
theorem index_data {n i j : Nat} (hi : i < room n) : 1 + i / 64 ≠ dataAt n j := by unfold dataAt spareAt; omega
theorem spare_data {n i j : Nat} (hi : i < room n) : spareAt n i ≠ dataAt n j := by unfold dataAt spareAt; omega

/-! ### numbers in sectors -/
def byteOf (n k : Nat) : UInt8 := UInt8.ofNat (n / 256 ^ k)
def setE (b : List UInt8) (i n : Nat) : List UInt8 := (((b.set (i * 4) (byteOf n 0)).set (i * 4 + 1) (byteOf n 1)).set (i * 4 + 2) (byteOf n 2)).set (i * 4 + 3) (byteOf n 3)
def gb (b : List UInt8) (k : Nat) : Nat := (b.getD k 0).toNat
def ent (b : List UInt8) (i : Nat) : Nat := gb b (i * 4) + 256 * gb b (i * 4 + 1) + 65536 * gb b (i * 4 + 2) + 16777216 * gb b (i * 4 + 3)
theorem setE_len (b : List UInt8) (i n : Nat) : (setE b i n).length = b.length := by simp [setE]
theorem gb_lt (b : List UInt8) (k : Nat) : gb b k < 256 := (b.getD k 0).toNat_lt
theorem gb_set (b : List UInt8) (j k : Nat) (x : UInt8) (hj : j < b.length) : gb (b.set j x) k = if j = k then x.toNat else gb b k := by
  unfold gb
  rw [List.getD_eq_getElem?_getD, List.getElem?_set]
  by_cases h : j = k
  · subst h
    simp [hj]
  · simp [h, List.getD_eq_getElem?_getD]
theorem byteOf_toNat (n k : Nat) : (byteOf n k).toNat = n / 256 ^ k % 256 := by simp [byteOf, UInt8.toNat_ofNat']
theorem gb_setE {b : List UInt8} {i n : Nat} (hi : i * 4 + 3 < b.length) (k : Nat) : gb (setE b i n) k = if i * 4 ≤ k ∧ k < i * 4 + 4 then n / 256 ^ (k - i * 4) % 256 else gb b k := by
  unfold setE
  rw [gb_set _ _ _ _ (by simp; omega), gb_set _ _ _ _ (by simp; omega), gb_set _ _ _ _ (by simp; omega), gb_set _ _ _ _ (by omega)]
  simp only [byteOf_toNat]
  by_cases h0 : i * 4 = k
  · subst h0; simp
  · by_cases h1 : i * 4 + 1 = k
    · subst h1; simp
    · by_cases h2 : i * 4 + 2 = k
      · subst h2; simp
      · by_cases h3 : i * 4 + 3 = k
        · subst h3; simp
        · rw [if_neg h3, if_neg h2, if_neg h1, if_neg h0, if_neg (by omega)]
theorem ent_setE_same {b : List UInt8} {i n : Nat} (hi : i * 4 + 3 < b.length) (hn : n < 4294967296) : ent (setE b i n) i = n := by
  unfold ent
  rw [gb_setE hi, gb_setE hi, gb_setE hi, gb_setE hi, if_pos (by omega), if_pos (by omega), if_pos (by omega), if_pos (by omega)]
  have e0 : i * 4 - i * 4 = 0 := by omega
  have e1 : i * 4 + 1 - i * 4 = 1 := by omega
  have e2 : i * 4 + 2 - i * 4 = 2 := by omega
  have e3 : i * 4 + 3 - i * 4 = 3 := by omega
  rw [e0, e1, e2, e3]
  omega
theorem ent_setE_other {b : List UInt8} {i j n : Nat} (hi : i * 4 + 3 < b.length) (h : j ≠ i) : ent (setE b i n) j = ent b j := by
  unfold ent
  rw [gb_setE hi, gb_setE hi, gb_setE hi, gb_setE hi, if_neg (by omega), if_neg (by omega), if_neg (by omega), if_neg (by omega)]

def headB (n : Nat) : List UInt8 := setE (full 0) 0 n
theorem headB_len (n : Nat) : (headB n).length = 256 := by rw [headB, setE_len, full_len]
theorem ent_head {n : Nat} (h : n < 4294967296) : ent (headB n) 0 = n := ent_setE_same (by rw [full_len]; omega) h
theorem set_rep (n k : Nat) : (List.replicate n (0 : UInt8)).set k 0 = List.replicate n 0 := List.set_replicate_self
theorem head_zero : headB 0 = full 0 := by
  have e : ∀ k, byteOf 0 k = 0 := fun k => by unfold byteOf; rw [Nat.zero_div]; rfl
  unfold headB setE full
  rw [e, e, e, e, set_rep, set_rep, set_rep, set_rep]

/-! ### groups -/
abbrev GI := Int × List UInt8
def okI (P : Nat) (x : GI) : Prop := 0 ≤ x.1 ∧ x.1 < (P : Int) ∧ x.2.length = 256
def okG (P : Nat) (l : List GI) : Prop := (∀ x ∈ l, okI P x) ∧ (l.map Prod.fst).Nodup
instance (P : Nat) (x : GI) : Decidable (okI P x) := inferInstanceAs (Decidable (_ ∧ _ ∧ _))
instance (P : Nat) (l : List GI) : Decidable (okG P l) := inferInstanceAs (Decidable (_ ∧ _))
theorem okG_nil (P : Nat) : okG P [] := ⟨by simp, by simp⟩
theorem okG_snoc {P : Nat} {l : List GI} {x : GI} : okG P (l ++ [x]) ↔ okG P l ∧ okI P x ∧ x.1 ∉ l.map Prod.fst := by
  unfold okG
  rw [List.map_append, List.nodup_append]
  constructor
  · rintro ⟨h1, h2, _, h3⟩
    exact ⟨⟨fun y hy => h1 y (by simp [hy]), h2⟩, h1 x (by simp), fun hm => h3 _ hm x.1 (by simp) rfl⟩
  · rintro ⟨⟨h1, h2⟩, h3, h4⟩
    refine ⟨fun y hy => ?_, h2, by simp, fun a ha b hb e => ?_⟩
    · rcases List.mem_append.1 hy with hy | hy
      · exact h1 y hy
      · rw [List.mem_singleton.1 hy]
        exact h3
    · simp at hb
      subst hb
      subst e
      exact h4 ha
theorem okG_take {P : Nat} {l : List GI} (h : okG P l) (k : Nat) : okG P (l.take k) :=
  ⟨fun x hx => h.1 x (List.mem_of_mem_take hx), by rw [List.map_take]; exact h.2.sublist (List.take_sublist _ _)⟩
theorem take_snoc {α : Type} {l : List α} {k : Nat} (h : k < l.length) : l.take (k + 1) = l.take k ++ [l[k]] := by
  rw [List.take_add_one, List.getElem?_eq_getElem h]
  rfl
theorem nodup_len : ∀ (P : Nat) (l : List Int), l.Nodup → (∀ x ∈ l, 0 ≤ x ∧ x < (P : Int)) → l.length ≤ P
  | 0, l, _, h2 => by
    rcases l with _ | ⟨a, t⟩
    · simp
    · have := h2 a (by simp)
      omega
  | P + 1, l, h1, h2 => by
    have h3 := nodup_len P (l.erase (P : Int)) (h1.erase _) (fun x hx => by
      have hx' := (List.Nodup.mem_erase_iff h1).1 hx
      have := h2 x hx'.2
      have := hx'.1
      omega)
    have h4 := List.length_erase (a := (P : Int)) (l := l)
    rw [h4] at h3
    split at h3 <;> omega
theorem okG_len {P : Nat} {l : List GI} (h : okG P l) : l.length ≤ P := by
  have := nodup_len P (l.map Prod.fst) h.2 (fun x hx => by
    obtain ⟨y, hy, rfl⟩ := List.mem_map.1 hx
    have := h.1 y hy
    exact ⟨this.1, this.2.1⟩)
  simpa using this
def behind (M : List (List UInt8)) (l : List GI) : List (List UInt8) := l.foldl (fun M x => M.set x.1.toNat x.2) M
theorem behind_len : ∀ (l : List GI) (M : List (List UInt8)), (behind M l).length = M.length
  | [], _ => rfl
  | x :: r, M => by
    show (behind (M.set x.1.toNat x.2) r).length = _
    rw [behind_len r, List.length_set]
theorem behind_snoc (M : List (List UInt8)) (l : List GI) (x : GI) : behind M (l ++ [x]) = (behind M l).set x.1.toNat x.2 := by simp [behind, List.foldl_append]
theorem behind_other : ∀ (l : List GI) (M : List (List UInt8)) (j : Nat), (∀ x ∈ l, x.1.toNat ≠ j) → (behind M l)[j]? = M[j]?
  | [], _, _, _ => rfl
  | x :: r, M, j, h => by
    show (behind (M.set x.1.toNat x.2) r)[j]? = _
    rw [behind_other r _ j (fun y hy => h y (by simp [hy])), List.getElem?_set_ne (h x (by simp))]
theorem behind_same : ∀ (l : List GI) (M : List (List UInt8)), okG M.length l → ∀ x ∈ l, (behind M l)[x.1.toNat]? = some x.2
  | [], _, _, _, hx => by simp at hx
  | y :: r, M, h, x, hx => by
    show (behind (M.set y.1.toNat y.2) r)[x.1.toNat]? = _
    have hn : y.1 ∉ r.map Prod.fst ∧ (r.map Prod.fst).Nodup := by simpa using h.2
    rcases List.mem_cons.1 hx with rfl | hx
    · have h1 := h.1 x (by simp)
      unfold okI at h1
      rw [behind_other r _ _ (fun z hz e => ?_)]
      · exact List.getElem?_set_self (by omega)
      · have h2 := h.1 z (by simp [hz])
        unfold okI at h2
        have e2 : z.1 = x.1 := by omega
        exact hn.1 (e2 ▸ List.mem_map_of_mem hz)
    · exact behind_same r _ ⟨fun z hz => by rw [List.length_set]; exact h.1 z (by simp [hz]), hn.2⟩ x hx
end Go.Proofs.Ytkklplccngdalaa.Dk
