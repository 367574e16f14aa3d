/-
  The plain log of layer 5, second half: writes one after the other, cut off anywhere; what a log's disk holds between them. No Go here.
-/
import Derived.Test.YtkklplccngdalaaWlM
namespace Go.Proofs.Ytkklplccngdalaa.Dk

abbrev WI := Nat × List UInt8
def setAll (L : List (List UInt8)) (ws : List WI) : List (List UInt8) := ws.foldl (fun L x => L.set x.1 x.2) L
theorem setAll_snoc (L : List (List UInt8)) (ws : List WI) (x : WI) : setAll L (ws ++ [x]) = (setAll L ws).set x.1 x.2 := by simp [setAll, List.foldl_append]
theorem setAll_append (L : List (List UInt8)) (ws vs : List WI) : setAll L (ws ++ vs) = setAll (setAll L ws) vs := by simp [setAll, List.foldl_append]
theorem setAll_one (L : List (List UInt8)) (k : Nat) (b : List UInt8) : setAll L [(k, b)] = L.set k b := rfl
theorem setAll_len : ∀ (ws : List WI) (L : List (List UInt8)), (setAll L ws).length = L.length
  | [], _ => rfl
  | x :: r, L => by
    show (setAll (L.set x.1 x.2) r).length = _
    rw [setAll_len r, List.length_set]
theorem setAll_keep : ∀ (ws : List WI) (L : List (List UInt8)) (j : Nat), (∀ x ∈ ws, x.1 ≠ j) → (setAll L ws)[j]? = L[j]?
  | [], _, _, _ => rfl
  | x :: r, L, j, h => by
    show (setAll (L.set x.1 x.2) r)[j]? = _
    rw [setAll_keep r _ j (fun y hy => h y (by simp [hy])), List.getElem?_set_ne (h x (by simp))]

def puts (d : Dsk) (ws : List WI) : Dsk := ws.foldl (fun d x => d.write (x.1 : Int) x.2) d
theorem puts_append (d : Dsk) (ws vs : List WI) : puts d (ws ++ vs) = puts (puts d ws) vs := by simp [puts, List.foldl_append]
theorem puts_snoc (d : Dsk) (ws : List WI) (x : WI) : puts d (ws ++ [x]) = (puts d ws).write (x.1 : Int) x.2 := by simp [puts, List.foldl_append]
theorem puts_off : ∀ (ws : List WI) (d : Dsk), d.on = false → puts d ws = d
  | [], _, _ => rfl
  | x :: r, d, h => by
    show puts (d.write (x.1 : Int) x.2) r = d
    have e : d.write (x.1 : Int) x.2 = d := by unfold Dsk.write; rw [if_pos h]
    rw [e]
    exact puts_off r d h
def okW (n : Nat) (ws : List WI) : Prop := ∀ x ∈ ws, x.1 < n ∧ x.2.length = 256
theorem write_on {d : Dsk} {k : Nat} {b : List UInt8} (h : d.on = true) (hk : k < d.L.length) (hb : b.length = 256) : d.write (k : Int) b = if d.left = 0 then d.off else d.put k b := by
  unfold Dsk.write
  rw [if_neg (by rw [h]; simp), if_neg (by unfold Dsk.Bad; omega), Int.toNat_natCast]
def cutK (z : Int) (m : Nat) : Nat := if z < 0 then m else min z.toNat m
theorem puts_spec : ∀ (ws : List WI) (d : Dsk), okW d.L.length ws → d.on = true →
    puts d ws = ⟨setAll d.L (ws.take (cutK d.left ws.length)), decide (cutK d.left ws.length = ws.length), if d.left < 0 then d.left else d.left - (cutK d.left ws.length : Nat), d.wr + (cutK d.left ws.length : Nat)⟩
  | [], d, _, h => by
    have e : cutK d.left 0 = 0 := by unfold cutK; split <;> omega
    rw [show ([] : List WI).length = 0 from rfl, e]
    obtain ⟨L, on, left, wr⟩ := d
    simp only at h
    subst h
    show (⟨L, true, left, wr⟩ : Dsk) = _
    simp [setAll]
  | x :: r, d, hw, h => by
    show puts (d.write (x.1 : Int) x.2) r = _
    have hx := hw x (by simp)
    rw [write_on h hx.1 hx.2]
    by_cases h0 : d.left = 0
    · have e : cutK d.left (x :: r).length = 0 := by unfold cutK; rw [h0]; simp
      rw [if_pos h0, puts_off r _ rfl, e]
      simp [Dsk.off, setAll, h0]
    · rw [if_neg h0]
      have hr : okW (d.put x.1 x.2).L.length r := fun y hy => by
        have : (d.put x.1 x.2).L.length = d.L.length := by simp [Dsk.put]
        rw [this]
        exact hw y (by simp [hy])
      rw [puts_spec r (d.put x.1 x.2) hr h]
      have e1 : (d.put x.1 x.2).left = less d.left := rfl
      have e2 : (d.put x.1 x.2).wr = d.wr + 1 := rfl
      have e3 : (d.put x.1 x.2).L = d.L.set x.1 x.2 := rfl
      have e4 : cutK d.left (x :: r).length = cutK (less d.left) r.length + 1 := by
        unfold cutK less
        simp only [List.length_cons]
        by_cases hn : d.left < 0
        · rw [if_pos hn, if_neg (by omega : ¬ 0 < d.left), if_pos hn]
        · rw [if_neg hn, if_pos (by omega : 0 < d.left), if_neg (by omega)]
          omega
      rw [e1, e2, e3, e4]
      simp only [List.take_succ_cons, List.length_cons]
      have e5 : setAll d.L (x :: r.take (cutK (less d.left) r.length)) = setAll (d.L.set x.1 x.2) (r.take (cutK (less d.left) r.length)) := rfl
      rw [e5]
      congr 1
      · simp
      · generalize cutK (less d.left) r.length = q
        unfold less
        by_cases hp : 0 < d.left
        · rw [if_pos hp, if_neg (by omega), if_neg (by omega)]
          omega
        · rw [if_neg hp, if_pos (by omega), if_pos (by omega)]
      · omega

/-! ### the writes of a group -/
def gi (l : List GI) (i : Nat) : GI := l.getD i (0, [])
theorem gi_eq {l : List GI} {i : Nat} (h : i < l.length) : gi l i = l[i] := by simp [gi, List.getD_eq_getElem?_getD, List.getElem?_eq_getElem h]
theorem gi_mem {l : List GI} {i : Nat} (h : i < l.length) : gi l i ∈ l := by rw [gi_eq h]; exact List.getElem_mem h
def idxTo (p : List GI) : Nat → List UInt8
  | 0 => full 0
  | k + 1 => setE (idxTo p k) k (gi p k).1.toNat
theorem idxTo_len (p : List GI) : ∀ k, (idxTo p k).length = 256
  | 0 => full_len 0
  | k + 1 => by rw [idxTo, setE_len]; exact idxTo_len p k
theorem ent_idx {p : List GI} : ∀ (k : Nat), k ≤ 64 → (∀ j, j < k → (gi p j).1.toNat < 4294967296) → ∀ j, j < k → ent (idxTo p k) j = (gi p j).1.toNat
  | 0, _, _, j, hj => by omega
  | k + 1, hk, hv, j, hj => by
    by_cases e : j = k
    · subst e
      exact ent_setE_same (by rw [idxTo_len]; omega) (hv j hj)
    · rw [idxTo, ent_setE_other (by rw [idxTo_len]; omega) e]
      exact ent_idx k (by omega) (fun j hj => hv j (by omega)) j (by omega)
def partG (l : List GI) (q : Nat) : List GI := (l.drop (q * 64)).take 64
def idxB (p : List GI) : List UInt8 := idxTo p p.length
theorem idxB_len (p : List GI) : (idxB p).length = 256 := idxTo_len p _
def spW (n : Nat) (l : List GI) (k : Nat) : List WI := (List.range k).map fun i => (spareAt n i, (gi l i).2)
def ixW (l : List GI) (k : Nat) : List WI := (List.range k).map fun q => (1 + q, idxB (partG l q))
def daW (n : Nat) (l : List GI) (k : Nat) : List WI := (List.range k).map fun i => (dataAt n (gi l i).1.toNat, (gi l i).2)
theorem spW_succ (n : Nat) (l : List GI) (k : Nat) : spW n l (k + 1) = spW n l k ++ [(spareAt n k, (gi l k).2)] := by simp [spW, List.range_succ]
theorem ixW_succ (l : List GI) (k : Nat) : ixW l (k + 1) = ixW l k ++ [(1 + k, idxB (partG l k))] := by simp [ixW, List.range_succ]
theorem daW_succ (n : Nat) (l : List GI) (k : Nat) : daW n l (k + 1) = daW n l k ++ [(dataAt n (gi l k).1.toNat, (gi l k).2)] := by simp [daW, List.range_succ]
def nIx (l : List GI) : Nat := (l.length + 63) / 64
def recW (n : Nat) (l : List GI) : List WI := spW n l l.length ++ ixW l (nIx l) ++ [(0, headB l.length)]
def setW (n : Nat) (l : List GI) : List WI := daW n l l.length ++ [(0, headB 0)]
def comW (n : Nat) (l : List GI) : List WI := if l = [] then [] else recW n l ++ setW n l
theorem recW_len (n : Nat) (l : List GI) : (recW n l).length = l.length + nIx l + 1 := by simp [recW, spW, ixW]; omega
theorem setW_len (n : Nat) (l : List GI) : (setW n l).length = l.length + 1 := by simp [setW, daW]

section
variable {n : Nat} {l : List GI}
theorem spW_ok (hn : 4 ≤ n) (h : okG (room n) l) : okW n (spW n l l.length) := fun x hx => by
  obtain ⟨i, hi, rfl⟩ := List.mem_map.1 hx
  rw [List.mem_range] at hi
  exact ⟨spare_lt hn (by have := okG_len h; omega), (h.1 _ (gi_mem hi)).2.2⟩
theorem ix_lt (h : okG (room n) l) {q : Nat} (hq : q < nIx l) : ∃ i, i < room n ∧ q = i / 64 := ⟨q * 64, by have := okG_len h; unfold nIx at hq; omega, by omega⟩
theorem ixW_ok (hn : 4 ≤ n) (h : okG (room n) l) : okW n (ixW l (nIx l)) := fun x hx => by
  obtain ⟨q, hq, rfl⟩ := List.mem_map.1 hx
  rw [List.mem_range] at hq
  obtain ⟨i, hi, rfl⟩ := ix_lt h hq
  exact ⟨index_lt hn hi, idxB_len _⟩
theorem daW_ok (hn : 4 ≤ n) (h : okG (room n) l) : okW n (daW n l l.length) := fun x hx => by
  obtain ⟨i, hi, rfl⟩ := List.mem_map.1 hx
  rw [List.mem_range] at hi
  have hk := h.1 _ (gi_mem hi)
  unfold okI at hk
  exact ⟨data_lt hn (by omega), hk.2.2⟩
theorem okW_append {ws vs : List WI} (h1 : okW n ws) (h2 : okW n vs) : okW n (ws ++ vs) := fun x hx => (List.mem_append.1 hx).elim (h1 x) (h2 x)
theorem head_ok (hn : 4 ≤ n) (m : Nat) : okW n [(0, headB m)] := fun x hx => by
  rw [List.mem_singleton.1 hx]
  exact ⟨by omega, headB_len m⟩
theorem recW_ok (hn : 4 ≤ n) (h : okG (room n) l) : okW n (recW n l) := okW_append (okW_append (spW_ok hn h) (ixW_ok hn h)) (head_ok hn _)
theorem setW_ok (hn : 4 ≤ n) (h : okG (room n) l) : okW n (setW n l) := okW_append (daW_ok hn h) (head_ok hn _)
end

/-! ### what lies on a log's disk -/
/-- No group waits; the data sectors are M. -/
def St (n : Nat) (L : List (List UInt8)) (M : List (List UInt8)) : Prop :=
  L.length = n ∧ L[0]? = some (headB 0) ∧ M.length = room n ∧ ∀ j, j < room n → L[dataAt n j]? = M[j]?
/-- The group l waits; behind it the data sectors are M. -/
def Pend (n : Nat) (L : List (List UInt8)) (M : List (List UInt8)) (l : List GI) : Prop :=
  L.length = n ∧ L[0]? = some (headB l.length) ∧ okG (room n) l ∧ 0 < l.length ∧ (∀ i (hi : i < l.length), L[spareAt n i]? = some l[i].2 ∧ ∃ b, L[1 + i / 64]? = some b ∧ ent b (i % 64) = l[i].1.toNat) ∧
    M.length = room n ∧ (∀ j, j < room n → (∀ x ∈ l, x.1.toNat ≠ j) → L[dataAt n j]? = M[j]?) ∧ ∀ x ∈ l, M[x.1.toNat]? = some x.2
def Inv (n : Nat) (L M : List (List UInt8)) : Prop := St n L M ∨ ∃ l, Pend n L M l

section
variable {n : Nat} {l : List GI} {L M : List (List UInt8)}
theorem St.new (hn : 4 ≤ n) : St n (List.replicate n (full 0)) (List.replicate (room n) (full 0)) := by
  refine ⟨by simp, ?_, by simp, fun j hj => ?_⟩
  · rw [head_zero, List.getElem?_replicate, if_pos (by omega)]
  · rw [List.getElem?_replicate, List.getElem?_replicate, if_pos (data_lt hn hj), if_pos hj]

/-- While a group is recorded, and its head is not there: as before. -/
theorem St.part (h : St n L M) (hg : okG (room n) l) {ws : List WI} (hws : ∀ x ∈ ws, x ∈ spW n l l.length ∨ x ∈ ixW l (nIx l)) : St n (setAll L ws) M := by
  have key : ∀ x ∈ ws, x.1 ≠ 0 ∧ ∀ j, x.1 ≠ dataAt n j := fun x hx => by
    rcases hws x hx with h1 | h1
    · obtain ⟨i, hi, rfl⟩ := List.mem_map.1 h1
      rw [List.mem_range] at hi
      exact ⟨by simp [spareAt], fun j => spare_data (by have := okG_len hg; omega)⟩
    · obtain ⟨q, hq, rfl⟩ := List.mem_map.1 h1
      rw [List.mem_range] at hq
      obtain ⟨i, hi, rfl⟩ := ix_lt hg hq
      exact ⟨by simp, fun j => index_data hi⟩
  obtain ⟨h1, h2, h3, h4⟩ := h
  refine ⟨by rw [setAll_len]; exact h1, ?_, h3, fun j hj => ?_⟩
  · rw [setAll_keep _ _ _ fun x hx => (key x hx).1]
    exact h2
  · rw [setAll_keep _ _ _ fun x hx => (key x hx).2 j]
    exact h4 j hj

theorem spW_at (hn : 4 ≤ n) (hL : L.length = n) : ∀ k, k ≤ room n → ∀ i, i < k → (setAll L (spW n l k))[spareAt n i]? = some (gi l i).2
  | 0, _, i, hi => by omega
  | k + 1, hk, i, hi => by
    rw [spW_succ, setAll_snoc]
    by_cases e : i = k
    · subst e
      exact List.getElem?_set_self (by rw [setAll_len, hL]; exact spare_lt hn (by omega))
    · rw [List.getElem?_set_ne (by unfold spareAt; simp; omega)]
      exact spW_at hn hL k (by omega) i (by omega)
theorem ixW_at (hL : ∀ q, q < nIx l → 1 + q < L.length) : ∀ k, k ≤ nIx l → ∀ q, q < k → (setAll L (ixW l k))[1 + q]? = some (idxB (partG l q))
  | 0, _, i, hi => by omega
  | k + 1, hk, q, hq => by
    rw [ixW_succ, setAll_snoc]
    by_cases e : q = k
    · subst e
      exact List.getElem?_set_self (by rw [setAll_len]; exact hL q (by omega))
    · rw [List.getElem?_set_ne (by simp; omega)]
      exact ixW_at hL k (by omega) q (by omega)
theorem part_gi (l : List GI) {i : Nat} (hi : i < l.length) : gi (partG l (i / 64)) (i % 64) = l[i] ∧ i % 64 < (partG l (i / 64)).length := by
  have e : i / 64 * 64 + i % 64 = i := by omega
  have hlt : i % 64 < (partG l (i / 64)).length := by
    unfold partG
    rw [List.length_take, List.length_drop]
    omega
  refine ⟨?_, hlt⟩
  have e2 : (partG l (i / 64))[i % 64]? = l[i]? := by
    unfold partG
    rw [List.getElem?_take_of_lt (by omega), List.getElem?_drop, e]
  rw [gi_eq hlt]
  rw [List.getElem?_eq_getElem hlt, List.getElem?_eq_getElem hi] at e2
  exact Option.some.inj e2

/-- The whole group is recorded. -/
theorem St.recd (h : St n L M) (hn : 4 ≤ n) (h32 : room n < 4294967296) (hg : okG (room n) l) (hl : 0 < l.length) : Pend n (setAll L (recW n l)) (behind M l) l := by
  obtain ⟨h1, h2, h3, h4⟩ := h
  have hlen := okG_len hg
  unfold recW
  rw [setAll_append, setAll_append]
  have hix : ∀ q, q < nIx l → 1 + q < (setAll L (spW n l l.length)).length := fun q hq => by
    obtain ⟨i, hi, rfl⟩ := ix_lt hg hq
    rw [setAll_len, h1]
    exact index_lt hn hi
  refine ⟨by rw [setAll_len, setAll_len, setAll_len]; exact h1, ?_, hg, hl, fun i hi => ⟨?_, idxB (partG l (i / 64)), ?_, ?_⟩, by rw [behind_len]; exact h3, fun j hj hx => ?_, fun x hx => behind_same l M (by rw [h3]; exact hg) x hx⟩
  · rw [setAll_one]
    exact List.getElem?_set_self (by rw [setAll_len, setAll_len, h1]; omega)
  · rw [setAll_keep _ _ _ (fun x hx => by rw [List.mem_singleton.1 hx]; simp [spareAt]; omega), setAll_keep _ _ _ (fun x hx => ?_), spW_at hn h1 _ hlen i hi, gi_eq hi]
    obtain ⟨q, hq, rfl⟩ := List.mem_map.1 hx
    rw [List.mem_range] at hq
    obtain ⟨i', hi', rfl⟩ := ix_lt hg hq
    exact index_spare hi'
  · rw [setAll_keep _ _ _ (fun x hx => by rw [List.mem_singleton.1 hx]; simp; omega)]
    exact ixW_at hix _ (Nat.le_refl _) (i / 64) (by unfold nIx; omega)
  · have hp := part_gi l hi
    have hp64 : (partG l (i / 64)).length ≤ 64 := by unfold partG; rw [List.length_take]; omega
    rw [idxB, ent_idx _ hp64 (fun j hj => ?_) _ hp.2, hp.1]
    rw [gi_eq hj]
    have hm : (partG l (i / 64))[j] ∈ l := List.mem_of_mem_drop (List.mem_of_mem_take (List.getElem_mem hj))
    have := hg.1 _ hm
    unfold okI at this
    omega
  · rw [setAll_keep _ _ _ (fun x hx => by rw [List.mem_singleton.1 hx]; simp [dataAt, spareAt]; omega), setAll_keep _ _ _ (fun x hx => ?_), setAll_keep _ _ _ (fun x hx => ?_), behind_other l M j hx]
    · exact h4 j hj
    · obtain ⟨i, hi, rfl⟩ := List.mem_map.1 hx
      rw [List.mem_range] at hi
      exact spare_data (by omega)
    · obtain ⟨q, hq, rfl⟩ := List.mem_map.1 hx
      rw [List.mem_range] at hq
      obtain ⟨i', hi', rfl⟩ := ix_lt hg hq
      exact index_data hi'

/-- While a group is settled. -/
theorem Pend.part (h : Pend n L M l) {ws : List WI} (hws : ∀ x ∈ ws, x ∈ daW n l l.length) : Pend n (setAll L ws) M l := by
  obtain ⟨h1, h2, h3, h4, h5, h6, h7, h8⟩ := h
  have key : ∀ x ∈ ws, ∃ y ∈ l, x.1 = dataAt n y.1.toNat := fun x hx => by
    obtain ⟨i, hi, rfl⟩ := List.mem_map.1 (hws x hx)
    rw [List.mem_range] at hi
    exact ⟨gi l i, gi_mem hi, rfl⟩
  have hlen := okG_len h3
  refine ⟨by rw [setAll_len]; exact h1, ?_, h3, h4, fun i hi => ?_, h6, fun j hj hx => ?_, h8⟩
  · rw [setAll_keep _ _ _ fun x hx => by obtain ⟨y, _, e⟩ := key x hx; rw [e]; simp [dataAt, spareAt]]
    exact h2
  · obtain ⟨g1, b, g2, g3⟩ := h5 i hi
    refine ⟨?_, b, ?_, g3⟩
    · rw [setAll_keep _ _ _ fun x hx => by obtain ⟨y, _, e⟩ := key x hx; rw [e]; exact (spare_data (by omega)).symm]
      exact g1
    · rw [setAll_keep _ _ _ fun x hx => by obtain ⟨y, _, e⟩ := key x hx; rw [e]; exact (index_data (by omega)).symm]
      exact g2
  · rw [setAll_keep _ _ _ fun x hx' => ?_]
    · exact h7 j hj hx
    · obtain ⟨y, hy, e⟩ := key x hx'
      rw [e]
      have := hx y hy
      unfold dataAt
      omega
theorem daW_at (hn : 4 ≤ n) (hL : L.length = n) (hg : okG (room n) l) : ∀ k, k ≤ l.length → ∀ i, i < k → (setAll L (daW n l k))[dataAt n (gi l i).1.toNat]? = some (gi l i).2
  | 0, _, i, hi => by omega
  | k + 1, hk, i, hi => by
    rw [daW_succ, setAll_snoc]
    by_cases e : i = k
    · subst e
      have hm := hg.1 _ (gi_mem (l := l) (i := i) (by omega))
      unfold okI at hm
      exact List.getElem?_set_self (by rw [setAll_len, hL]; exact data_lt hn (by omega))
    · rw [List.getElem?_set_ne (fun h => e ?_)]
      · exact daW_at hn hL hg k (by omega) i (by omega)
      · have hi' : i < l.length := by omega
        have hk' : k < l.length := by omega
        have h1 := hg.1 _ (gi_mem hi')
        have h2 := hg.1 _ (gi_mem hk')
        unfold okI at h1 h2
        simp only [dataAt] at h
        have e2 : (gi l i).1 = (gi l k).1 := by omega
        rw [gi_eq hi', gi_eq hk'] at e2
        have h3 := hg.2
        refine (List.getElem_inj (xs := l.map Prod.fst) (i := i) (j := k) (h₀ := by simpa using hi') (h₁ := by simpa using hk') h3).1 ?_
        simpa using e2
/-- The group is settled. -/
theorem Pend.done (h : Pend n L M l) (hn : 4 ≤ n) : St n (setAll L (setW n l)) M := by
  obtain ⟨h1, h2, h3, h4, h5, h6, h7, h8⟩ := h
  unfold setW
  rw [setAll_append]
  refine ⟨by rw [setAll_len, setAll_len]; exact h1, by rw [setAll_one]; exact List.getElem?_set_self (by rw [setAll_len, h1]; omega), h6, fun j hj => ?_⟩
  rw [setAll_keep _ _ _ (fun x hx => by rw [List.mem_singleton.1 hx]; simp [dataAt, spareAt]; omega)]
  by_cases hx : ∀ x ∈ l, x.1.toNat ≠ j
  · rw [setAll_keep _ _ _ fun x hx' => ?_]
    · exact h7 j hj hx
    · obtain ⟨i, hi, rfl⟩ := List.mem_map.1 hx'
      rw [List.mem_range] at hi
      have := hx _ (gi_mem hi)
      simp only [dataAt]
      omega
  · obtain ⟨x, hm, rfl⟩ : ∃ x ∈ l, x.1.toNat = j := by
      refine Classical.byContradiction fun hc => hx fun x hm e => hc ⟨x, hm, e⟩
    rw [h8 x hm]
    obtain ⟨i, hi, rfl⟩ := List.getElem_of_mem hm
    have := daW_at hn h1 h3 l.length (Nat.le_refl _) i hi
    rw [gi_eq hi] at this
    exact this
end
end Go.Proofs.Ytkklplccngdalaa.Dk
