/-
  The contract of the laws' own Made: a group as it is handed in.
-/
import Derived.Test.YtkklplccngdalaaWlR3
import Derived.Test.YtkklplccngdalaaWlW6
namespace Go.Proofs.Ytkklplccngdalaa.Dk
open Go.RowKit

/-- A slice's address at which these numbers lie. -/
def Nums (w : World) (A : Option Addr) (l : List Int) : Prop :=
  (∀ x ∈ l, i64 x) ∧ (0 < l.length → ∃ ad, A = some ad ∧ ad.block < w.heap.size ∧ ∀ j (hj : j < l.length), w.cell? (ad.add j) = some (.int .i64 l[j]))
theorem Nums.below {w w' : World} {A : Option Addr} {l : List Int} (h : Nums w A l) {B : Nat} (hb : Below B w w') (hB : ∀ ad, A = some ad → 0 < l.length → ad.block < B) : Nums w' A l := by
  refine ⟨h.1, fun hl => ?_⟩
  obtain ⟨ad, e, hlt, hc⟩ := h.2 hl
  exact ⟨ad, e, Nat.lt_of_lt_of_le hlt hb.size, fun j hj => (hb.cell (p := ad.add j) (by rw [blk_add]; exact hB ad e hl)).trans (hc j hj)⟩
theorem Nums.below_ {w w' : World} {A : Option Addr} {l : List Int} (h : Nums w A l) (hb : Below w.heap.size w w') : Nums w' A l := h.below hb fun ad e hl => by
  obtain ⟨ad', e', hlt, _⟩ := h.2 hl
  rw [e] at e'
  injection e' with e'
  rw [e']
  exact hlt
theorem Nums.at_ {w : World} {A : Option Addr} {l : List Int} (h : Nums w A l) {k : Nat} (hk : k < l.length) : ∃ ad, A = some ad ∧ ad.block < w.heap.size ∧ w.cell? (ad.add k) = some (.int .i64 l[k]) ∧ i64 l[k] := by
  obtain ⟨ad, e, hlt, hc⟩ := h.2 (by omega)
  exact ⟨ad, e, hlt, hc k hk, h.1 _ (List.getElem_mem hk)⟩

/-! ### rows of writes -/
def WCells (X : Nat → Prop) (w : World) (l : List GI) (xs : List Value) : Prop :=
  xs.length = l.length * 2 ∧ ∀ i (hi : i < l.length), ∃ A c, xs[i * 2]? = some (.int .i64 l[i].1) ∧ xs[i * 2 + 1]? = some (.slice A l[i].2.length c) ∧ l[i].2.length ≤ c ∧ c ≤ maxLen ∧ LieX X w A l[i].2 ∧ i64 l[i].1
section
variable {X Y : Nat → Prop} {w w' : World} {l m : List GI} {xs ys : List Value}
theorem WCells.nil_ : WCells X w [] [] := ⟨rfl, fun i hi => absurd hi (by simp)⟩
theorem WCells.append (h : WCells X w l xs) (k : WCells X w m ys) : WCells X w (l ++ m) (xs ++ ys) := by
  refine ⟨by rw [List.length_append, List.length_append, h.1, k.1, Nat.add_mul], fun i hi => ?_⟩
  by_cases hl : i < l.length
  · obtain ⟨A, c, a1, a2, a3⟩ := h.2 i hl
    have hx := h.1
    rw [List.getElem_append_left hl]
    exact ⟨A, c, by rw [List.getElem?_append_left (by omega)]; exact a1, by rw [List.getElem?_append_left (by omega)]; exact a2, a3⟩
  · have hi2 : i - l.length < m.length := by rw [List.length_append] at hi; omega
    obtain ⟨A, c, a1, a2, a3⟩ := k.2 (i - l.length) hi2
    have hx := h.1
    rw [List.getElem_append_right (by omega)]
    refine ⟨A, c, ?_, ?_, a3⟩
    · rw [List.getElem?_append_right (by omega), show i * 2 - xs.length = (i - l.length) * 2 by omega]
      exact a1
    · rw [List.getElem?_append_right (by omega), show i * 2 + 1 - xs.length = (i - l.length) * 2 + 1 by omega]
      exact a2
theorem WCells.fr (h : WCells X w l xs) (k : Fr X w w') : WCells X w' l xs := ⟨h.1, fun i hi => by
  obtain ⟨A, c, a1, a2, a3, a4, a5, a6⟩ := h.2 i hi
  exact ⟨A, c, a1, a2, a3, a4, a5.fr k, a6⟩⟩
theorem WCells.mono (h : WCells X w l xs) (k : ∀ b, b < w.heap.size → Y b → X b) : WCells Y w l xs := ⟨h.1, fun i hi => by
  obtain ⟨A, c, a1, a2, a3, a4, a5, a6⟩ := h.2 i hi
  exact ⟨A, c, a1, a2, a3, a4, a5.mono k, a6⟩⟩
theorem WCells.one {b : Nat} {t : TypeId} {x : GI} (hx : Box w b t (u8C x.2).toArray) (hl : x.2.length = 256) (hX : ¬ X b) (h64 : i64 x.1) : WCells X w [x] [.int .i64 x.1, .slice (some ⟨b, 0, none⟩) 256 256] := by
  refine ⟨rfl, fun i hi => ?_⟩
  obtain rfl : i = 0 := by simp at hi; omega
  refine ⟨some ⟨b, 0, none⟩, 256, rfl, by show _ = some (Value.slice _ x.2.length 256); rw [hl]; rfl, by show x.2.length ≤ 256; omega, by unfold maxLen; omega, fun hp => ⟨_, rfl, hx.lt, hX, fun j hj => ?_⟩, h64⟩
  rw [lit_add, hx.cell j]
  have hj' : j < x.2.length := hj
  simp [u8C, List.getElem?_eq_getElem hj']
theorem WCells.grp {base c : Nat} {A : Option Addr} (h : WCells X w l xs) (ho : w.ownsRow base 63 2 (.slice A l.length c) l.length xs) (hX : ∀ b, X b → b < base) : Grp X w A l := fun hl => by
  obtain ⟨g, cap, hv, hb, hlt⟩ := ho.form hl
  have hA : A = some ⟨g, 0, none⟩ := by injection hv
  subst hA
  refine ⟨_, rfl, hlt, fun x => by have : g < base := hX g x; omega, fun i hi => ?_⟩
  obtain ⟨B, c', a1, a2, a3⟩ := h.2 i hi
  exact ⟨B, c', ho.cells (g := g) rfl _ _ a1, ho.cells (g := g) rfl _ _ a2, a3⟩
theorem Grp.news {A : Option Addr} (h : Grp X w A l) (hl : 0 < l.length) : ∃ ad ys, A = some ad ∧ (∀ j u, ys[j]? = some u → w.cell? (ad.add j) = some u) ∧ (∀ u ∈ ys, u.oneCell' = true) ∧ WCells X w l ys := by
  obtain ⟨ad, e, h1, h2, h3⟩ := h hl
  have key : ∀ j, j < l.length * 2 → ∃ u, w.cell? (ad.add j) = some u ∧ u.oneCell' = true := fun j hj => by
    obtain ⟨B, c, g1, g2, _⟩ := h3 (j / 2) (by omega)
    rcases Nat.mod_two_eq_zero_or_one j with e2 | e2
    · rw [show j / 2 * 2 = j by omega] at g1
      exact ⟨_, g1, rfl⟩
    · rw [show j / 2 * 2 + 1 = j by omega] at g2
      exact ⟨_, g2, rfl⟩
  refine ⟨ad, (List.range (l.length * 2)).map fun j => (w.cell? (ad.add j)).getD undef, e, fun j u hu => ?_, fun u hu => ?_, by simp, fun i hi => ?_⟩
  · rw [List.getElem?_map] at hu
    have hj : j < l.length * 2 := by
      rcases Nat.lt_or_ge j (l.length * 2) with h | h
      · exact h
      · rw [List.getElem?_eq_none (by simpa using h)] at hu
        cases hu
    rw [List.getElem?_range hj] at hu
    obtain ⟨v, hv, _⟩ := key j hj
    simp only [Option.map_some, hv, Option.getD_some, Option.some.injEq] at hu
    rw [hv, hu]
  · obtain ⟨j, hj, rfl⟩ := List.mem_map.1 hu
    rw [List.mem_range] at hj
    obtain ⟨v, hv, h1⟩ := key j hj
    rw [hv]
    exact h1
  · obtain ⟨B, c, g1, g2, g3⟩ := h3 i hi
    refine ⟨B, c, ?_, ?_, g3⟩
    · rw [List.getElem?_map, List.getElem?_range (by omega), Option.map_some, g1]
      rfl
    · rw [List.getElem?_map, List.getElem?_range (by omega), Option.map_some, g2]
      rfl
end

/-! ### Made -/
def madeT (ats : List Int) (x : UInt8) (k : Nat) : List GI := (List.range k).map fun i => (ats.getD i 0, full (x + UInt8.ofNat i))
def madeG (ats : List Int) (x : UInt8) (odd : List GI) : List GI := madeT ats x ats.length ++ odd
theorem madeT_succ (ats : List Int) (x : UInt8) (k : Nat) : madeT ats x (k + 1) = madeT ats x k ++ [(ats.getD k 0, full (x + UInt8.ofNat k))] := by simp [madeT, List.range_succ]
theorem madeT_len (ats : List Int) (x : UInt8) (k : Nat) : (madeT ats x k).length = k := by simp [madeT]
def MadePost (X : Nat → Prop) (L : List GI) (w : World) (e : Ending) (w' : World) : Prop :=
  ∃ A c, e = .returned (.slice A L.length c) ∧ L.length ≤ c ∧ c ≤ maxLen ∧ Grp X w' A L ∧ Below w.heap.size w w'
theorem full_l (n : Int) (x : UInt8) (l : List UInt8) (w : World) (hn : n = (x.toNat : Int)) (hl : l = full x) : Calls Try.prog 29 #[.int .u8 n] w (FullP l w) := by
  subst hn
  subst hl
  exact full_all x w

/-- append(own, x): one write onto a row of one's own. -/
theorem run_append_wr {w : World} {base : Nat} {A : Option Addr} {n c : Nat} {xs : List Value} (x y : Value) (hx : x.oneCell' = true) (hy : y.oneCell' = true) (hown : w.ownsRow base 63 2 (.slice A n c) n xs) (hn : n ≤ 10000000) (hbase : base ≤ w.heap.size) :
    ∃ A' c' w', (Builtin.append_ #[34, 34] 34 #[.slice A n c, .slice (some ⟨w.heap.size, 0, none⟩) 1 1]).run Try.prog (w.alloc (.cells #[x, y] 63)) = .ok (.slice A' (n + 1) c') w' ∧
      w'.ownsRow base 63 2 (.slice A' (n + 1) c') (n + 1) (xs ++ [x, y]) ∧ (w.alloc (.cells #[x, y] 63)).grownBy w' (Value.slice A n c).ownBlock ∧
      ((Value.slice A' (n + 1) c').ownBlock = (Value.slice A n c).ownBlock ∨ (Value.slice A' (n + 1) c').ownBlock = some (w.heap.size + 1)) := by
  obtain ⟨i0, hi0, hz0, hz1, hz2⟩ := info_parts info_wr
  have hown' := own_keep hown ((Below.refl _ w).alloc (Nat.le_refl _) (.cells #[x, y] 63))
  obtain ⟨v', w', hr, ho, hg, _, hl⟩ := run_append_own_at (P := Try.prog) (w.alloc (.cells #[x, y] 63)) base 34 34 63 i0 _ 2 32 Try.underlying34 hi0 hz0 hz1 hz2 rfl (by omega)
    _ n xs hown' ⟨w.heap.size, 0, none⟩ 1 1 [x, y] rfl (World.news_of_block (cs := #[x, y]) (t := 63) (fr := (0, 0)) (heap_alloc_new w _)) (by simp [hx, hy]) (by unfold maxLen; omega) (by omega) (by simp; omega)
  rcases ho.2 with ⟨_, h0⟩ | ⟨g, cap, cur, rfl, _⟩
  · omega
  · exact ⟨some ⟨g, 0, none⟩, cap, w', hr, ho, hg, by simpa using hl⟩
end Go.Proofs.Ytkklplccngdalaa.Dk
