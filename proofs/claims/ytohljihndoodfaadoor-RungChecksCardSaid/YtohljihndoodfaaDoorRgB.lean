/-
  Memory's words for layer 9: rows of things of so many cells each, instructions and rungs in memory, the table of instructions, a stack of one's own.
-/
import Derived.Test.YtohljihndoodfaaDoorRgM
import Derived.Test.YtohljihndoodfaaDoorExW3
import Derived.Test.YtohljihndoodfaaDoorExOe
import Derived.WalkKit
import Derived.WalkSpells
import Derived.WalkLawsBesides
import Derived.Outline
import Derived.Lib.Hide
import Derived.Deep.AppendLies
import Derived.Deep.Draws
import Derived.Deep.MidRow
import Derived.Lib.SliceRun
import Derived.Laws.CopyOwn
import Derived.Laws.MakeOwn
import Derived.Laws.OwnMore
import Derived.Deep.RegionHeld
import Derived.Deep.RegionHeldLaw
import Derived.BigQuiet
import Derived.Maps.AppendAt
import Derived.LoopTactic
import Derived.LoopN
namespace Go.Proofs.YtohljihndoodfaaDoor.Lx
open Go.RowKit
section
variable {w w' : World} {g : Nat} {t : TypeId} {cs : Array Value}
theorem Box.set_ (h : Box w g t cs) (i : Nat) (u : Value) : Box (w.setCell ⟨g, i, none⟩ u) g t (cs.setIfInBounds i u) := by
  unfold Box at h ⊢
  simp [World.setCell, Array.getElem?_modify, h]
theorem Box.far (h : Box w g t cs) {p : Addr} (hp : g ≠ p.block) (u : Value) : Box (w.setCell p u) g t cs := (Below.heap_setCell w p u g hp).trans h
theorem Box.grown {row : Option Nat} (h : Box w g t cs) (hb : w.grownBy w' row) (hg : some g ≠ row) : Box w' g t cs := (hb.block g (Array.getElem?_eq_some_iff.1 h).1 hg).trans h
theorem Box.drewN (h : Box w g t cs) (n : Nat) : Box (w.drewN n) g t cs := h
end
end Go.Proofs.YtohljihndoodfaaDoor.Lx
namespace Go.Proofs.YtohljihndoodfaaDoor.Rg
open Go.RowKit Lx Ep

theorem below_drewN {B : Nat} {a w : World} (h : Below B a w) (n : Nat) : Below B a (w.drewN n) := ⟨h.os, h.tape, h.output, h.size, h.block⟩
theorem below_drew {B : Nat} {a w : World} (h : Below B a w) : Below B a w.drew := ⟨h.os, h.tape, h.output, h.size, h.block⟩

/-- A slice's address at which these things lie, each of so many cells. -/
def RowF {α : Type} (size : Nat) (f : α → List Value) (w : World) (A : Option Addr) (l : List α) : Prop :=
  0 < l.length → ∃ g off, A = some ⟨g, off, none⟩ ∧ g < w.heap.size ∧ ∀ i (hi : i < l.length) j u, (f l[i])[j]? = some u → w.cell? ⟨g, off + i * size + j, none⟩ = some u
section
variable {α : Type} {size : Nat} {f : α → List Value} {w w' : World} {A : Option Addr} {l : List α}
theorem RowF.nil_ : RowF size f w A [] := fun h => absurd h (by simp)
theorem RowF.below (h : RowF size f w A l) (hb : Below w.heap.size w w') : RowF size f w' A l := fun hl => by
  obtain ⟨g, off, e, hlt, hc⟩ := h hl
  refine ⟨g, off, e, Nat.lt_of_lt_of_le hlt hb.size, fun i hi j u hu => ?_⟩
  exact (hb.cell (p := ⟨g, _, none⟩) hlt).trans (hc i hi j u hu)
theorem RowF.upto {B : Nat} (h : RowF size f w A l) (hb : Below B w w') (hB : w.heap.size ≤ B) : RowF size f w' A l := h.below (hb.mono hB)
theorem RowF.alloc (h : RowF size f w A l) (o : Obj) : RowF size f (w.alloc o) A l := h.below ((Below.refl _ w).alloc (Nat.le_refl _) o)
theorem RowF.drew (h : RowF size f w A l) : RowF size f w.drew A l := h
theorem RowF.drewN (h : RowF size f w A l) (n : Nat) : RowF size f (w.drewN n) A l := h
theorem RowF.take (h : RowF size f w A l) (k : Nat) : RowF size f w A (l.take k) := fun hl => by
  have hl' : 0 < l.length := by rw [List.length_take] at hl; omega
  obtain ⟨g, off, e, hlt, hc⟩ := h hl'
  refine ⟨g, off, e, hlt, fun i hi j u hu => ?_⟩
  rw [List.getElem_take] at hu
  exact hc i (by rw [List.length_take] at hi; omega) j u hu
theorem RowF.at_ (h : RowF size f w A l) {i : Nat} (hi : i < l.length) : ∃ g off, A = some ⟨g, off, none⟩ ∧ g < w.heap.size ∧ ∀ j u, (f l[i])[j]? = some u → w.cell? ⟨g, off + i * size + j, none⟩ = some u := by
  obtain ⟨g, off, e, hlt, hc⟩ := h (by omega)
  exact ⟨g, off, e, hlt, hc i hi⟩
theorem flat_get {s : Nat} (hf : ∀ a, (f a).length = s) : ∀ (l : List α) (i : Nat) (hi : i < l.length) (j : Nat) (u : Value), (f l[i])[j]? = some u → (l.flatMap f)[i * s + j]? = some u
  | [], i, hi, _, _ => absurd hi (by simp)
  | a :: r, 0, _, j, u => fun h => by
    have hj : j < (f a).length := (List.getElem?_eq_some_iff.1 h).1
    simp only [List.flatMap_cons, Nat.zero_mul, Nat.zero_add]
    rw [List.getElem?_append_left hj]
    exact h
  | a :: r, i + 1, hi, j, u => fun h => by
    simp only [List.flatMap_cons]
    rw [List.getElem?_append_right (by rw [hf, Nat.add_mul]; omega), hf, show (i + 1) * s + j - s = i * s + j by rw [Nat.add_mul]; omega]
    exact flat_get hf r i (by simpa using hi) j u h
theorem flat_len {s : Nat} (hf : ∀ a, (f a).length = s) (l : List α) : (l.flatMap f).length = l.length * s := by
  induction l with
  | nil => simp
  | cons a r ih => rw [List.flatMap_cons, List.length_append, ih, hf, List.length_cons, Nat.add_mul]; omega
theorem RowF.of_own {base c n : Nat} {e : TypeId} (hf : ∀ a, (f a).length = size) (h : w.ownsRow base e size (.slice A n c) n (l.flatMap f)) (hn : l.length = n) : RowF size f w A l := fun hl => by
  subst hn
  obtain ⟨g, cap, hv, _, hlt⟩ := h.form hl
  have hA : A = some ⟨g, 0, none⟩ := by injection hv
  subst hA
  refine ⟨g, 0, rfl, hlt, fun i hi j u hu => ?_⟩
  have := h.cells (g := g) rfl (i * size + j) u (flat_get hf l i hi j u hu)
  have e : (⟨g, 0, none⟩ : Addr).add (i * size + j) = ⟨g, i * size + j, none⟩ := by unfold Addr.add; split <;> simp_all
  rw [e] at this
  rw [Nat.zero_add]
  exact this
end


def strC (s : Nm) : List Value := [.string ⟨s.toArray⟩]
def boolC (b : Bool) : List Value := [.bool b]
def cellC (c : Nm × Int) : List Value := [.string ⟨c.1.toArray⟩, .int .i64 c.2]
def insC (i : In) : List Value := [.int .i64 i.op, .string ⟨i.nm.toArray⟩, .int .i64 i.e.op, .int .i64 i.e.n, .string ⟨i.e.name.toArray⟩, .slice i.ea i.e.kids.length i.ec]
def ruC (r : Ru) : List Value := [.int .i64 r.kd, .string ⟨r.nm.toArray⟩, .slice r.ca r.code.length r.cc]
def exOf (i : In) : Value := exV i.e.op i.e.n i.e.name i.ea i.e.kids.length i.ec
def insV (i : In) : Value := .agg #[.int .i64 i.op, .string ⟨i.nm.toArray⟩, .int .i64 i.e.op, .int .i64 i.e.n, .string ⟨i.e.name.toArray⟩, .slice i.ea i.e.kids.length i.ec]
def ruV (r : Ru) : Value := .agg #[.int .i64 r.kd, .string ⟨r.nm.toArray⟩, .slice r.ca r.code.length r.cc]
abbrev Strs (w : World) (A : Option Addr) (l : List Nm) : Prop := RowF 1 strC w A l
abbrev Bools (w : World) (A : Option Addr) (l : List Bool) : Prop := RowF 1 boolC w A l

/-- An instruction's expression lies there. -/
def TrE (w : World) (i : In) : Prop := TreeV (fun _ => True) w i.e (exOf i) ∧ numsE i.e
theorem TrE.below {w w' : World} {i : In} (h : TrE w i) (hb : Below w.heap.size w w') : TrE w' i := ⟨h.1.below hb (Nat.le_refl _), h.2⟩
/-- A code lies there. -/
def Code (w : World) (A : Option Addr) (l : List In) : Prop := RowF 6 insC w A l ∧ ∀ i ∈ l, TrE w i
theorem Code.below {w w' : World} {A : Option Addr} {l : List In} (h : Code w A l) (hb : Below w.heap.size w w') : Code w' A l := ⟨h.1.below hb, fun i hi => (h.2 i hi).below hb⟩
/-- Rungs lie there. -/
def Rungs (w : World) (A : Option Addr) (l : List Ru) : Prop := RowF 3 ruC w A l ∧ ∀ r ∈ l, Code w r.ca r.code
theorem Rungs.below {w w' : World} {A : Option Addr} {l : List Ru} (h : Rungs w A l) (hb : Below w.heap.size w w') : Rungs w' A l := ⟨h.1.below hb, fun r hr => (h.2 r hr).below hb⟩
section
variable {w : World} {A : Option Addr}
theorem Strs.at1 {l : List Nm} (h : Strs w A l) {i : Nat} (hi : i < l.length) : ∃ g off, A = some ⟨g, off, none⟩ ∧ g < w.heap.size ∧ w.cell? ⟨g, off + i, none⟩ = some (.string ⟨(l[i]).toArray⟩) := by
  obtain ⟨g, off, e, hlt, hc⟩ := RowF.at_ h hi
  exact ⟨g, off, e, hlt, by simpa using hc 0 _ rfl⟩
theorem Bools.at1 {l : List Bool} (h : Bools w A l) {i : Nat} (hi : i < l.length) : ∃ g off, A = some ⟨g, off, none⟩ ∧ g < w.heap.size ∧ w.cell? ⟨g, off + i, none⟩ = some (.bool l[i]) := by
  obtain ⟨g, off, e, hlt, hc⟩ := RowF.at_ h hi
  exact ⟨g, off, e, hlt, by simpa using hc 0 _ rfl⟩
theorem Code.at6 {l : List In} (h : Code w A l) {i : Nat} (hi : i < l.length) : ∃ g off, A = some ⟨g, off, none⟩ ∧ g < w.heap.size ∧ TrE w l[i] ∧ w.cell? ⟨g, off + i * 6, none⟩ = some (.int .i64 (l[i]).op) ∧ w.cell? ⟨g, off + i * 6 + 1, none⟩ = some (.string ⟨(l[i]).nm.toArray⟩) ∧
    w.cell? ⟨g, off + i * 6 + 2, none⟩ = some (.int .i64 (l[i]).e.op) ∧ w.cell? ⟨g, off + i * 6 + 3, none⟩ = some (.int .i64 (l[i]).e.n) ∧ w.cell? ⟨g, off + i * 6 + 4, none⟩ = some (.string ⟨(l[i]).e.name.toArray⟩) ∧ w.cell? ⟨g, off + i * 6 + 5, none⟩ = some (.slice (l[i]).ea (l[i]).e.kids.length (l[i]).ec) := by
  obtain ⟨g, off, e, hlt, hc⟩ := RowF.at_ h.1 hi
  exact ⟨g, off, e, hlt, h.2 _ (List.getElem_mem hi), hc 0 _ rfl, hc 1 _ rfl, hc 2 _ rfl, hc 3 _ rfl, hc 4 _ rfl, hc 5 _ rfl⟩
theorem Rungs.at3 {l : List Ru} (h : Rungs w A l) {i : Nat} (hi : i < l.length) : ∃ g off, A = some ⟨g, off, none⟩ ∧ g < w.heap.size ∧ Code w (l[i]).ca (l[i]).code ∧ w.cell? ⟨g, off + i * 3, none⟩ = some (.int .i64 (l[i]).kd) ∧ w.cell? ⟨g, off + i * 3 + 1, none⟩ = some (.string ⟨(l[i]).nm.toArray⟩) ∧
    w.cell? ⟨g, off + i * 3 + 2, none⟩ = some (.slice (l[i]).ca (l[i]).code.length (l[i]).cc) := by
  obtain ⟨g, off, e, hlt, hc⟩ := RowF.at_ h.1 hi
  exact ⟨g, off, e, hlt, h.2 _ (List.getElem_mem hi), hc 0 _ rfl, hc 1 _ rfl, hc 2 _ rfl⟩
end

/-- The cells of the table of instructions. -/
def opnC : Array Value := (operT9.flatMap fun o => [.int .i64 o.1, .int .i64 o.2.1, .int .i64 o.2.2]).toArray
theorem opnC_at (k : Nat) (h : k < 10) : opnC[k * 3]? = some (.int .i64 (usesP k)) ∧ opnC[k * 3 + 1]? = some (.int .i64 (takesP k)) ∧ opnC[k * 3 + 2]? = some (.int .i64 1) := by
  have : k = 0 ∨ k = 1 ∨ k = 2 ∨ k = 3 ∨ k = 4 ∨ k = 5 ∨ k = 6 ∨ k = 7 ∨ k = 8 ∨ k = 9 := by omega
  rcases this with rfl | rfl | rfl | rfl | rfl | rfl | rfl | rfl | rfl | rfl <;> exact ⟨rfl, rfl, rfl⟩
/-- The tables lie where the program lays them. -/
structure Tabs (w : World) : Prop where
  ops : Ops w
  blk : ∃ T fz, w.heap[1]? = some (.cells opnC T fz)
theorem Tabs.lt {w : World} (h : Tabs w) : 1 < w.heap.size := by
  obtain ⟨T, fz, hb⟩ := h.blk
  exact (Array.getElem?_eq_some_iff.1 hb).1
theorem Tabs.lo {w : World} (h : Tabs w) : 0 < w.heap.size := h.ops.lt
theorem Tabs.u {w : World} (h : Tabs w) (k : Nat) (hk : k < 10) : w.cell? ⟨1, k * 3, none⟩ = some (.int .i64 (usesP k)) := by
  obtain ⟨T, fz, hb⟩ := h.blk
  rw [cell_of_row w _ _ _ _ _ hb]; exact (opnC_at k hk).1
theorem Tabs.t {w : World} (h : Tabs w) (k : Nat) (hk : k < 10) : w.cell? ⟨1, k * 3 + 1, none⟩ = some (.int .i64 (takesP k)) := by
  obtain ⟨T, fz, hb⟩ := h.blk
  rw [cell_of_row w _ _ _ _ _ hb]; exact (opnC_at k hk).2.1
theorem Tabs.p {w : World} (h : Tabs w) (k : Nat) (hk : k < 10) : w.cell? ⟨1, k * 3 + 2, none⟩ = some (.int .i64 1) := by
  obtain ⟨T, fz, hb⟩ := h.blk
  rw [cell_of_row w _ _ _ _ _ hb]; exact (opnC_at k hk).2.2
theorem Tabs.of {w w' : World} (h : Tabs w) (hs : w.heap.size ≤ w'.heap.size) (hb : ∀ k, k < w.heap.size → w'.heap[k]? = w.heap[k]?) : Tabs w' := by
  refine ⟨h.ops.of hs (hb _ h.lo), ?_⟩
  obtain ⟨T, fz, hk⟩ := h.blk
  exact ⟨T, fz, (hb _ h.lt).trans hk⟩
theorem Tabs.below {w w' : World} (h : Tabs w) (hb : Below w.heap.size w w') : Tabs w' := h.of hb.size fun k hk => hb.block k hk
theorem Tabs.alloc {w : World} (h : Tabs w) (o : Obj) : Tabs (w.alloc o) := h.below ((Below.refl _ w).alloc (Nat.le_refl _) o)

theorem own_keep {w w' : World} {base : Nat} {e : TypeId} {size : Nat} {v : Value} {n : Nat} {xs : List Value} (h : w.ownsRow base e size v n xs) (hb : Below w.heap.size w w') : w'.ownsRow base e size v n xs := by
  refine ⟨h.1, ?_⟩
  rcases h.2 with h | ⟨g, cap, cur, hv, hbg, hh, r⟩
  · exact .inl h
  · exact .inr ⟨g, cap, cur, hv, hbg, (hb.block g (Array.getElem?_eq_some_iff.1 hh).1).trans hh, r⟩
theorem own_less {w : World} {base base' : Nat} {e : TypeId} {size : Nat} {v : Value} {n : Nat} {xs : List Value} (h : w.ownsRow base e size v n xs) (hb : base' ≤ base) : w.ownsRow base' e size v n xs := by
  refine ⟨h.1, ?_⟩
  rcases h.2 with h | ⟨g, cap, cur, hv, hbg, r⟩
  · exact .inl h
  · exact .inr ⟨g, cap, cur, hv, by omega, r⟩
/-- Rows of unlike types have unlike blocks. -/
theorem own_types {w : World} {b1 b2 : Nat} {e1 e2 : TypeId} {s1 s2 : Nat} {v1 v2 : Value} {n1 n2 : Nat} {x1 x2 : List Value} (h1 : w.ownsRow b1 e1 s1 v1 n1 x1) (h2 : w.ownsRow b2 e2 s2 v2 n2 x2) (he : e1 ≠ e2) : v1.ownBlock = none ∨ v1.ownBlock ≠ v2.ownBlock := by
  rcases h1.2 with ⟨rfl, _⟩ | ⟨g, cap, cur, rfl, _, hh, _⟩
  · exact .inl rfl
  · right
    intro hk
    rcases h2.2 with ⟨rfl, _⟩ | ⟨g', cap', cur', rfl, _, hh', _⟩
    · simp [Value.ownBlock] at hk
    · simp only [Value.ownBlock, Option.some.injEq] at hk
      subst hk
      rw [hh] at hh'
      simp at hh'
      exact he hh'.2
theorem slice_form {w : World} {base : Nat} {e : TypeId} {size : Nat} {v : Value} {n : Nat} {xs : List Value} (h : w.ownsRow base e size v n xs) : ∃ A c, v = .slice A n c := by
  rcases h.2 with ⟨rfl, h0⟩ | ⟨g, cap, cur, rfl, _⟩
  · exact ⟨none, 0, by rw [h0]⟩
  · exact ⟨_, _, rfl⟩

theorem info_str : (Tryd.prog.info? 9).map (fun i => (i.zero, i.size, i.bytes)) = some (some (.string ⟨#[]⟩), 1, 16) := by kernel_rfl
theorem info_bool : (Tryd.prog.info? 4).map (fun i => (i.zero, i.size, i.bytes)) = some (some (.bool false), 1, 1) := by kernel_rfl

set_option maxRecDepth 100000 in
/-- append of one thing onto a row of one's own. -/
theorem run_append_1 {t e : TypeId} {size bytes : Nat} {z : Value} (ht : Tryd.prog.underlying t = some (.slice e)) (hinfo : (Tryd.prog.info? e).map (fun i => (i.zero, i.size, i.bytes)) = some (some z, size, bytes)) (hzs : z.cells.size = size) (hsz : 0 < size) (hby : bytes ≤ 100)
    {w : World} {base : Nat} {A : Option Addr} {n c : Nat} {xs : List Value} (cs : Array Value) (hcs : cs.size = size) (h1 : ∀ u ∈ cs.toList, u.oneCell' = true) (hown : w.ownsRow base e size (.slice A n c) n xs) (hn : n ≤ 1000000) (hbase : base ≤ w.heap.size) :
    ∃ A' c' w', (Builtin.append_ #[t, t] t #[.slice A n c, .slice (some ⟨w.heap.size, 0, none⟩) 1 1]).run Tryd.prog (w.alloc (.cells cs e)) = .ok (.slice A' (n + 1) c') w' ∧
      w'.ownsRow base e size (.slice A' (n + 1) c') (n + 1) (xs ++ cs.toList) ∧ (w.alloc (.cells cs e)).grownBy w' (Value.slice A n c).ownBlock ∧
      ((Value.slice A' (n + 1) c').ownBlock = (Value.slice A n c).ownBlock ∨ (Value.slice A' (n + 1) c').ownBlock = some (w.heap.size + 1)) := by
  obtain ⟨i0, hi0, hz0, hz1, hz2⟩ := info_parts hinfo
  have hown' := own_keep hown ((Below.refl _ w).alloc (Nat.le_refl _) (.cells cs e))
  obtain ⟨v', w', hr, ho, hg, _, hl⟩ := run_append_own_at (P := Tryd.prog) (w.alloc (.cells cs e)) base t t e i0 _ size bytes ht hi0 hz0 hz1 hz2 hzs hsz
    _ n xs hown' ⟨w.heap.size, 0, none⟩ 1 1 cs.toList (by simp [hcs]) (World.news_of_block (cs := cs) (t := e) (fr := (0, 0)) (heap_alloc_new w _)) h1 (by unfold maxLen; omega) (by
      have : (n + 1) * bytes ≤ 1000001 * 100 := Nat.mul_le_mul (by omega) hby
      omega) (by simp; omega)
  rcases ho.2 with ⟨_, h0⟩ | ⟨g, cap, cur, rfl, _⟩
  · omega
  · exact ⟨some ⟨g, 0, none⟩, cap, w', hr, ho, hg, by simpa using hl⟩

set_option maxRecDepth 100000 in
/-- append of a whole row of single cells onto an empty one: a copy. -/
theorem run_append_all {α : Type} {f : α → List Value} {t e : TypeId} {bytes : Nat} {z : Value} (ht : Tryd.prog.underlying t = some (.slice e)) (hinfo : (Tryd.prog.info? e).map (fun i => (i.zero, i.size, i.bytes)) = some (some z, 1, bytes)) (hzs : z.cells.size = 1) (hby : bytes ≤ 100) (hf : ∀ a, (f a).length = 1) (hf1 : ∀ a, ∀ u ∈ f a, u.oneCell' = true)
    {w : World} {base : Nat} {v : Value} (hown : w.ownsRow base e 1 v 0 []) {A : Option Addr} {l : List α} (hl : RowF 1 f w A l) (c : Nat) (hn : l.length ≤ 1000000) (hbase : base ≤ w.heap.size) :
    ∃ A' c' w', (Builtin.append_ #[t, t] t #[v, .slice A l.length c]).run Tryd.prog w = .ok (.slice A' l.length c') w' ∧
      w'.ownsRow base e 1 (.slice A' l.length c') l.length (l.flatMap f) ∧ w.grownBy w' v.ownBlock := by
  obtain ⟨i0, hi0, hz0, hz1, hz2⟩ := info_parts hinfo
  have h0 : 0 + l.length = l.length := Nat.zero_add _
  have key : ∀ (ad : Addr), (∀ j u, (l.flatMap f)[j]? = some u → w.cell? (ad.add j) = some u) → ∃ A' c' w', (Builtin.append_ #[t, t] t #[v, .slice (some ad) l.length c]).run Tryd.prog w = .ok (.slice A' l.length c') w' ∧
      w'.ownsRow base e 1 (.slice A' l.length c') l.length (l.flatMap f) ∧ w.grownBy w' v.ownBlock := by
    intro ad hc
    obtain ⟨v', w', hr, h2, h3, _, h5⟩ := run_append_own_at (P := Tryd.prog) w base t t e i0 _ 1 bytes ht hi0 hz0 hz1 hz2 hzs (by decide) v 0 [] hown ad l.length c (l.flatMap f) (by rw [flat_len hf]) hc (by
      intro u hu
      obtain ⟨a, _, ha⟩ := List.mem_flatMap.1 hu
      exact hf1 a u ha) (by unfold maxLen; omega) (by
        rw [h0]
        have : l.length * bytes ≤ 1000000 * 100 := Nat.mul_le_mul hn hby
        omega) hbase
    rw [h0] at h2
    obtain ⟨A', c', rfl⟩ := slice_form h2
    exact ⟨A', c', w', hr, by simpa using h2, h3⟩
  rcases A with _ | ad
  · have e0 : l = [] := by
      rcases l with _ | ⟨b, r⟩
      · rfl
      · obtain ⟨_, _, h, _⟩ := hl (by simp)
        cases h
    subst e0
    have hrun : (Builtin.append_ #[t, t] t #[v, .slice none 0 c]).run Tryd.prog w = .ok v w := by
      rcases hown.2 with ⟨rfl, _⟩ | ⟨g, cap, cur, rfl, _, _, hnc, _⟩
      · simp [Builtin.append_, run_underlying ht, sizeOf, typeInfo, hi0, Builtin.lenOf, Builtin.firstCells]
      · simp [Builtin.append_, run_underlying ht, sizeOf, typeInfo, hi0, Builtin.lenOf, Builtin.firstCells, storeCells]
    obtain ⟨A', c', rfl⟩ := slice_form hown
    exact ⟨A', c', w, hrun, by simpa using hown, World.grownBy.refl w _⟩
  · refine key ad fun j u hu => ?_
    have hj : j < l.length := by
      have := (List.getElem?_eq_some_iff.1 hu).1
      rw [flat_len hf] at this
      omega
    obtain ⟨g, off, e1, _, hc⟩ := hl (by omega)
    injection e1 with e1
    subst e1
    have hu0 : ∃ x, f l[j] = [x] := List.length_eq_one_iff.1 (hf _)
    obtain ⟨x, hx⟩ := hu0
    have h2 := flat_get hf l j hj 0 x (by rw [hx]; rfl)
    rw [Nat.mul_one, Nat.add_zero, hu] at h2
    injection h2 with h2
    subst h2
    have := hc j hj 0 u (by rw [hx]; rfl)
    have ea : (⟨g, off, none⟩ : Addr).add j = ⟨g, off + j, none⟩ := by unfold Addr.add; split <;> simp_all
    rw [ea]
    simpa using this
set_option maxRecDepth 100000 in
/-- append by its run's equation. -/
theorem wpList_append_run {w w' : World} {ops : Array Oper} {rest : List Oper} {o : Oper} {a : Act} {Q : Exit → Act → World → Prop} (hgd : o.guard = none) (s x : Operand) (t1 t2 : TypeId)
    (ho : o.op = .call { callee := .builtin .append, args := #[s, x], argTypes := #[t1, t2] }) {u v r : Value} (hs : a.eval s = u) (hx : a.eval x = v) (hr : (Builtin.append_ #[t1, t2] o.type #[u, v]).run Tryd.prog w = .ok r w')
    (h : wpList Tryd.prog ops Q rest (a.put o.dst r) w') : wpList Tryd.prog ops Q (o :: rest) a w :=
  wpList_plain hgd fun K hK => by
    unfold Oper.wp execOp
    simp only [ho, resolve, invoke, builtin, Sem.run_bind, Sem.run_pure, Result.andThen_ok, List.map_toArray, List.map_cons, List.map_nil, hs, hx, hr]
    exact hK _ _ h
set_option maxRecDepth 100000 in
/-- append at a step of a region that draws its order, by its run's equation. -/
theorem step_append_run {w w' : World} {ops : Array Oper} {o : Oper} {a : Act} {K : Act → World → Prop} {Q : Exit → Act → World → Prop} {E : Prop} (hgd : o.guard = none) (s x : Operand) (t1 t2 : TypeId)
    (ho : o.op = .call { callee := .builtin .append, args := #[s, x], argTypes := #[t1, t2] }) {u v r : Value} (hs : a.eval s = u) (hx : a.eval x = v) (hr : (Builtin.append_ #[t1, t2] o.type #[u, v]).run Tryd.prog w = .ok r w')
    (h : K (a.put o.dst r) w') : if Region.wanted o (yielded ops a.tmps) = true then Oper.wp Tryd.prog o a w K Q else E := by
  have hw : Region.wanted o (yielded ops a.tmps) = true := by simp [Region.wanted, hgd]
  rw [if_pos hw]
  unfold Oper.wp execOp
  simp only [ho, resolve, invoke, builtin, Sem.run_bind, Sem.run_pure, Result.andThen_ok, List.map_toArray, List.map_cons, List.map_nil, hs, hx, hr]
  exact h
end Go.Proofs.YtohljihndoodfaaDoor.Rg
