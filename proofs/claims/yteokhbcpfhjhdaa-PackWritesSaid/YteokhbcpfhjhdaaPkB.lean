/-
  Memory's words for layer 3: a block that is known whole, a slice that reads as a list of bytes, a row of bytes of the call's own.
-/
import Derived.Test.YteokhbcpfhjhdaaProg
import Derived.Test.YteokhbcpfhjhdaaPkM
import Derived.WalkKit
import Derived.WalkSpells
import Derived.WalkLawsBesides
import Derived.Outline
import Derived.Lib.Hide
import Derived.Deep.AppendLies
import Derived.Deep.Draws
namespace Go.Proofs.Yteokhbcpfhjhdaa.Pk
open Go.RowKit

theorem ret_bool {a b : Bool} (h : a = b) : Ending.returned (.bool a) = .returned (.bool b) := by rw [h]
theorem ret_int {k : IntKind} {a b : Int} (h : a = b) : Ending.returned (.int k a) = .returned (.int k b) := by rw [h]

/-- A block that is known whole. -/
def Box (w : World) (g : Nat) (t : TypeId) (cs : Array Value) : Prop := w.heap[g]? = some (.cells cs t (0, 0))
section
variable {w w' : World} {g : Nat} {t : TypeId} {cs : Array Value}
theorem Box.lt (h : Box w g t cs) : g < w.heap.size := (Array.getElem?_eq_some_iff.1 h).1
theorem Box.cell (h : Box w g t cs) (i : Nat) : w.cell? ⟨g, i, none⟩ = cs[i]? := cell_of_row w g i cs t (0, 0) h
theorem Box.frozen (h : Box w g t cs) (i : Nat) : w.frozen? ⟨g, i, none⟩ = false := by
  unfold Box at h
  simp [World.frozen?, h]
theorem Box.new (w : World) (t : TypeId) (cs : Array Value) : Box (w.alloc (.cells cs t)) w.heap.size t cs := heap_alloc_new w _
theorem Box.below {B : Nat} (h : Box w g t cs) (hb : Below B w w') (hg : g < B) : Box w' g t cs := (hb.block g hg).trans h
theorem Box.alloc (h : Box w g t cs) (o : Obj) : Box (w.alloc o) g t cs := (Below.heap_alloc w o g h.lt).trans h
theorem Box.set_ (h : Box w g t cs) (i : Nat) (u : Value) : Box (w.setCell ⟨g, i, none⟩ u) g t (cs.setIfInBounds i u) := by
  unfold Box at h ⊢
  simp [World.setCell, Array.getElem?_modify, h]
theorem Box.far (h : Box w g t cs) {p : Addr} (hp : g ≠ p.block) (u : Value) : Box (w.setCell p u) g t cs := (Below.heap_setCell w p u g hp).trans h
theorem Box.grown {row : Option Nat} (h : Box w g t cs) (hb : w.grownBy w' row) (hg : some g ≠ row) : Box w' g t cs := (hb.block g h.lt hg).trans h
theorem Box.drew (h : Box w g t cs) : Box w.drew g t cs := h
theorem Box.drewN (h : Box w g t cs) (n : Nat) : Box (w.drewN n) g t cs := h
end

theorem below_new {w w1 : World} {o : Obj} (hb : Below (w.alloc o).heap.size (w.alloc o) w1) : Below w.heap.size w w1 :=
  ((Below.refl _ w).alloc (Nat.le_refl _) o).trans (hb.mono (by simp))
theorem below_drewN {B : Nat} {a w : World} (h : Below B a w) (n : Nat) : Below B a (w.drewN n) := ⟨h.os, h.tape, h.output, h.size, h.block⟩

/-- Bytes as cells. -/
def u8C (l : List UInt8) : List Value := l.map fun b => Value.int .u8 (b.toNat : Int)
theorem u8C_append (a b : List UInt8) : u8C (a ++ b) = u8C a ++ u8C b := by simp [u8C]
theorem u8C_length (a : List UInt8) : (u8C a).length = a.length := by simp [u8C]
theorem u8C_one (l : List UInt8) : ∀ u ∈ u8C l, u.oneCell' = true := by
  intro u hu
  simp only [u8C, List.mem_map] at hu
  obtain ⟨b, _, rfl⟩ := hu
  rfl
theorem u8C_get {l : List UInt8} {j : Nat} {u : Value} (h : (u8C l)[j]? = some u) : ∃ hj : j < l.length, u = .int .u8 (l[j].toNat : Int) := by
  have hj : j < l.length := by have := (List.getElem?_eq_some_iff.1 h).1; rwa [u8C_length] at this
  refine ⟨hj, ?_⟩
  simp [u8C, List.getElem?_eq_getElem hj] at h
  exact h.symm

/-- A slice's address at which these bytes lie. -/
def Lie (w : World) (A : Option Addr) (l : List UInt8) : Prop :=
  0 < l.length → ∃ ad, A = some ad ∧ ad.block < w.heap.size ∧ ∀ j (hj : j < l.length), w.cell? (ad.add j) = some (.int .u8 (l[j].toNat : Int))
theorem blk_add (a : Addr) (n : Nat) : (a.add n).block = a.block := by unfold Addr.add; split <;> rfl
theorem add_add_ (a : Addr) (i j : Nat) : (a.add i).add j = a.add (i + j) := by
  unfold Addr.add
  by_cases hi : i = 0 <;> by_cases hj : j = 0 <;> simp [hi, hj, Nat.add_assoc]
section
variable {w w' : World} {A : Option Addr} {l : List UInt8}
theorem Lie.nil_ : Lie w A [] := fun h => absurd h (by simp)
theorem Lie.below (h : Lie w A l) (hb : Below w.heap.size w w') : Lie w' A l := fun hl => by
  obtain ⟨ad, e, hlt, hc⟩ := h hl
  exact ⟨ad, e, Nat.lt_of_lt_of_le hlt hb.size, fun j hj => (hb.cell (p := ad.add j) (by rw [blk_add]; exact hlt)).trans (hc j hj)⟩
theorem Lie.alloc (h : Lie w A l) (o : Obj) : Lie (w.alloc o) A l := h.below ((Below.refl _ w).alloc (Nat.le_refl _) o)
theorem Lie.drew (h : Lie w A l) : Lie w.drew A l := h
theorem Lie.drewN (h : Lie w A l) (n : Nat) : Lie (w.drewN n) A l := h
theorem Lie.at_ (h : Lie w A l) {k : Nat} (hk : k < l.length) : ∃ ad, A = some ad ∧ ad.block < w.heap.size ∧ w.cell? (ad.add k) = some (.int .u8 (l[k].toNat : Int)) := by
  obtain ⟨ad, e, hlt, hc⟩ := h (by omega)
  exact ⟨ad, e, hlt, hc k hk⟩
theorem Lie.take (h : Lie w A l) (k : Nat) : Lie w A (l.take k) := fun hl => by
  have hl' : 0 < l.length := by rw [List.length_take] at hl; omega
  obtain ⟨ad, e, hlt, hc⟩ := h hl'
  refine ⟨ad, e, hlt, fun j hj => ?_⟩
  rw [hc j (by rw [List.length_take] at hj; omega)]
  simp
theorem Lie.cut (h : Lie w A l) {k cap : Nat} (hc : l.length ≤ cap) : Lie w (if cap = k then A else A.map (·.add k)) (l.drop k) := fun hl => by
  have hk : k < l.length := by rw [List.length_drop] at hl; omega
  obtain ⟨ad, rfl, hlt, hcell⟩ := h (by omega)
  rw [if_neg (by omega)]
  refine ⟨ad.add k, rfl, by rw [blk_add]; exact hlt, fun j hj => ?_⟩
  rw [add_add_, hcell (k + j) (by rw [List.length_drop] at hj; omega)]
  simp
theorem Lie.of_own {base c : Nat} (h : w.ownsRow base 5 1 (.slice A l.length c) l.length (u8C l)) : Lie w A l := fun hl => by
  obtain ⟨g, cap, hv, _, hlt⟩ := h.form hl
  have hA : A = some ⟨g, 0, none⟩ := by injection hv
  subst hA
  refine ⟨_, rfl, hlt, fun j hj => h.cells (g := g) rfl j _ ?_⟩
  simp [u8C, List.getElem?_eq_getElem hj]
end

theorem info_u8 : (Try.prog.info? 5).map (fun i => (i.zero, i.size, i.bytes)) = some (some (.int .u8 0), 1, 1) := by kernel_rfl

/-- append(own, bytes...): onto a row of the call's own, from a slice of bytes that may be nil or empty. -/
theorem run_append_lie {w : World} {base : Nat} {v : Value} {n : Nat} {xs : List Value} (hown : w.ownsRow base 5 1 v n xs) {A : Option Addr} {l : List UInt8} (hl : Lie w A l) (c : Nat) (ty : TypeId)
    (h63 : n + l.length ≤ maxLen) (hbytes : n + l.length ≤ 140737488355328) (hbase : base ≤ w.heap.size) :
    ∃ A' c' w', (Builtin.append_ #[25, 25] ty #[v, .slice A l.length c]).run Try.prog w = .ok (.slice A' (n + l.length) c') w' ∧ w'.ownsRow base 5 1 (.slice A' (n + l.length) c') (n + l.length) (xs ++ u8C l) ∧ w.grownBy w' v.ownBlock ∧
      ((.slice A' (n + l.length) c' : Value).ownBlock = v.ownBlock ∨ (.slice A' (n + l.length) c' : Value).ownBlock = some w.heap.size) := by
  obtain ⟨i0, hi0, hz0, hz1, hz2⟩ := info_parts info_u8
  have key : ∀ (ad : Addr), (∀ j u, (u8C l)[j]? = some u → w.cell? (ad.add j) = some u) → ∃ A' c' w', (Builtin.append_ #[25, 25] ty #[v, .slice (some ad) l.length c]).run Try.prog w = .ok (.slice A' (n + l.length) c') w' ∧ w'.ownsRow base 5 1 (.slice A' (n + l.length) c') (n + l.length) (xs ++ u8C l) ∧ w.grownBy w' v.ownBlock ∧
      ((.slice A' (n + l.length) c' : Value).ownBlock = v.ownBlock ∨ (.slice A' (n + l.length) c' : Value).ownBlock = some w.heap.size) := by
    intro ad hc
    obtain ⟨v', w', hr, h2, h3, _, h5⟩ := run_append_own_at (P := Try.prog) w base 25 ty 5 i0 _ 1 1 Try.underlying25 hi0 hz0 hz1 hz2 rfl (by decide) v n xs hown ad l.length c (u8C l) (by rw [u8C_length]; omega) hc (u8C_one l) h63 (by omega) hbase
    have hv : ∃ A' c', v' = .slice A' (n + l.length) c' := by
      rcases h2.2 with ⟨rfl, h0⟩ | ⟨g, cap, cur, rfl, _⟩
      · exact ⟨none, 0, by rw [h0]⟩
      · exact ⟨_, _, rfl⟩
    obtain ⟨A', c', rfl⟩ := hv
    exact ⟨A', c', w', hr, h2, h3, h5⟩
  rcases A with _ | ad
  · have h0 : l = [] := by
      rcases l with _ | ⟨b, t⟩
      · rfl
      · obtain ⟨ad, h, _⟩ := hl (by simp)
        cases h
    subst h0
    have hrun : (Builtin.append_ #[25, 25] ty #[v, .slice none 0 c]).run Try.prog w = .ok v w := by
      rcases hown.2 with ⟨rfl, rfl⟩ | ⟨g, cap, cur, rfl, _, _, hnc, _⟩
      · simp [Builtin.append_, run_underlying Try.underlying25, sizeOf, typeInfo, hi0, Builtin.lenOf, Builtin.firstCells]
      · simp [Builtin.append_, run_underlying Try.underlying25, sizeOf, typeInfo, hi0, Builtin.lenOf, Builtin.firstCells, hnc, storeCells]
    have hv : ∃ A' c', v = .slice A' n c' := by
      rcases hown.2 with ⟨rfl, h0⟩ | ⟨g, cap, cur, rfl, _⟩
      · exact ⟨none, 0, by rw [h0]⟩
      · exact ⟨_, _, rfl⟩
    obtain ⟨A', c', rfl⟩ := hv
    exact ⟨A', c', w, hrun, by simpa [u8C] using hown, World.grownBy.refl w _, .inl rfl⟩
  · refine key ad fun j u hu => ?_
    obtain ⟨hj, rfl⟩ := u8C_get hu
    obtain ⟨ad', e, _, hc⟩ := hl (by omega)
    injection e with e
    subst e
    exact hc j hj

theorem wp_append_lie {w : World} {o : Oper} {a : Act} {K : Act → World → Prop} {Q : Exit → Act → World → Prop} (s x : Operand)
    (ho : o.op = .call { callee := .builtin .append, args := #[s, x], argTypes := #[25, 25] })
    {base : Nat} {v : Value} {n : Nat} {xs : List Value} (hs : a.eval s = v) (hown : w.ownsRow base 5 1 v n xs) {A : Option Addr} {l : List UInt8} {c : Nat} (hx : a.eval x = .slice A l.length c) (hl : Lie w A l)
    (h63 : n + l.length ≤ maxLen) (hbytes : n + l.length ≤ 140737488355328) (hbase : base ≤ w.heap.size)
    (h : ∀ A' c' w', w'.ownsRow base 5 1 (.slice A' (n + l.length) c') (n + l.length) (xs ++ u8C l) → w.grownBy w' v.ownBlock → ((.slice A' (n + l.length) c' : Value).ownBlock = v.ownBlock ∨ (.slice A' (n + l.length) c' : Value).ownBlock = some w.heap.size) → K (a.put o.dst (.slice A' (n + l.length) c')) w') : o.wp Try.prog a w K Q := by
  obtain ⟨A', c', w', hrun, h2, h3, h4⟩ := run_append_lie hown hl c o.type h63 hbytes hbase
  unfold Oper.wp execOp
  simp only [ho, resolve, invoke, builtin, Sem.run_bind, Sem.run_pure, Result.andThen_ok, List.map_toArray, List.map_cons, List.map_nil, hs, hx, hrun]
  exact h A' c' w' h2 h3 h4
theorem wpList_append_lie {w : World} {ops : Array Oper} {rest : List Oper} {o : Oper} {a : Act} {Q : Exit → Act → World → Prop} (hgd : o.guard = none) (s x : Operand)
    (ho : o.op = .call { callee := .builtin .append, args := #[s, x], argTypes := #[25, 25] })
    {base : Nat} {v : Value} {n : Nat} {xs : List Value} (hs : a.eval s = v) (hown : w.ownsRow base 5 1 v n xs) {A : Option Addr} {l : List UInt8} {c : Nat} (hx : a.eval x = .slice A l.length c) (hl : Lie w A l)
    (h63 : n + l.length ≤ maxLen) (hbytes : n + l.length ≤ 140737488355328) (hbase : base ≤ w.heap.size)
    (h : ∀ A' c' w', w'.ownsRow base 5 1 (.slice A' (n + l.length) c') (n + l.length) (xs ++ u8C l) → w.grownBy w' v.ownBlock → ((.slice A' (n + l.length) c' : Value).ownBlock = v.ownBlock ∨ (.slice A' (n + l.length) c' : Value).ownBlock = some w.heap.size) → wpList Try.prog ops Q rest (a.put o.dst (.slice A' (n + l.length) c')) w') : wpList Try.prog ops Q (o :: rest) a w :=
  wpList_plain hgd fun _ hK => wp_append_lie s x ho hs hown hx hl h63 hbytes hbase fun A' c' w' h2 h3 h4 => hK _ _ (h A' c' w' h2 h3 h4)
end Go.Proofs.Yteokhbcpfhjhdaa.Pk
