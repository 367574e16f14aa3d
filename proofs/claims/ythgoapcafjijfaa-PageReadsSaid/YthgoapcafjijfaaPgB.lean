/-
  Memory's words for layer 6: a block that is known whole, a slice that reads as a list of bytes, a row of bytes of the call's own, a frame by a set of blocks; records in memory.
-/
import Derived.Test.YthgoapcafjijfaaProg
import Derived.Test.YthgoapcafjijfaaPgM
import Derived.WalkKit
import Derived.WalkSpells
import Derived.WalkLawsBesides
import Derived.Outline
import Derived.Lib.Hide
import Derived.Deep.AppendLies
import Derived.Deep.Draws
import Derived.Deep.MidRow
import Derived.Lib.ConvBytes
import Derived.Lib.SliceRun
import Derived.Lib.AppendStr
import Derived.Lib.BufferWrite
import Derived.Laws.CopyOwn
import Derived.Laws.MakeOwn
import Derived.Deep.RegionHeld
import Derived.BigQuiet
import Derived.Maps.AppendAt
namespace Go.Proofs.Ythgoapcafjijfaa.Pg
open Go.RowKit

theorem ret_bool {a b : Bool} (h : a = b) : Ending.returned (.bool a) = .returned (.bool b) := by rw [h]
theorem ret_int {k : IntKind} {a b : Int} (h : a = b) : Ending.returned (.int k a) = .returned (.int k b) := by rw [h]

/-- A block that is known whole. -/
def Box (w : World) (g : Nat) (t : TypeId) (cs : Array Value) : Prop := w.heap[g]? = some (.cells cs t (0, 0))
section
variable {w w' : World} {g : Nat} {t : TypeId} {cs : Array Value}
theorem Box.lt (h : Box w g t cs) : g < w.heap.size := (Array.getElem?_eq_some_iff.1 h).1
theorem Box.cell (h : Box w g t cs) (i : Nat) : w.cell? ⟨g, i, none⟩ = cs[i]? := cell_of_row w g i cs t (0, 0) h
theorem Box.frozen (h : Box w g t cs) (i : Nat) : w.frozen? ⟨g, i, none⟩ = false := by
  unfold Box at h
  simp [World.frozen?, h]
theorem Box.new (w : World) (t : TypeId) (cs : Array Value) : Box (w.alloc (.cells cs t)) w.heap.size t cs := heap_alloc_new w _
theorem Box.below {B : Nat} (h : Box w g t cs) (hb : Below B w w') (hg : g < B) : Box w' g t cs := (hb.block g hg).trans h
theorem Box.alloc (h : Box w g t cs) (o : Obj) : Box (w.alloc o) g t cs := (Below.heap_alloc w o g h.lt).trans h
theorem Box.set_ (h : Box w g t cs) (i : Nat) (u : Value) : Box (w.setCell ⟨g, i, none⟩ u) g t (cs.setIfInBounds i u) := by
  unfold Box at h ⊢
  simp [World.setCell, Array.getElem?_modify, h]
theorem Box.far (h : Box w g t cs) {p : Addr} (hp : g ≠ p.block) (u : Value) : Box (w.setCell p u) g t cs := (Below.heap_setCell w p u g hp).trans h
theorem Box.grown {row : Option Nat} (h : Box w g t cs) (hb : w.grownBy w' row) (hg : some g ≠ row) : Box w' g t cs := (hb.block g h.lt hg).trans h
theorem Box.drew (h : Box w g t cs) : Box w.drew g t cs := h
theorem Box.drewN (h : Box w g t cs) (n : Nat) : Box (w.drewN n) g t cs := h
end

theorem below_new {w w1 : World} {o : Obj} (hb : Below (w.alloc o).heap.size (w.alloc o) w1) : Below w.heap.size w w1 :=
  ((Below.refl _ w).alloc (Nat.le_refl _) o).trans (hb.mono (by simp))
theorem below_drewN {B : Nat} {a w : World} (h : Below B a w) (n : Nat) : Below B a (w.drewN n) := ⟨h.os, h.tape, h.output, h.size, h.block⟩

/-- Bytes as cells. -/
def u8C (l : List UInt8) : List Value := l.map fun b => Value.int .u8 (b.toNat : Int)
theorem u8C_append (a b : List UInt8) : u8C (a ++ b) = u8C a ++ u8C b := by simp [u8C]
theorem u8C_length (a : List UInt8) : (u8C a).length = a.length := by simp [u8C]
theorem u8C_one (l : List UInt8) : ∀ u ∈ u8C l, u.oneCell' = true := by
  intro u hu
  simp only [u8C, List.mem_map] at hu
  obtain ⟨b, _, rfl⟩ := hu
  rfl
theorem u8C_get {l : List UInt8} {j : Nat} {u : Value} (h : (u8C l)[j]? = some u) : ∃ hj : j < l.length, u = .int .u8 (l[j].toNat : Int) := by
  have hj : j < l.length := by have := (List.getElem?_eq_some_iff.1 h).1; rwa [u8C_length] at this
  refine ⟨hj, ?_⟩
  simp [u8C, List.getElem?_eq_getElem hj] at h
  exact h.symm

/-- A slice's address at which these bytes lie. -/
def Lie (w : World) (A : Option Addr) (l : List UInt8) : Prop :=
  0 < l.length → ∃ ad, A = some ad ∧ ad.block < w.heap.size ∧ ∀ j (hj : j < l.length), w.cell? (ad.add j) = some (.int .u8 (l[j].toNat : Int))
theorem blk_add (a : Addr) (n : Nat) : (a.add n).block = a.block := by unfold Addr.add; split <;> rfl
theorem add_add_ (a : Addr) (i j : Nat) : (a.add i).add j = a.add (i + j) := by
  unfold Addr.add
  by_cases hi : i = 0 <;> by_cases hj : j = 0 <;> simp [hi, hj, Nat.add_assoc]
section
variable {w w' : World} {A : Option Addr} {l : List UInt8}
theorem Lie.nil_ : Lie w A [] := fun h => absurd h (by simp)
theorem Lie.below (h : Lie w A l) (hb : Below w.heap.size w w') : Lie w' A l := fun hl => by
  obtain ⟨ad, e, hlt, hc⟩ := h hl
  exact ⟨ad, e, Nat.lt_of_lt_of_le hlt hb.size, fun j hj => (hb.cell (p := ad.add j) (by rw [blk_add]; exact hlt)).trans (hc j hj)⟩
theorem Lie.alloc (h : Lie w A l) (o : Obj) : Lie (w.alloc o) A l := h.below ((Below.refl _ w).alloc (Nat.le_refl _) o)
theorem Lie.drew (h : Lie w A l) : Lie w.drew A l := h
theorem Lie.drewN (h : Lie w A l) (n : Nat) : Lie (w.drewN n) A l := h
theorem Lie.at_ (h : Lie w A l) {k : Nat} (hk : k < l.length) : ∃ ad, A = some ad ∧ ad.block < w.heap.size ∧ w.cell? (ad.add k) = some (.int .u8 (l[k].toNat : Int)) := by
  obtain ⟨ad, e, hlt, hc⟩ := h (by omega)
  exact ⟨ad, e, hlt, hc k hk⟩
theorem Lie.take (h : Lie w A l) (k : Nat) : Lie w A (l.take k) := fun hl => by
  have hl' : 0 < l.length := by rw [List.length_take] at hl; omega
  obtain ⟨ad, e, hlt, hc⟩ := h hl'
  refine ⟨ad, e, hlt, fun j hj => ?_⟩
  rw [hc j (by rw [List.length_take] at hj; omega)]
  simp
theorem Lie.cut (h : Lie w A l) {k cap : Nat} (hc : l.length ≤ cap) : Lie w (if cap = k then A else A.map (·.add k)) (l.drop k) := fun hl => by
  have hk : k < l.length := by rw [List.length_drop] at hl; omega
  obtain ⟨ad, rfl, hlt, hcell⟩ := h (by omega)
  rw [if_neg (by omega)]
  refine ⟨ad.add k, rfl, by rw [blk_add]; exact hlt, fun j hj => ?_⟩
  rw [add_add_, hcell (k + j) (by rw [List.length_drop] at hj; omega)]
  simp
theorem Lie.of_own {base c : Nat} (h : w.ownsRow base 5 1 (.slice A l.length c) l.length (u8C l)) : Lie w A l := fun hl => by
  obtain ⟨g, cap, hv, _, hlt⟩ := h.form hl
  have hA : A = some ⟨g, 0, none⟩ := by injection hv
  subst hA
  refine ⟨_, rfl, hlt, fun j hj => h.cells (g := g) rfl j _ ?_⟩
  simp [u8C, List.getElem?_eq_getElem hj]
end

theorem info_u8 : (Try.prog.info? 5).map (fun i => (i.zero, i.size, i.bytes)) = some (some (.int .u8 0), 1, 1) := by kernel_rfl

/-- append(own, bytes...): onto a row of the call's own, from a slice of bytes that may be nil or empty. -/
theorem run_append_lie {w : World} {base : Nat} {v : Value} {n : Nat} {xs : List Value} (hown : w.ownsRow base 5 1 v n xs) {A : Option Addr} {l : List UInt8} (hl : Lie w A l) (c : Nat) (ty : TypeId)
    (h63 : n + l.length ≤ maxLen) (hbytes : n + l.length ≤ 140737488355328) (hbase : base ≤ w.heap.size) :
    ∃ A' c' w', (Builtin.append_ #[25, 25] ty #[v, .slice A l.length c]).run Try.prog w = .ok (.slice A' (n + l.length) c') w' ∧ w'.ownsRow base 5 1 (.slice A' (n + l.length) c') (n + l.length) (xs ++ u8C l) ∧ w.grownBy w' v.ownBlock ∧
      ((.slice A' (n + l.length) c' : Value).ownBlock = v.ownBlock ∨ (.slice A' (n + l.length) c' : Value).ownBlock = some w.heap.size) := by
  obtain ⟨i0, hi0, hz0, hz1, hz2⟩ := info_parts info_u8
  have key : ∀ (ad : Addr), (∀ j u, (u8C l)[j]? = some u → w.cell? (ad.add j) = some u) → ∃ A' c' w', (Builtin.append_ #[25, 25] ty #[v, .slice (some ad) l.length c]).run Try.prog w = .ok (.slice A' (n + l.length) c') w' ∧ w'.ownsRow base 5 1 (.slice A' (n + l.length) c') (n + l.length) (xs ++ u8C l) ∧ w.grownBy w' v.ownBlock ∧
      ((.slice A' (n + l.length) c' : Value).ownBlock = v.ownBlock ∨ (.slice A' (n + l.length) c' : Value).ownBlock = some w.heap.size) := by
    intro ad hc
    obtain ⟨v', w', hr, h2, h3, _, h5⟩ := run_append_own_at (P := Try.prog) w base 25 ty 5 i0 _ 1 1 Try.underlying25 hi0 hz0 hz1 hz2 rfl (by decide) v n xs hown ad l.length c (u8C l) (by rw [u8C_length]; omega) hc (u8C_one l) h63 (by omega) hbase
    have hv : ∃ A' c', v' = .slice A' (n + l.length) c' := by
      rcases h2.2 with ⟨rfl, h0⟩ | ⟨g, cap, cur, rfl, _⟩
      · exact ⟨none, 0, by rw [h0]⟩
      · exact ⟨_, _, rfl⟩
    obtain ⟨A', c', rfl⟩ := hv
    exact ⟨A', c', w', hr, h2, h3, h5⟩
  rcases A with _ | ad
  · have h0 : l = [] := by
      rcases l with _ | ⟨b, t⟩
      · rfl
      · obtain ⟨ad, h, _⟩ := hl (by simp)
        cases h
    subst h0
    have hrun : (Builtin.append_ #[25, 25] ty #[v, .slice none 0 c]).run Try.prog w = .ok v w := by
      rcases hown.2 with ⟨rfl, rfl⟩ | ⟨g, cap, cur, rfl, _, _, hnc, _⟩
      · simp [Builtin.append_, run_underlying Try.underlying25, sizeOf, typeInfo, hi0, Builtin.lenOf, Builtin.firstCells]
      · simp [Builtin.append_, run_underlying Try.underlying25, sizeOf, typeInfo, hi0, Builtin.lenOf, Builtin.firstCells, hnc, storeCells]
    have hv : ∃ A' c', v = .slice A' n c' := by
      rcases hown.2 with ⟨rfl, h0⟩ | ⟨g, cap, cur, rfl, _⟩
      · exact ⟨none, 0, by rw [h0]⟩
      · exact ⟨_, _, rfl⟩
    obtain ⟨A', c', rfl⟩ := hv
    exact ⟨A', c', w, hrun, by simpa [u8C] using hown, World.grownBy.refl w _, .inl rfl⟩
  · refine key ad fun j u hu => ?_
    obtain ⟨hj, rfl⟩ := u8C_get hu
    obtain ⟨ad', e, _, hc⟩ := hl (by omega)
    injection e with e
    subst e
    exact hc j hj

theorem wp_append_lie {w : World} {o : Oper} {a : Act} {K : Act → World → Prop} {Q : Exit → Act → World → Prop} (s x : Operand)
    (ho : o.op = .call { callee := .builtin .append, args := #[s, x], argTypes := #[25, 25] })
    {base : Nat} {v : Value} {n : Nat} {xs : List Value} (hs : a.eval s = v) (hown : w.ownsRow base 5 1 v n xs) {A : Option Addr} {l : List UInt8} {c : Nat} (hx : a.eval x = .slice A l.length c) (hl : Lie w A l)
    (h63 : n + l.length ≤ maxLen) (hbytes : n + l.length ≤ 140737488355328) (hbase : base ≤ w.heap.size)
    (h : ∀ A' c' w', w'.ownsRow base 5 1 (.slice A' (n + l.length) c') (n + l.length) (xs ++ u8C l) → w.grownBy w' v.ownBlock → ((.slice A' (n + l.length) c' : Value).ownBlock = v.ownBlock ∨ (.slice A' (n + l.length) c' : Value).ownBlock = some w.heap.size) → K (a.put o.dst (.slice A' (n + l.length) c')) w') : o.wp Try.prog a w K Q := by
  obtain ⟨A', c', w', hrun, h2, h3, h4⟩ := run_append_lie hown hl c o.type h63 hbytes hbase
  unfold Oper.wp execOp
  simp only [ho, resolve, invoke, builtin, Sem.run_bind, Sem.run_pure, Result.andThen_ok, List.map_toArray, List.map_cons, List.map_nil, hs, hx, hrun]
  exact h A' c' w' h2 h3 h4
theorem wpList_append_lie {w : World} {ops : Array Oper} {rest : List Oper} {o : Oper} {a : Act} {Q : Exit → Act → World → Prop} (hgd : o.guard = none) (s x : Operand)
    (ho : o.op = .call { callee := .builtin .append, args := #[s, x], argTypes := #[25, 25] })
    {base : Nat} {v : Value} {n : Nat} {xs : List Value} (hs : a.eval s = v) (hown : w.ownsRow base 5 1 v n xs) {A : Option Addr} {l : List UInt8} {c : Nat} (hx : a.eval x = .slice A l.length c) (hl : Lie w A l)
    (h63 : n + l.length ≤ maxLen) (hbytes : n + l.length ≤ 140737488355328) (hbase : base ≤ w.heap.size)
    (h : ∀ A' c' w', w'.ownsRow base 5 1 (.slice A' (n + l.length) c') (n + l.length) (xs ++ u8C l) → w.grownBy w' v.ownBlock → ((.slice A' (n + l.length) c' : Value).ownBlock = v.ownBlock ∨ (.slice A' (n + l.length) c' : Value).ownBlock = some w.heap.size) → wpList Try.prog ops Q rest (a.put o.dst (.slice A' (n + l.length) c')) w') : wpList Try.prog ops Q (o :: rest) a w :=
  wpList_plain hgd fun _ hK => wp_append_lie s x ho hs hown hx hl h63 hbytes hbase fun A' c' w' h2 h3 h4 => hK _ _ (h A' c' w' h2 h3 h4)

theorem conv_lie {w : World} {A : Option Addr} {l : List UInt8} (c : Nat) (h : Lie w A l) : (convert 25 9 (.slice A l.length c)).run Try.prog w = .ok (.string ⟨l.toArray⟩) w := by
  rcases A with _ | ad
  · have h0 : l = [] := by
      rcases l with _ | ⟨b, t⟩
      · rfl
      · obtain ⟨ad, h, _⟩ := h (by simp)
        cases h
    subst h0
    exact run_convert_bytes_nil (P := Try.prog) w 25 5 Try.underlying25 Try.underlying5 0 c 9 Try.underlying9
  · refine run_convert_bytes_back (P := Try.prog) w 25 9 5 ad c l Try.underlying25 Try.underlying5 Try.underlying9 (fun j hj => ?_)
    obtain ⟨ad', e, _, hc⟩ := h (by omega)
    injection e with e
    subst e
    exact hc j hj

theorem lit_add (b j : Nat) : (⟨b, 0, none⟩ : Addr).add j = ⟨b, j, none⟩ := by unfold Addr.add; split <;> simp_all

/-- Nothing has turned but for the blocks of a set. -/
structure Fr (S : Nat → Prop) (w w' : World) : Prop where
  os : w'.os = w.os
  tape : w'.tape = w.tape
  output : w'.output = w.output
  size : w.heap.size ≤ w'.heap.size
  block : ∀ k, k < w.heap.size → ¬ S k → w'.heap[k]? = w.heap[k]?
section
variable {S T : Nat → Prop} {w w' w1 w2 : World}
theorem Fr.refl (S : Nat → Prop) (w : World) : Fr S w w := ⟨rfl, rfl, rfl, Nat.le_refl _, fun _ _ _ => rfl⟩
theorem Fr.trans (h : Fr S w w1) (k : Fr S w1 w2) : Fr S w w2 :=
  ⟨k.os.trans h.os, k.tape.trans h.tape, k.output.trans h.output, Nat.le_trans h.size k.size, fun i hi hs => (k.block i (Nat.lt_of_lt_of_le hi h.size) hs).trans (h.block i hi hs)⟩
theorem Fr.mono (h : Fr S w w1) (k : ∀ b, S b → T b) : Fr T w w1 := ⟨h.os, h.tape, h.output, h.size, fun i hi hs => h.block i hi fun x => hs (k i x)⟩
theorem Fr.of_below (h : Below w.heap.size w w1) : Fr S w w1 := ⟨h.os, h.tape, h.output, h.size, fun i hi _ => h.block i hi⟩
theorem Fr.below {B : Nat} (h : Fr S w w1) (hB : B ≤ w.heap.size) (hS : ∀ b, S b → B ≤ b) : Below B w w1 :=
  ⟨h.os, h.tape, h.output, h.size, fun i hi => h.block i (Nat.lt_of_lt_of_le hi hB) fun x => by have := hS i x; omega⟩
theorem Fr.set_ (h : Fr S w w1) {p : Addr} (hp : S p.block) (u : Value) : Fr S w (w1.setCell p u) :=
  h.trans ⟨rfl, rfl, rfl, by simp [World.setCell], fun k _ hk => Below.heap_setCell _ _ _ _ fun e => hk (e ▸ hp)⟩
theorem Fr.alloc (h : Fr S w w1) (o : Obj) : Fr S w (w1.alloc o) := h.trans ⟨rfl, rfl, rfl, by simp, fun k hk _ => Below.heap_alloc _ _ _ hk⟩
theorem Fr.drew (h : Fr S w w1) : Fr S w w1.drew := ⟨h.os, h.tape, h.output, h.size, h.block⟩
theorem setCells_size (b : Nat) : ∀ (vs : List Value) (o : Nat) (w : World), (w.setCells b o vs).heap.size = w.heap.size
  | [], _, _ => rfl
  | v :: r, o, w => by rw [World.setCells, setCells_size b r]; simp [World.setCell]
theorem setCells_heap (b : Nat) : ∀ (vs : List Value) (o : Nat) (w : World) (k : Nat), k ≠ b → (w.setCells b o vs).heap[k]? = w.heap[k]?
  | [], _, _, _, _ => rfl
  | v :: r, o, w, k, h => by rw [World.setCells, setCells_heap b r _ _ k h]; exact Below.heap_setCell _ _ _ _ h
theorem setCells_rest (b : Nat) : ∀ (vs : List Value) (o : Nat) (w : World), (w.setCells b o vs).os = w.os ∧ (w.setCells b o vs).tape = w.tape ∧ (w.setCells b o vs).output = w.output
  | [], _, _ => ⟨rfl, rfl, rfl⟩
  | v :: r, o, w => by rw [World.setCells]; exact setCells_rest b r _ _
theorem Fr.sets (h : Fr S w w1) {b : Nat} (hb : S b) (o : Nat) (vs : List Value) : Fr S w (w1.setCells b o vs) :=
  h.trans ⟨(setCells_rest b vs o w1).1, (setCells_rest b vs o w1).2.1, (setCells_rest b vs o w1).2.2, by rw [setCells_size]; exact Nat.le_refl _, fun k _ hk => setCells_heap b vs o w1 k fun e => hk (e ▸ hb)⟩
theorem Box.fr {g : Nat} {t : TypeId} {cs : Array Value} (h : Box w g t cs) (k : Fr S w w') (hg : ¬ S g) : Box w' g t cs := (k.block g h.lt hg).trans h
theorem Box.sets {g : Nat} {t : TypeId} {cs : Array Value} (h : Box w g t cs) {b : Nat} (hb : g ≠ b) (o : Nat) (vs : List Value) : Box (w.setCells b o vs) g t cs := (setCells_heap b vs o w g hb).trans h
theorem Lie.fr {A : Option Addr} {l : List UInt8} (h : Lie w A l) (k : Fr S w w') (hg : ∀ ad, A = some ad → ¬ S ad.block) : Lie w' A l := fun hl => by
  obtain ⟨ad, e, hlt, hc⟩ := h hl
  exact ⟨ad, e, Nat.lt_of_lt_of_le hlt k.size, fun j hj => (World.cell?_of_block (w := w) (a := ad.add j) (by rw [blk_add]; exact k.block _ hlt (hg ad e))).trans (hc j hj)⟩
theorem range_block {b o : Nat} {cs : List Value} (h : w.rangeAt b o cs) (k : w'.heap[b]? = w.heap[b]?) : w'.rangeAt b o cs := fun j v hv => (World.cell?_of_block (w := w) (a := ⟨b, o + j, none⟩) k).trans (h j v hv)
theorem there_block {b o n : Nat} (h : w.there b o n) (k : w'.heap[b]? = w.heap[b]?) : w'.there b o n := fun j hj => by
  rw [World.cell?_of_block (w := w) (a := ⟨b, o + j, none⟩) k, World.frozen?_of_block (w := w) (a := ⟨b, o + j, none⟩) k]
  exact h j hj
end


theorem own_keep {w w' : World} {base : Nat} {e : TypeId} {size : Nat} {v : Value} {n : Nat} {xs : List Value} (h : w.ownsRow base e size v n xs) (hb : Below w.heap.size w w') : w'.ownsRow base e size v n xs := by
  refine ⟨h.1, ?_⟩
  rcases h.2 with h | ⟨g, cap, cur, hv, hbg, hh, r⟩
  · exact .inl h
  · exact .inr ⟨g, cap, cur, hv, hbg, (hb.block g (Array.getElem?_eq_some_iff.1 hh).1).trans hh, r⟩
theorem own_less {w : World} {base base' : Nat} {e : TypeId} {size : Nat} {v : Value} {n : Nat} {xs : List Value} (h : w.ownsRow base e size v n xs) (hb : base' ≤ base) : w.ownsRow base' e size v n xs := by
  refine ⟨h.1, ?_⟩
  rcases h.2 with h | ⟨g, cap, cur, hv, hbg, r⟩
  · exact .inl h
  · exact .inr ⟨g, cap, cur, hv, by omega, r⟩

/-- The call has answered v, and left the world as it was. -/
def Same (v : Value) (w : World) (e : Ending) (w' : World) : Prop := e = .returned v ∧ w = w'
def TruePost (w : World) (e : Ending) (w' : World) : Prop := e = .returned (.bool true) ∧ Below w.heap.size w w'

/-- Bytes that lie outside a set of blocks. -/
def LieX (X : Nat → Prop) (w : World) (A : Option Addr) (l : List UInt8) : Prop :=
  0 < l.length → ∃ ad, A = some ad ∧ ad.block < w.heap.size ∧ ¬ X ad.block ∧ ∀ j (hj : j < l.length), w.cell? (ad.add j) = some (.int .u8 (l[j].toNat : Int))
/-- A record as the two cells that it takes. -/
def RecV (X : Nat → Prop) (w : World) (v0 v1 : Value) (p : Rec) : Prop :=
  ∃ A c, v0 = .string p.1 ∧ v1 = .slice A p.2.length c ∧ p.2.length ≤ c ∧ c ≤ maxLen ∧ LieX X w A p.2 ∧ p.1.size ≤ maxLen
def RecAt (X : Nat → Prop) (w : World) (ad : Addr) (i : Nat) (p : Rec) : Prop :=
  ∃ v0 v1, w.cell? (ad.add (i * 2)) = some v0 ∧ w.cell? (ad.add (i * 2 + 1)) = some v1 ∧ RecV X w v0 v1 p
/-- A slice's address at which these records lie, all outside a set of blocks. -/
def Recs (X : Nat → Prop) (w : World) (A : Option Addr) (l : List Rec) : Prop :=
  0 < l.length → ∃ ad, A = some ad ∧ ad.block < w.heap.size ∧ ¬ X ad.block ∧ ∀ i (hi : i < l.length), RecAt X w ad i l[i]
section
variable {X Y : Nat → Prop} {w w' : World} {A : Option Addr} {l : List Rec}
theorem LieX.lie {b : List UInt8} (h : LieX X w A b) : Lie w A b := fun hl => by
  obtain ⟨ad, e, h1, _, h3⟩ := h hl
  exact ⟨ad, e, h1, h3⟩
theorem LieX.drew {b : List UInt8} (h : LieX X w A b) : LieX X w.drew A b := h
theorem LieX.fr {b : List UInt8} (h : LieX X w A b) (k : Fr X w w') : LieX X w' A b := fun hl => by
  obtain ⟨ad, e, h1, h2, h3⟩ := h hl
  exact ⟨ad, e, Nat.lt_of_lt_of_le h1 k.size, h2, fun j hj => (World.cell?_of_block (w := w) (a := ad.add j) (by rw [blk_add]; exact k.block _ h1 h2)).trans (h3 j hj)⟩
theorem LieX.mono {b : List UInt8} (h : LieX X w A b) (k : ∀ b, b < w.heap.size → Y b → X b) : LieX Y w A b := fun hl => by
  obtain ⟨ad, e, h1, h2, h3⟩ := h hl
  exact ⟨ad, e, h1, fun y => h2 (k _ h1 y), h3⟩
theorem RecV.fr {v0 v1 : Value} {p : Rec} (h : RecV X w v0 v1 p) (k : Fr X w w') : RecV X w' v0 v1 p := by
  obtain ⟨A, c, h1, h2, h3, h4, h5, h6⟩ := h
  exact ⟨A, c, h1, h2, h3, h4, h5.fr k, h6⟩
theorem RecV.mono {v0 v1 : Value} {p : Rec} (h : RecV X w v0 v1 p) (k : ∀ b, b < w.heap.size → Y b → X b) : RecV Y w v0 v1 p := by
  obtain ⟨A, c, h1, h2, h3, h4, h5, h6⟩ := h
  exact ⟨A, c, h1, h2, h3, h4, h5.mono k, h6⟩
theorem Recs.fr (h : Recs X w A l) (k : Fr X w w') : Recs X w' A l := fun hl => by
  obtain ⟨ad, e, h1, h2, h3⟩ := h hl
  have hc : ∀ j, w'.cell? (ad.add j) = w.cell? (ad.add j) := fun j => World.cell?_of_block (w := w) (a := ad.add j) (by rw [blk_add]; exact k.block _ h1 h2)
  refine ⟨ad, e, Nat.lt_of_lt_of_le h1 k.size, h2, fun i hi => ?_⟩
  obtain ⟨v0, v1, g1, g2, g3⟩ := h3 i hi
  exact ⟨v0, v1, by rw [hc]; exact g1, by rw [hc]; exact g2, g3.fr k⟩
theorem Recs.mono (h : Recs X w A l) (k : ∀ b, b < w.heap.size → Y b → X b) : Recs Y w A l := fun hl => by
  obtain ⟨ad, e, h1, h2, h3⟩ := h hl
  refine ⟨ad, e, h1, fun y => h2 (k _ h1 y), fun i hi => ?_⟩
  obtain ⟨v0, v1, g1, g2, g3⟩ := h3 i hi
  exact ⟨v0, v1, g1, g2, g3.mono k⟩
theorem Recs.below (h : Recs X w A l) (k : Below w.heap.size w w') : Recs X w' A l := h.fr (Fr.of_below k)
theorem Recs.alloc (h : Recs X w A l) (o : Obj) : Recs X (w.alloc o) A l := h.fr ((Fr.refl X w).alloc o)
theorem Recs.drew (h : Recs X w A l) : Recs X w.drew A l := h.fr (Fr.refl X w).drew
theorem Recs.nil_ : Recs X w A [] := fun h => absurd h (by simp)
/-- Element i: its two cells as the walk spells them. -/
theorem Recs.at_ (h : Recs X w A l) {i : Nat} (hi : i < l.length) : ∃ ad B c, A = some ad ∧ ad.block < w.heap.size ∧ w.cell? (ad.add (i * 2)) = some (.string l[i].1) ∧ w.cell? ⟨(ad.add (i * 2)).block, (ad.add (i * 2)).off + 1, none⟩ = some (.slice B l[i].2.length c) ∧
    l[i].2.length ≤ c ∧ c ≤ maxLen ∧ LieX X w B l[i].2 ∧ l[i].1.size ≤ maxLen := by
  obtain ⟨ad, e, h1, h2, h3⟩ := h (by omega)
  obtain ⟨v0, v1, g1, g2, B, c, rfl, rfl, g3⟩ := h3 i hi
  have e2 : (⟨(ad.add (i * 2)).block, (ad.add (i * 2)).off + 1, none⟩ : Addr) = ad.add (i * 2 + 1) := by rw [← add_add_, Addr.add_succ']
  exact ⟨ad, B, c, e, h1, g1, by rw [e2]; exact g2, g3⟩
end

/-- A row's cells are these records. -/
def PCells (X : Nat → Prop) (w : World) (l : List Rec) (xs : List Value) : Prop :=
  xs.length = l.length * 2 ∧ ∀ i (hi : i < l.length), ∃ v0 v1, xs[i * 2]? = some v0 ∧ xs[i * 2 + 1]? = some v1 ∧ RecV X w v0 v1 l[i]
section
variable {X Y : Nat → Prop} {w w' : World} {l m : List Rec} {xs ys : List Value}
theorem PCells.nil_ : PCells X w [] [] := ⟨rfl, fun i hi => absurd hi (by simp)⟩
theorem PCells.append (h : PCells X w l xs) (k : PCells X w m ys) : PCells X w (l ++ m) (xs ++ ys) := by
  refine ⟨by rw [List.length_append, List.length_append, h.1, k.1, Nat.add_mul], fun i hi => ?_⟩
  have hx := h.1
  by_cases hl : i < l.length
  · obtain ⟨A, c, a1, a2, a3⟩ := h.2 i hl
    rw [List.getElem_append_left hl]
    exact ⟨A, c, by rw [List.getElem?_append_left (by omega)]; exact a1, by rw [List.getElem?_append_left (by omega)]; exact a2, a3⟩
  · have hi2 : i - l.length < m.length := by rw [List.length_append] at hi; omega
    obtain ⟨A, c, a1, a2, a3⟩ := k.2 (i - l.length) hi2
    rw [List.getElem_append_right (by omega)]
    refine ⟨A, c, ?_, ?_, a3⟩
    · rw [List.getElem?_append_right (by omega), show i * 2 - xs.length = (i - l.length) * 2 by omega]
      exact a1
    · rw [List.getElem?_append_right (by omega), show i * 2 + 1 - xs.length = (i - l.length) * 2 + 1 by omega]
      exact a2
theorem PCells.fr (h : PCells X w l xs) (k : Fr X w w') : PCells X w' l xs := ⟨h.1, fun i hi => by
  obtain ⟨A, c, a1, a2, a3⟩ := h.2 i hi
  exact ⟨A, c, a1, a2, a3.fr k⟩⟩
theorem PCells.mono (h : PCells X w l xs) (k : ∀ b, b < w.heap.size → Y b → X b) : PCells Y w l xs := ⟨h.1, fun i hi => by
  obtain ⟨A, c, a1, a2, a3⟩ := h.2 i hi
  exact ⟨A, c, a1, a2, a3.mono k⟩⟩
theorem PCells.one {v0 v1 : Value} {p : Rec} (h : RecV X w v0 v1 p) : PCells X w [p] [v0, v1] := by
  refine ⟨rfl, fun i hi => ?_⟩
  obtain rfl : i = 0 := by simp at hi; omega
  exact ⟨v0, v1, rfl, rfl, h⟩
/-- Own rows read as records. -/
theorem PCells.recs {base c : Nat} {A : Option Addr} (h : PCells X w l xs) (ho : w.ownsRow base 37 2 (.slice A l.length c) l.length xs) (hX : ∀ b, (Value.slice A l.length c).ownBlock = some b → ¬ X b) : Recs X w A l := fun hl => by
  obtain ⟨g, cap, hv, _, hlt⟩ := ho.form hl
  have hA : A = some ⟨g, 0, none⟩ := by injection hv
  subst hA
  refine ⟨_, rfl, hlt, hX g rfl, fun i hi => ?_⟩
  obtain ⟨v0, v1, g1, g2, g3⟩ := h.2 i hi
  exact ⟨v0, v1, ho.cells (g := g) rfl _ _ g1, ho.cells (g := g) rfl _ _ g2, g3⟩
end
theorem info_pair : (Try.prog.info? 37).map (fun i => (i.zero, i.size, i.bytes)) = some (some (.agg #[.string ⟨#[]⟩, .slice none 0 0]), 2, 40) := by kernel_rfl
/-- append(own, x): one record onto a row of one's own. -/
theorem run_append_rec {w : World} {base : Nat} {A : Option Addr} {n c : Nat} {xs : List Value} (x y : Value) (hx : x.oneCell' = true) (hy : y.oneCell' = true) (hown : w.ownsRow base 37 2 (.slice A n c) n xs) (hn : n ≤ 10000000) (hbase : base ≤ w.heap.size) :
    ∃ A' c' w', (Builtin.append_ #[22, 22] 22 #[.slice A n c, .slice (some ⟨w.heap.size, 0, none⟩) 1 1]).run Try.prog (w.alloc (.cells #[x, y] 37)) = .ok (.slice A' (n + 1) c') w' ∧
      w'.ownsRow base 37 2 (.slice A' (n + 1) c') (n + 1) (xs ++ [x, y]) ∧ (w.alloc (.cells #[x, y] 37)).grownBy w' (Value.slice A n c).ownBlock ∧
      ((Value.slice A' (n + 1) c').ownBlock = (Value.slice A n c).ownBlock ∨ (Value.slice A' (n + 1) c').ownBlock = some (w.heap.size + 1)) := by
  obtain ⟨i0, hi0, hz0, hz1, hz2⟩ := info_parts info_pair
  have hown' := own_keep hown ((Below.refl _ w).alloc (Nat.le_refl _) (.cells #[x, y] 37))
  obtain ⟨v', w', hr, ho, hg, _, hl⟩ := run_append_own_at (P := Try.prog) (w.alloc (.cells #[x, y] 37)) base 22 22 37 i0 _ 2 40 Try.underlying22 hi0 hz0 hz1 hz2 rfl (by omega)
    _ n xs hown' ⟨w.heap.size, 0, none⟩ 1 1 [x, y] rfl (World.news_of_block (cs := #[x, y]) (t := 37) (fr := (0, 0)) (heap_alloc_new w _)) (by simp [hx, hy]) (by unfold maxLen; omega) (by omega) (by simp; omega)
  rcases ho.2 with ⟨_, h0⟩ | ⟨g, cap, cur, rfl, _⟩
  · omega
  · exact ⟨some ⟨g, 0, none⟩, cap, w', hr, ho, hg, by simpa using hl⟩
/-- append by its run's equation. -/
theorem wpList_append_run {w w' : World} {ops : Array Oper} {rest : List Oper} {o : Oper} {a : Act} {Q : Exit → Act → World → Prop} (hgd : o.guard = none) (s x : Operand) (t1 t2 : TypeId)
    (ho : o.op = .call { callee := .builtin .append, args := #[s, x], argTypes := #[t1, t2] }) {u v r : Value} (hs : a.eval s = u) (hx : a.eval x = v) (hr : (Builtin.append_ #[t1, t2] o.type #[u, v]).run Try.prog w = .ok r w')
    (h : wpList Try.prog ops Q rest (a.put o.dst r) w') : wpList Try.prog ops Q (o :: rest) a w :=
  wpList_plain hgd fun K hK => by
    unfold Oper.wp execOp
    simp only [ho, resolve, invoke, builtin, Sem.run_bind, Sem.run_pure, Result.andThen_ok, List.map_toArray, List.map_cons, List.map_nil, hs, hx, hr]
    exact hK _ _ h
/-- append at a step of a region that draws its order, by its run's equation. -/
theorem step_append_run {w w' : World} {ops : Array Oper} {o : Oper} {a : Act} {K : Act → World → Prop} {Q : Exit → Act → World → Prop} {E : Prop} (hgd : o.guard = none) (s x : Operand) (t1 t2 : TypeId)
    (ho : o.op = .call { callee := .builtin .append, args := #[s, x], argTypes := #[t1, t2] }) {u v r : Value} (hs : a.eval s = u) (hx : a.eval x = v) (hr : (Builtin.append_ #[t1, t2] o.type #[u, v]).run Try.prog w = .ok r w')
    (h : K (a.put o.dst r) w') : if Region.wanted o (yielded ops a.tmps) = true then Oper.wp Try.prog o a w K Q else E := by
  have hw : Region.wanted o (yielded ops a.tmps) = true := by simp [Region.wanted, hgd]
  rw [if_pos hw]
  unfold Oper.wp execOp
  simp only [ho, resolve, invoke, builtin, Sem.run_bind, Sem.run_pure, Result.andThen_ok, List.map_toArray, List.map_cons, List.map_nil, hs, hx, hr]
  exact h
end Go.Proofs.Ythgoapcafjijfaa.Pg
