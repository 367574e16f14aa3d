/-
  Memory's words for layer 4: a block that is known whole, a slice that reads as a list of bytes, a row of bytes of the call's own, a frame by a set of blocks, a disk in memory.
-/
import Derived.Test.YtkklplccngdalaaProg
import Derived.Test.YtkklplccngdalaaDkM
import Derived.WalkKit
import Derived.WalkSpells
import Derived.WalkLawsBesides
import Derived.Outline
import Derived.Lib.Hide
import Derived.Deep.AppendLies
import Derived.Deep.Draws
import Derived.Deep.MidRow
import Derived.Lib.ConvBytes
import Derived.Lib.SliceRun
namespace Go.Proofs.Ytkklplccngdalaa.Dk
open Go.RowKit

theorem ret_bool {a b : Bool} (h : a = b) : Ending.returned (.bool a) = .returned (.bool b) := by rw [h]
theorem ret_int {k : IntKind} {a b : Int} (h : a = b) : Ending.returned (.int k a) = .returned (.int k b) := by rw [h]

/-- A block that is known whole. -/
def Box (w : World) (g : Nat) (t : TypeId) (cs : Array Value) : Prop := w.heap[g]? = some (.cells cs t (0, 0))
section
variable {w w' : World} {g : Nat} {t : TypeId} {cs : Array Value}
theorem Box.lt (h : Box w g t cs) : g < w.heap.size := (Array.getElem?_eq_some_iff.1 h).1
theorem Box.cell (h : Box w g t cs) (i : Nat) : w.cell? ⟨g, i, none⟩ = cs[i]? := cell_of_row w g i cs t (0, 0) h
theorem Box.frozen (h : Box w g t cs) (i : Nat) : w.frozen? ⟨g, i, none⟩ = false := by
  unfold Box at h
  simp [World.frozen?, h]
theorem Box.new (w : World) (t : TypeId) (cs : Array Value) : Box (w.alloc (.cells cs t)) w.heap.size t cs := heap_alloc_new w _
theorem Box.below {B : Nat} (h : Box w g t cs) (hb : Below B w w') (hg : g < B) : Box w' g t cs := (hb.block g hg).trans h
theorem Box.alloc (h : Box w g t cs) (o : Obj) : Box (w.alloc o) g t cs := (Below.heap_alloc w o g h.lt).trans h
theorem Box.set_ (h : Box w g t cs) (i : Nat) (u : Value) : Box (w.setCell ⟨g, i, none⟩ u) g t (cs.setIfInBounds i u) := by
  unfold Box at h ⊢
  simp [World.setCell, Array.getElem?_modify, h]
theorem Box.far (h : Box w g t cs) {p : Addr} (hp : g ≠ p.block) (u : Value) : Box (w.setCell p u) g t cs := (Below.heap_setCell w p u g hp).trans h
theorem Box.grown {row : Option Nat} (h : Box w g t cs) (hb : w.grownBy w' row) (hg : some g ≠ row) : Box w' g t cs := (hb.block g h.lt hg).trans h
theorem Box.drew (h : Box w g t cs) : Box w.drew g t cs := h
theorem Box.drewN (h : Box w g t cs) (n : Nat) : Box (w.drewN n) g t cs := h
end

theorem below_new {w w1 : World} {o : Obj} (hb : Below (w.alloc o).heap.size (w.alloc o) w1) : Below w.heap.size w w1 :=
  ((Below.refl _ w).alloc (Nat.le_refl _) o).trans (hb.mono (by simp))
theorem below_drewN {B : Nat} {a w : World} (h : Below B a w) (n : Nat) : Below B a (w.drewN n) := ⟨h.os, h.tape, h.output, h.size, h.block⟩

/-- Bytes as cells. -/
def u8C (l : List UInt8) : List Value := l.map fun b => Value.int .u8 (b.toNat : Int)
theorem u8C_append (a b : List UInt8) : u8C (a ++ b) = u8C a ++ u8C b := by simp [u8C]
theorem u8C_length (a : List UInt8) : (u8C a).length = a.length := by simp [u8C]
theorem u8C_one (l : List UInt8) : ∀ u ∈ u8C l, u.oneCell' = true := by
  intro u hu
  simp only [u8C, List.mem_map] at hu
  obtain ⟨b, _, rfl⟩ := hu
  rfl
theorem u8C_get {l : List UInt8} {j : Nat} {u : Value} (h : (u8C l)[j]? = some u) : ∃ hj : j < l.length, u = .int .u8 (l[j].toNat : Int) := by
  have hj : j < l.length := by have := (List.getElem?_eq_some_iff.1 h).1; rwa [u8C_length] at this
  refine ⟨hj, ?_⟩
  simp [u8C, List.getElem?_eq_getElem hj] at h
  exact h.symm

/-- A slice's address at which these bytes lie. -/
def Lie (w : World) (A : Option Addr) (l : List UInt8) : Prop :=
  0 < l.length → ∃ ad, A = some ad ∧ ad.block < w.heap.size ∧ ∀ j (hj : j < l.length), w.cell? (ad.add j) = some (.int .u8 (l[j].toNat : Int))
theorem blk_add (a : Addr) (n : Nat) : (a.add n).block = a.block := by unfold Addr.add; split <;> rfl
theorem add_add_ (a : Addr) (i j : Nat) : (a.add i).add j = a.add (i + j) := by
  unfold Addr.add
  by_cases hi : i = 0 <;> by_cases hj : j = 0 <;> simp [hi, hj, Nat.add_assoc]
section
variable {w w' : World} {A : Option Addr} {l : List UInt8}
theorem Lie.nil_ : Lie w A [] := fun h => absurd h (by simp)
theorem Lie.below (h : Lie w A l) (hb : Below w.heap.size w w') : Lie w' A l := fun hl => by
  obtain ⟨ad, e, hlt, hc⟩ := h hl
  exact ⟨ad, e, Nat.lt_of_lt_of_le hlt hb.size, fun j hj => (hb.cell (p := ad.add j) (by rw [blk_add]; exact hlt)).trans (hc j hj)⟩
theorem Lie.alloc (h : Lie w A l) (o : Obj) : Lie (w.alloc o) A l := h.below ((Below.refl _ w).alloc (Nat.le_refl _) o)
theorem Lie.drew (h : Lie w A l) : Lie w.drew A l := h
theorem Lie.drewN (h : Lie w A l) (n : Nat) : Lie (w.drewN n) A l := h
theorem Lie.at_ (h : Lie w A l) {k : Nat} (hk : k < l.length) : ∃ ad, A = some ad ∧ ad.block < w.heap.size ∧ w.cell? (ad.add k) = some (.int .u8 (l[k].toNat : Int)) := by
  obtain ⟨ad, e, hlt, hc⟩ := h (by omega)
  exact ⟨ad, e, hlt, hc k hk⟩
theorem Lie.take (h : Lie w A l) (k : Nat) : Lie w A (l.take k) := fun hl => by
  have hl' : 0 < l.length := by rw [List.length_take] at hl; omega
  obtain ⟨ad, e, hlt, hc⟩ := h hl'
  refine ⟨ad, e, hlt, fun j hj => ?_⟩
  rw [hc j (by rw [List.length_take] at hj; omega)]
  simp
theorem Lie.cut (h : Lie w A l) {k cap : Nat} (hc : l.length ≤ cap) : Lie w (if cap = k then A else A.map (·.add k)) (l.drop k) := fun hl => by
  have hk : k < l.length := by rw [List.length_drop] at hl; omega
  obtain ⟨ad, rfl, hlt, hcell⟩ := h (by omega)
  rw [if_neg (by omega)]
  refine ⟨ad.add k, rfl, by rw [blk_add]; exact hlt, fun j hj => ?_⟩
  rw [add_add_, hcell (k + j) (by rw [List.length_drop] at hj; omega)]
  simp
theorem Lie.of_own {base c : Nat} (h : w.ownsRow base 5 1 (.slice A l.length c) l.length (u8C l)) : Lie w A l := fun hl => by
  obtain ⟨g, cap, hv, _, hlt⟩ := h.form hl
  have hA : A = some ⟨g, 0, none⟩ := by injection hv
  subst hA
  refine ⟨_, rfl, hlt, fun j hj => h.cells (g := g) rfl j _ ?_⟩
  simp [u8C, List.getElem?_eq_getElem hj]
end

theorem info_u8 : (Try.prog.info? 5).map (fun i => (i.zero, i.size, i.bytes)) = some (some (.int .u8 0), 1, 1) := by kernel_rfl

/-- append(own, bytes...): onto a row of the call's own, from a slice of bytes that may be nil or empty. -/
theorem run_append_lie {w : World} {base : Nat} {v : Value} {n : Nat} {xs : List Value} (hown : w.ownsRow base 5 1 v n xs) {A : Option Addr} {l : List UInt8} (hl : Lie w A l) (c : Nat) (ty : TypeId)
    (h63 : n + l.length ≤ maxLen) (hbytes : n + l.length ≤ 140737488355328) (hbase : base ≤ w.heap.size) :
    ∃ A' c' w', (Builtin.append_ #[43, 43] ty #[v, .slice A l.length c]).run Try.prog w = .ok (.slice A' (n + l.length) c') w' ∧ w'.ownsRow base 5 1 (.slice A' (n + l.length) c') (n + l.length) (xs ++ u8C l) ∧ w.grownBy w' v.ownBlock ∧
      ((.slice A' (n + l.length) c' : Value).ownBlock = v.ownBlock ∨ (.slice A' (n + l.length) c' : Value).ownBlock = some w.heap.size) := by
  obtain ⟨i0, hi0, hz0, hz1, hz2⟩ := info_parts info_u8
  have key : ∀ (ad : Addr), (∀ j u, (u8C l)[j]? = some u → w.cell? (ad.add j) = some u) → ∃ A' c' w', (Builtin.append_ #[43, 43] ty #[v, .slice (some ad) l.length c]).run Try.prog w = .ok (.slice A' (n + l.length) c') w' ∧ w'.ownsRow base 5 1 (.slice A' (n + l.length) c') (n + l.length) (xs ++ u8C l) ∧ w.grownBy w' v.ownBlock ∧
      ((.slice A' (n + l.length) c' : Value).ownBlock = v.ownBlock ∨ (.slice A' (n + l.length) c' : Value).ownBlock = some w.heap.size) := by
    intro ad hc
    obtain ⟨v', w', hr, h2, h3, _, h5⟩ := run_append_own_at (P := Try.prog) w base 43 ty 5 i0 _ 1 1 Try.underlying43 hi0 hz0 hz1 hz2 rfl (by decide) v n xs hown ad l.length c (u8C l) (by rw [u8C_length]; omega) hc (u8C_one l) h63 (by omega) hbase
    have hv : ∃ A' c', v' = .slice A' (n + l.length) c' := by
      rcases h2.2 with ⟨rfl, h0⟩ | ⟨g, cap, cur, rfl, _⟩
      · exact ⟨none, 0, by rw [h0]⟩
      · exact ⟨_, _, rfl⟩
    obtain ⟨A', c', rfl⟩ := hv
    exact ⟨A', c', w', hr, h2, h3, h5⟩
  rcases A with _ | ad
  · have h0 : l = [] := by
      rcases l with _ | ⟨b, t⟩
      · rfl
      · obtain ⟨ad, h, _⟩ := hl (by simp)
        cases h
    subst h0
    have hrun : (Builtin.append_ #[43, 43] ty #[v, .slice none 0 c]).run Try.prog w = .ok v w := by
      rcases hown.2 with ⟨rfl, rfl⟩ | ⟨g, cap, cur, rfl, _, _, hnc, _⟩
      · simp [Builtin.append_, run_underlying Try.underlying43, sizeOf, typeInfo, hi0, Builtin.lenOf, Builtin.firstCells]
      · simp [Builtin.append_, run_underlying Try.underlying43, sizeOf, typeInfo, hi0, Builtin.lenOf, Builtin.firstCells, hnc, storeCells]
    have hv : ∃ A' c', v = .slice A' n c' := by
      rcases hown.2 with ⟨rfl, h0⟩ | ⟨g, cap, cur, rfl, _⟩
      · exact ⟨none, 0, by rw [h0]⟩
      · exact ⟨_, _, rfl⟩
    obtain ⟨A', c', rfl⟩ := hv
    exact ⟨A', c', w, hrun, by simpa [u8C] using hown, World.grownBy.refl w _, .inl rfl⟩
  · refine key ad fun j u hu => ?_
    obtain ⟨hj, rfl⟩ := u8C_get hu
    obtain ⟨ad', e, _, hc⟩ := hl (by omega)
    injection e with e
    subst e
    exact hc j hj

theorem wp_append_lie {w : World} {o : Oper} {a : Act} {K : Act → World → Prop} {Q : Exit → Act → World → Prop} (s x : Operand)
    (ho : o.op = .call { callee := .builtin .append, args := #[s, x], argTypes := #[43, 43] })
    {base : Nat} {v : Value} {n : Nat} {xs : List Value} (hs : a.eval s = v) (hown : w.ownsRow base 5 1 v n xs) {A : Option Addr} {l : List UInt8} {c : Nat} (hx : a.eval x = .slice A l.length c) (hl : Lie w A l)
    (h63 : n + l.length ≤ maxLen) (hbytes : n + l.length ≤ 140737488355328) (hbase : base ≤ w.heap.size)
    (h : ∀ A' c' w', w'.ownsRow base 5 1 (.slice A' (n + l.length) c') (n + l.length) (xs ++ u8C l) → w.grownBy w' v.ownBlock → ((.slice A' (n + l.length) c' : Value).ownBlock = v.ownBlock ∨ (.slice A' (n + l.length) c' : Value).ownBlock = some w.heap.size) → K (a.put o.dst (.slice A' (n + l.length) c')) w') : o.wp Try.prog a w K Q := by
  obtain ⟨A', c', w', hrun, h2, h3, h4⟩ := run_append_lie hown hl c o.type h63 hbytes hbase
  unfold Oper.wp execOp
  simp only [ho, resolve, invoke, builtin, Sem.run_bind, Sem.run_pure, Result.andThen_ok, List.map_toArray, List.map_cons, List.map_nil, hs, hx, hrun]
  exact h A' c' w' h2 h3 h4
theorem wpList_append_lie {w : World} {ops : Array Oper} {rest : List Oper} {o : Oper} {a : Act} {Q : Exit → Act → World → Prop} (hgd : o.guard = none) (s x : Operand)
    (ho : o.op = .call { callee := .builtin .append, args := #[s, x], argTypes := #[43, 43] })
    {base : Nat} {v : Value} {n : Nat} {xs : List Value} (hs : a.eval s = v) (hown : w.ownsRow base 5 1 v n xs) {A : Option Addr} {l : List UInt8} {c : Nat} (hx : a.eval x = .slice A l.length c) (hl : Lie w A l)
    (h63 : n + l.length ≤ maxLen) (hbytes : n + l.length ≤ 140737488355328) (hbase : base ≤ w.heap.size)
    (h : ∀ A' c' w', w'.ownsRow base 5 1 (.slice A' (n + l.length) c') (n + l.length) (xs ++ u8C l) → w.grownBy w' v.ownBlock → ((.slice A' (n + l.length) c' : Value).ownBlock = v.ownBlock ∨ (.slice A' (n + l.length) c' : Value).ownBlock = some w.heap.size) → wpList Try.prog ops Q rest (a.put o.dst (.slice A' (n + l.length) c')) w') : wpList Try.prog ops Q (o :: rest) a w :=
  wpList_plain hgd fun _ hK => wp_append_lie s x ho hs hown hx hl h63 hbytes hbase fun A' c' w' h2 h3 h4 => hK _ _ (h A' c' w' h2 h3 h4)

theorem conv_lie {w : World} {A : Option Addr} {l : List UInt8} (c : Nat) (h : Lie w A l) : (convert 43 9 (.slice A l.length c)).run Try.prog w = .ok (.string ⟨l.toArray⟩) w := by
  rcases A with _ | ad
  · have h0 : l = [] := by
      rcases l with _ | ⟨b, t⟩
      · rfl
      · obtain ⟨ad, h, _⟩ := h (by simp)
        cases h
    subst h0
    exact run_convert_bytes_nil (P := Try.prog) w 43 5 Try.underlying43 Try.underlying5 0 c 9 Try.underlying9
  · refine run_convert_bytes_back (P := Try.prog) w 43 9 5 ad c l Try.underlying43 Try.underlying5 Try.underlying9 (fun j hj => ?_)
    obtain ⟨ad', e, _, hc⟩ := h (by omega)
    injection e with e
    subst e
    exact hc j hj

theorem lit_add (b j : Nat) : (⟨b, 0, none⟩ : Addr).add j = ⟨b, j, none⟩ := by unfold Addr.add; split <;> simp_all

/-- Nothing has turned but for the blocks of a set. -/
structure Fr (S : Nat → Prop) (w w' : World) : Prop where
  os : w'.os = w.os
  tape : w'.tape = w.tape
  output : w'.output = w.output
  size : w.heap.size ≤ w'.heap.size
  block : ∀ k, k < w.heap.size → ¬ S k → w'.heap[k]? = w.heap[k]?
section
variable {S T : Nat → Prop} {w w' w1 w2 : World}
theorem Fr.refl (S : Nat → Prop) (w : World) : Fr S w w := ⟨rfl, rfl, rfl, Nat.le_refl _, fun _ _ _ => rfl⟩
theorem Fr.trans (h : Fr S w w1) (k : Fr S w1 w2) : Fr S w w2 :=
  ⟨k.os.trans h.os, k.tape.trans h.tape, k.output.trans h.output, Nat.le_trans h.size k.size, fun i hi hs => (k.block i (Nat.lt_of_lt_of_le hi h.size) hs).trans (h.block i hi hs)⟩
theorem Fr.mono (h : Fr S w w1) (k : ∀ b, S b → T b) : Fr T w w1 := ⟨h.os, h.tape, h.output, h.size, fun i hi hs => h.block i hi fun x => hs (k i x)⟩
theorem Fr.of_below (h : Below w.heap.size w w1) : Fr S w w1 := ⟨h.os, h.tape, h.output, h.size, fun i hi _ => h.block i hi⟩
theorem Fr.below {B : Nat} (h : Fr S w w1) (hB : B ≤ w.heap.size) (hS : ∀ b, S b → B ≤ b) : Below B w w1 :=
  ⟨h.os, h.tape, h.output, h.size, fun i hi => h.block i (Nat.lt_of_lt_of_le hi hB) fun x => by have := hS i x; omega⟩
theorem Fr.set_ (h : Fr S w w1) {p : Addr} (hp : S p.block) (u : Value) : Fr S w (w1.setCell p u) :=
  h.trans ⟨rfl, rfl, rfl, by simp [World.setCell], fun k _ hk => Below.heap_setCell _ _ _ _ fun e => hk (e ▸ hp)⟩
theorem Fr.alloc (h : Fr S w w1) (o : Obj) : Fr S w (w1.alloc o) := h.trans ⟨rfl, rfl, rfl, by simp, fun k hk _ => Below.heap_alloc _ _ _ hk⟩
theorem Fr.drew (h : Fr S w w1) : Fr S w w1.drew := ⟨h.os, h.tape, h.output, h.size, h.block⟩
theorem setCells_size (b : Nat) : ∀ (vs : List Value) (o : Nat) (w : World), (w.setCells b o vs).heap.size = w.heap.size
  | [], _, _ => rfl
  | v :: r, o, w => by rw [World.setCells, setCells_size b r]; simp [World.setCell]
theorem setCells_heap (b : Nat) : ∀ (vs : List Value) (o : Nat) (w : World) (k : Nat), k ≠ b → (w.setCells b o vs).heap[k]? = w.heap[k]?
  | [], _, _, _, _ => rfl
  | v :: r, o, w, k, h => by rw [World.setCells, setCells_heap b r _ _ k h]; exact Below.heap_setCell _ _ _ _ h
theorem setCells_rest (b : Nat) : ∀ (vs : List Value) (o : Nat) (w : World), (w.setCells b o vs).os = w.os ∧ (w.setCells b o vs).tape = w.tape ∧ (w.setCells b o vs).output = w.output
  | [], _, _ => ⟨rfl, rfl, rfl⟩
  | v :: r, o, w => by rw [World.setCells]; exact setCells_rest b r _ _
theorem Fr.sets (h : Fr S w w1) {b : Nat} (hb : S b) (o : Nat) (vs : List Value) : Fr S w (w1.setCells b o vs) :=
  h.trans ⟨(setCells_rest b vs o w1).1, (setCells_rest b vs o w1).2.1, (setCells_rest b vs o w1).2.2, by rw [setCells_size]; exact Nat.le_refl _, fun k _ hk => setCells_heap b vs o w1 k fun e => hk (e ▸ hb)⟩
theorem Box.fr {g : Nat} {t : TypeId} {cs : Array Value} (h : Box w g t cs) (k : Fr S w w') (hg : ¬ S g) : Box w' g t cs := (k.block g h.lt hg).trans h
theorem Box.sets {g : Nat} {t : TypeId} {cs : Array Value} (h : Box w g t cs) {b : Nat} (hb : g ≠ b) (o : Nat) (vs : List Value) : Box (w.setCells b o vs) g t cs := (setCells_heap b vs o w g hb).trans h
theorem Lie.fr {A : Option Addr} {l : List UInt8} (h : Lie w A l) (k : Fr S w w') (hg : ∀ ad, A = some ad → ¬ S ad.block) : Lie w' A l := fun hl => by
  obtain ⟨ad, e, hlt, hc⟩ := h hl
  exact ⟨ad, e, Nat.lt_of_lt_of_le hlt k.size, fun j hj => (World.cell?_of_block (w := w) (a := ad.add j) (by rw [blk_add]; exact k.block _ hlt (hg ad e))).trans (hc j hj)⟩
theorem range_block {b o : Nat} {cs : List Value} (h : w.rangeAt b o cs) (k : w'.heap[b]? = w.heap[b]?) : w'.rangeAt b o cs := fun j v hv => (World.cell?_of_block (w := w) (a := ⟨b, o + j, none⟩) k).trans (h j v hv)
theorem there_block {b o n : Nat} (h : w.there b o n) (k : w'.heap[b]? = w.heap[b]?) : w'.there b o n := fun j hj => by
  rw [World.cell?_of_block (w := w) (a := ⟨b, o + j, none⟩) k, World.frozen?_of_block (w := w) (a := ⟨b, o + j, none⟩) k]
  exact h j hj
end

/-- Sectors in a block. -/
def Secs (w : World) (s : Nat) (L : List (List UInt8)) : Prop :=
  (∀ x ∈ L, x.length = 256) ∧ ∀ i (hi : i < L.length), w.rangeAt s (i * 256) (u8C L[i]) ∧ w.there s (i * 256) 256
section
variable {w w' : World} {s : Nat} {L : List (List UInt8)}
theorem Secs.block (h : Secs w s L) (k : w'.heap[s]? = w.heap[s]?) : Secs w' s L := ⟨h.1, fun i hi => ⟨range_block (h.2 i hi).1 k, there_block (h.2 i hi).2 k⟩⟩
theorem Secs.set_ (h : Secs w s L) {k : Nat} (_hk : k < L.length) {b : List UInt8} (hb : b.length = 256) : Secs (w.setCells s (k * 256) (u8C b)) s (L.set k b) := by
  refine ⟨fun x hx => ?_, fun i hi => ⟨?_, World.there_setCells (h.2 i (by simpa using hi)).2 _ _ _⟩⟩
  · rcases List.mem_or_eq_of_mem_set hx with hx | rfl
    · exact h.1 x hx
    · exact hb
  · have hi' : i < L.length := by simpa using hi
    rw [List.getElem_set]
    split
    · next e =>
      subst e
      exact World.rangeAt_setCells_same _ _ _ _ (by rw [u8C_length, hb]; exact (h.2 k hi').2)
    · next e =>
      have hl := h.1 _ (List.getElem_mem hi')
      exact World.rangeAt_setCells_apart (h.2 i hi').1 _ _ _ (by rw [u8C_length, u8C_length, hl, hb]; omega)
end

/-- A disk at a block, its sectors at another one. -/
def Dk (w : World) (g s : Nat) (d : Dsk) : Prop :=
  (∃ cap, Box w g 66 #[.slice (some ⟨s, 0, none⟩) d.L.length cap, .bool d.on, .int .i64 d.left, .int .i64 d.wr] ∧ d.L.length ≤ cap ∧ cap ≤ maxLen) ∧ g ≠ s ∧ s < w.heap.size ∧ Secs w s d.L
def Two (g s : Nat) : Nat → Prop := fun k => k = g ∨ k = s
section
variable {w w' : World} {g s : Nat} {d : Dsk}
theorem Dk.lt (h : Dk w g s d) : g < w.heap.size ∧ s < w.heap.size := by
  obtain ⟨⟨cap, hx, _⟩, _, hs, _⟩ := h
  exact ⟨hx.lt, hs⟩
theorem Dk.fr {S : Nat → Prop} (h : Dk w g s d) (k : Fr S w w') (hg : ¬ S g) (hs : ¬ S s) : Dk w' g s d := by
  obtain ⟨⟨cap, hx, hc⟩, hn, hl, hse⟩ := h
  exact ⟨⟨cap, hx.fr k hg, hc⟩, hn, Nat.lt_of_lt_of_le hl k.size, hse.block (k.block s hl hs)⟩
theorem Dk.drew_ (h : Dk w g s d) : Dk w.drew g s d := h.fr (S := fun _ => False) (Fr.refl _ w).drew id id
theorem Dk.below (h : Dk w g s d) (k : Below w.heap.size w w') : Dk w' g s d := h.fr (S := fun _ => False) (Fr.of_below k) id id
end
end Go.Proofs.Ytkklplccngdalaa.Dk
