/-
  Memory's words for layer 10: a block that is known whole, a row of ints, the tables.
-/
import Derived.Test.YtadindhnaidmeaaDoorProg
import Derived.Test.YtadindhnaidmeaaDoorChM
import Derived.WalkKit
import Derived.WalkSpells
import Derived.WalkLawsBesides
import Derived.Outline
import Derived.Lib.Hide
import Derived.Deep.AppendLies
import Derived.Deep.Draws
namespace Go.Proofs.YtadindhnaidmeaaDoor.Ch
open Go.RowKit

theorem ret_bool {a b : Bool} (h : a = b) : Ending.returned (.bool a) = .returned (.bool b) := by rw [h]
theorem ret_int {k : IntKind} {a b : Int} (h : a = b) : Ending.returned (.int k a) = .returned (.int k b) := by rw [h]
theorem ret_pair {a b : Int} {c d : Bool} (h : (a, c) = (b, d)) : Ending.returned (.tuple #[.int .i64 a, .bool c]) = .returned (.tuple #[.int .i64 b, .bool d]) := by
  injection h with h1 h2; rw [h1, h2]

theorem nat_u16 (a : Nat) (ha : a < 65536) : (BitVec.ofInt 16 (a : Int)).toNat = a := by
  rw [BitVec.ofInt_natCast, BitVec.toNat_ofNat]; exact Nat.mod_eq_of_lt (by omega)
theorem wrap_u16 (a : Nat) (ha : a < 65536) : IntKind.u16.wrap (a : Int) = (a : Int) := by
  have hm : (a : Int) % 65536 = (a : Int) := Int.emod_eq_of_lt (by omega) (by omega)
  show (if (IntKind.u16.signed && decide ((a : Int) % 65536 ≥ 32768)) = true then (a : Int) % 65536 - 65536 else (a : Int) % 65536) = _
  rw [hm, if_neg (by simp [IntKind.signed])]
theorem bits_and_u16 (a b : Nat) (ha : a < 65536) (hb : b < 65536) : bits .and .u16 (a : Int) (b : Int) = ((a &&& b : Nat) : Int) := by
  show IntKind.u16.wrap ((BitVec.ofInt 16 (a : Int) &&& BitVec.ofInt 16 (b : Int)).toNat : Int) = _
  rw [BitVec.toNat_and, nat_u16 a ha, nat_u16 b hb, wrap_u16 _ (Nat.lt_of_le_of_lt Nat.and_le_left ha)]
theorem bits_or_u16 (a b : Nat) (ha : a < 65536) (hb : b < 65536) : bits .or .u16 (a : Int) (b : Int) = ((a ||| b : Nat) : Int) := by
  show IntKind.u16.wrap ((BitVec.ofInt 16 (a : Int) ||| BitVec.ofInt 16 (b : Int)).toNat : Int) = _
  rw [BitVec.toNat_or, nat_u16 a ha, nat_u16 b hb, wrap_u16 _ (Nat.or_lt_two_pow (n := 16) ha hb)]
theorem has_bit (n k d : Nat) (hd : d = 2 ^ k) (hn : n < 65536) : (bits .and .u16 ((n : Int) / (d : Int)) 1 == 1) = n.testBit k := by
  have e : (n : Int) / (d : Int) = ((n / d : Nat) : Int) := rfl
  have hq : n / d < 65536 := Nat.lt_of_le_of_lt (Nat.div_le_self _ _) hn
  rw [e, show (1 : Int) = ((1 : Nat) : Int) from rfl, bits_and_u16 _ _ hq (by omega), Nat.and_one_is_mod, Nat.testBit_eq_decide_div_mod_eq, ← hd, Bool.eq_iff_iff, beq_iff_eq, decide_eq_true_iff]
  omega
theorem has_bit0 (n : Nat) (hn : n < 65536) : (bits .and .u16 (n : Int) 1 == 1) = n.testBit 0 := by
  have := has_bit n 0 1 rfl hn
  rwa [show ((1 : Nat) : Int) = 1 from rfl, Int.ediv_one] at this

/-- A block whose cells are known. -/
def Blk (w : World) (g : Nat) (cs : Array Value) : Prop := ∃ T fz, w.heap[g]? = some (.cells cs T fz)
section
variable {w w' : World} {g : Nat} {cs : Array Value}
theorem Blk.lt (h : Blk w g cs) : g < w.heap.size := by obtain ⟨T, fz, h⟩ := h; exact (Array.getElem?_eq_some_iff.1 h).1
theorem Blk.cell (h : Blk w g cs) (i : Nat) : w.cell? ⟨g, i, none⟩ = cs[i]? := by obtain ⟨T, fz, h⟩ := h; exact cell_of_row w g i cs T fz h
theorem Blk.below {B : Nat} (h : Blk w g cs) (hb : Below B w w') (hg : g < B) : Blk w' g cs := by obtain ⟨T, fz, h⟩ := h; exact ⟨T, fz, (hb.block g hg).trans h⟩
theorem Blk.to (h : Blk w g cs) (hb : Below w.heap.size w w') : Blk w' g cs := h.below hb h.lt
theorem Blk.new (w : World) (t : TypeId) (cs : Array Value) : Blk (w.alloc (.cells cs t)) w.heap.size cs := ⟨t, (0, 0), heap_alloc_new w _⟩
end
theorem below_new {w w1 : World} {o : Obj} (hb : Below (w.alloc o).heap.size (w.alloc o) w1) : Below w.heap.size w w1 :=
  ((Below.refl _ w).alloc (Nat.le_refl _) o).trans (hb.mono (by simp))

def tgtC : Array Value := #[.int .i64 1, .int .u16 1, .int .i64 2, .int .u16 2, .int .i64 1, .int .u16 8, .int .i64 4, .int .u16 78, .int .i64 6, .int .u16 32, .int .i64 7, .int .u16 126, .int .i64 9, .int .u16 254, .int .i64 0, .int .u16 3328]
def endZ : List Int := [0, 11, 3, 0, 5, 0, 1, 8, 0, 10, 0, 0]
def endC : Array Value := (endZ.map fun z => Value.int .i64 z).toArray
def priC : Array Value := (orderL.map fun z => Value.int .i64 z).toArray
def namC : Array Value := (nameL.map fun s => Value.string ⟨s.toArray⟩).toArray
def worC : Array Value := (wordL.map fun s => Value.string ⟨s.toArray⟩).toArray
/-- The three tables that every law reaches. -/
structure Tabs (w : World) : Prop where
  tgt : Blk w 0 tgtC
  pri : Blk w 2 priC
  nam : Blk w 3 namC
theorem Tabs.to {w w' : World} (h : Tabs w) (hb : Below w.heap.size w w') : Tabs w' := ⟨h.tgt.to hb, h.pri.to hb, h.nam.to hb⟩
def Ends (w : World) : Prop := Blk w 1 endC
def Words (w : World) : Prop := Blk w 4 worC
theorem Ends.to {w w' : World} (h : Ends w) (hb : Below w.heap.size w w') : Ends w' := Blk.to h hb
theorem Words.to {w w' : World} (h : Words w) (hb : Below w.heap.size w w') : Words w' := Blk.to h hb

/-- A slice's address at which these numbers lie. -/
def Nums (w : World) (A : Option Addr) (l : List Int) : Prop :=
  0 < l.length → ∃ g off, A = some ⟨g, off, none⟩ ∧ g < w.heap.size ∧ ∀ j (hj : j < l.length), w.cell? ⟨g, off + j, none⟩ = some (.int .i64 l[j])
section
variable {w w' : World} {A : Option Addr} {l : List Int}
theorem Nums.to (h : Nums w A l) (hb : Below w.heap.size w w') : Nums w' A l := fun hl => by
  obtain ⟨g, off, e, hlt, hc⟩ := h hl
  exact ⟨g, off, e, Nat.lt_of_lt_of_le hlt hb.size, fun j hj => (hb.cell (p := ⟨g, off + j, none⟩) hlt).trans (hc j hj)⟩
theorem Nums.at_ (h : Nums w A l) {k : Nat} (hk : k < l.length) : ∃ g off, A = some ⟨g, off, none⟩ ∧ g < w.heap.size ∧ w.cell? ⟨g, off + k, none⟩ = some (.int .i64 l[k]) := by
  obtain ⟨g, off, e, hlt, hc⟩ := h (by omega)
  exact ⟨g, off, e, hlt, hc k hk⟩
end
end Go.Proofs.YtadindhnaidmeaaDoor.Ch
