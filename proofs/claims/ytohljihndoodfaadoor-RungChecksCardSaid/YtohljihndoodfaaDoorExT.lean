/-
  Trees and the table of operators in memory.
-/
import Derived.Test.YtohljihndoodfaaDoorExM
import Derived.Test.YtohljihndoodfaaDoorLexW3
import Derived.Deep.QuietTactic
import Derived.BigQuiet
import Derived.Lib.Hide
import Derived.Laws.Rows
namespace Go.Proofs.YtohljihndoodfaaDoor.Ep
open Go.RowKit Lx

theorem _root_.Go.RowKit.Below.drewN {B : Nat} {a w : World} (h : Below B a w) (n : Nat) : Below B a (w.drewN n) := ⟨h.os, h.tape, h.output, h.size, h.block⟩

/-- The cells of the table of operators. -/
def opsC : Array Value := (opsT.flatMap fun o => [.string ⟨o.1.toArray⟩, .int .i64 o.2.1, .int .i64 o.2.2]).toArray
theorem opsC_at (k : Nat) (h : k < 17) : opsC[k * 3]? = some (.string ⟨(opS k).toArray⟩) ∧ opsC[k * 3 + 1]? = some (.int .i64 (opL k)) ∧ opsC[k * 3 + 2]? = some (.int .i64 (opK k)) := by
  have : k = 0 ∨ k = 1 ∨ k = 2 ∨ k = 3 ∨ k = 4 ∨ k = 5 ∨ k = 6 ∨ k = 7 ∨ k = 8 ∨ k = 9 ∨ k = 10 ∨ k = 11 ∨ k = 12 ∨ k = 13 ∨ k = 14 ∨ k = 15 ∨ k = 16 := by omega
  rcases this with rfl | rfl | rfl | rfl | rfl | rfl | rfl | rfl | rfl | rfl | rfl | rfl | rfl | rfl | rfl | rfl | rfl <;> exact ⟨rfl, rfl, rfl⟩

/-- The table of operators lies where the program lays it. -/
structure Ops (w : World) : Prop where
  blk : ∃ T fz, w.heap[0]? = some (.cells opsC T fz)
theorem Ops.lt {w : World} (h : Ops w) : 0 < w.heap.size := by
  obtain ⟨T, fz, hb⟩ := h.blk
  exact (Array.getElem?_eq_some_iff.1 hb).1
theorem Ops.s {w : World} (h : Ops w) (k : Nat) (hk : k < 17) : w.cell? ⟨0, k * 3, none⟩ = some (.string ⟨(opS k).toArray⟩) := by
  obtain ⟨T, fz, hb⟩ := h.blk
  rw [cell_of_row w _ _ _ _ _ hb]; exact (opsC_at k hk).1
theorem Ops.l {w : World} (h : Ops w) (k : Nat) (hk : k < 17) : w.cell? ⟨0, k * 3 + 1, none⟩ = some (.int .i64 (opL k)) := by
  obtain ⟨T, fz, hb⟩ := h.blk
  rw [cell_of_row w _ _ _ _ _ hb]; exact (opsC_at k hk).2.1
theorem Ops.k {w : World} (h : Ops w) (k : Nat) (hk : k < 17) : w.cell? ⟨0, k * 3 + 2, none⟩ = some (.int .i64 (opK k)) := by
  obtain ⟨T, fz, hb⟩ := h.blk
  rw [cell_of_row w _ _ _ _ _ hb]; exact (opsC_at k hk).2.2
theorem Ops.of {w w' : World} (h : Ops w) (_hs : w.heap.size ≤ w'.heap.size) (hb : w'.heap[0]? = w.heap[0]?) : Ops w' := by
  obtain ⟨T, fz, hk⟩ := h.blk
  exact ⟨T, fz, hb.trans hk⟩
theorem Ops.below {w w' : World} (h : Ops w) {B : Nat} (hb : Below B w w') (hB : 0 < B) : Ops w' := h.of hb.size (hb.block _ hB)
theorem Ops.alloc {w : World} (h : Ops w) (o : Obj) : Ops (w.alloc o) := h.of (by simp) (Below.heap_alloc _ _ _ h.lt)

/-- The cells of a tree's root. -/
def exV (op n : Int) (nm : List UInt8) (a : Option Addr) (len cap : Nat) : Value := .agg #[.int .i64 op, .int .i64 n, .string ⟨nm.toArray⟩, .slice a len cap]

mutual
/-- A value is a tree, whose operands lie in blocks of the set lo. -/
def TreeV (lo : Nat → Prop) (w : World) : Ex → Value → Prop
  | .mk op n nm ks, v => ∃ a cap, v = exV op n nm a ks.length cap ∧ ks.length ≤ cap ∧ (ks ≠ [] → ∃ g off, a = some ⟨g, off, none⟩ ∧ lo g ∧ g < w.heap.size ∧ TreeL lo w g off ks)
def TreeL (lo : Nat → Prop) (w : World) (g : Nat) : Nat → List Ex → Prop
  | _, [] => True
  | off, k :: ks => (∃ a cap, w.cell? ⟨g, off, none⟩ = some (.int .i64 k.op) ∧ w.cell? ⟨g, off + 1, none⟩ = some (.int .i64 k.n) ∧ w.cell? ⟨g, off + 2, none⟩ = some (.string ⟨k.name.toArray⟩) ∧
      w.cell? ⟨g, off + 3, none⟩ = some (.slice a k.kids.length cap) ∧ TreeV lo w k (exV k.op k.n k.name a k.kids.length cap)) ∧ TreeL lo w g (off + 4) ks
end

mutual
theorem TreeV.keep {lo : Nat → Prop} {w w' : World} (hs : w.heap.size ≤ w'.heap.size) (hb : ∀ k, lo k → k < w.heap.size → w'.heap[k]? = w.heap[k]?) :
    ∀ (t : Ex) (v : Value), TreeV lo w t v → TreeV lo w' t v
  | .mk op n nm ks, v => by
    unfold TreeV
    rintro ⟨a, cap, e, hc, hk⟩
    refine ⟨a, cap, e, hc, fun hne => ?_⟩
    obtain ⟨g, off, ha, h1, h2, h3⟩ := hk hne
    exact ⟨g, off, ha, h1, Nat.lt_of_lt_of_le h2 hs, TreeL.keep hs hb g h1 h2 off ks h3⟩
theorem TreeL.keep {lo : Nat → Prop} {w w' : World} (hs : w.heap.size ≤ w'.heap.size) (hb : ∀ k, lo k → k < w.heap.size → w'.heap[k]? = w.heap[k]?) (g : Nat) (h1 : lo g) (h2 : g < w.heap.size) :
    ∀ (off : Nat) (ks : List Ex), TreeL lo w g off ks → TreeL lo w' g off ks
  | off, [] => by unfold TreeL; exact id
  | off, k :: ks => by
    unfold TreeL
    rintro ⟨⟨a, cap, c0, c1, c2, c3, ht⟩, hr⟩
    have hc : ∀ o, w'.cell? ⟨g, o, none⟩ = w.cell? ⟨g, o, none⟩ := fun o => World.cell?_of_block (w := w) (hb g h1 h2)
    exact ⟨⟨a, cap, (hc _).trans c0, (hc _).trans c1, (hc _).trans c2, (hc _).trans c3, TreeV.keep hs hb k _ ht⟩, TreeL.keep hs hb g h1 h2 _ ks hr⟩
end
mutual
theorem TreeV.low {lo lo' : Nat → Prop} {w : World} (hl : ∀ k, lo k → lo' k) : ∀ (t : Ex) (v : Value), TreeV lo w t v → TreeV lo' w t v
  | .mk op n nm ks, v => by
    unfold TreeV
    rintro ⟨a, cap, e, hc, hk⟩
    refine ⟨a, cap, e, hc, fun hne => ?_⟩
    obtain ⟨g, off, ha, h1, h2, h3⟩ := hk hne
    exact ⟨g, off, ha, hl g h1, h2, TreeL.low hl g off ks h3⟩
theorem TreeL.low {lo lo' : Nat → Prop} {w : World} (hl : ∀ k, lo k → lo' k) (g : Nat) : ∀ (off : Nat) (ks : List Ex), TreeL lo w g off ks → TreeL lo' w g off ks
  | off, [] => by unfold TreeL; exact id
  | off, k :: ks => by
    unfold TreeL
    rintro ⟨⟨a, cap, c0, c1, c2, c3, ht⟩, hr⟩
    exact ⟨⟨a, cap, c0, c1, c2, c3, TreeV.low hl k _ ht⟩, TreeL.low hl g _ ks hr⟩
end
theorem TreeV.below {lo : Nat → Prop} {B : Nat} {w w' : World} {t : Ex} {v : Value} (h : TreeV lo w t v) (hb : Below B w w') (hB : w.heap.size ≤ B) : TreeV lo w' t v :=
  TreeV.keep hb.size (fun k _ hk => hb.block k (Nat.lt_of_lt_of_le hk hB)) t v h
theorem TreeV.alloc {lo : Nat → Prop} {w : World} {t : Ex} {v : Value} (h : TreeV lo w t v) (o : Obj) : TreeV lo (w.alloc o) t v :=
  TreeV.keep (by simp) (fun k _ hk => Below.heap_alloc _ _ _ hk) t v h

/-- Operand i of a row of trees. -/
theorem TreeL.at_ {lo : Nat → Prop} {w : World} {g : Nat} : ∀ (ks : List Ex) (off i : Nat) (hi : i < ks.length), TreeL lo w g off ks →
    ∃ a cap, w.cell? ⟨g, off + i * 4, none⟩ = some (.int .i64 (ks[i]).op) ∧ w.cell? ⟨g, off + i * 4 + 1, none⟩ = some (.int .i64 (ks[i]).n) ∧ w.cell? ⟨g, off + i * 4 + 2, none⟩ = some (.string ⟨(ks[i]).name.toArray⟩) ∧
      w.cell? ⟨g, off + i * 4 + 3, none⟩ = some (.slice a (ks[i]).kids.length cap) ∧ TreeV lo w (ks[i]) (exV (ks[i]).op (ks[i]).n (ks[i]).name a (ks[i]).kids.length cap)
  | [], _, i, hi, _ => by simp at hi
  | k :: ks, off, 0, _, h => by
    unfold TreeL at h
    obtain ⟨⟨a, cap, c0, c1, c2, c3, ht⟩, _⟩ := h
    exact ⟨a, cap, by simpa using c0, by simpa using c1, by simpa using c2, by simpa using c3, ht⟩
  | k :: ks, off, i + 1, hi, h => by
    unfold TreeL at h
    obtain ⟨a, cap, c0, c1, c2, c3, ht⟩ := TreeL.at_ ks (off + 4) i (by simpa using hi) h.2
    have e : off + 4 + i * 4 = off + (i + 1) * 4 := by omega
    rw [e] at c0 c1 c2 c3
    exact ⟨a, cap, c0, c1, c2, c3, ht⟩
theorem TreeV.open {lo : Nat → Prop} {w : World} {t : Ex} {v : Value} (h : TreeV lo w t v) : ∃ a cap, v = exV t.op t.n t.name a t.kids.length cap ∧ t.kids.length ≤ cap ∧ (t.kids ≠ [] → ∃ g off, a = some ⟨g, off, none⟩ ∧ lo g ∧ g < w.heap.size ∧ TreeL lo w g off t.kids) := by
  cases t
  unfold TreeV at h
  exact h

theorem inT_iff (op : Int) : inT op = true ↔ 0 ≤ op ∧ op < 17 := by simp [inT]
theorem opL_bd (k : Nat) (h : k < 17) : 0 ≤ opL k ∧ opL k ≤ 5 := by
  have : ∀ k : Fin 17, 0 ≤ opL (k.val : Int) ∧ opL (k.val : Int) ≤ 5 := by decide
  exact this ⟨k, h⟩
theorem opK_bd (k : Nat) (h : k < 17) : 0 ≤ opK k ∧ opK k ≤ 2 := by
  have : ∀ k : Fin 17, 0 ≤ opK (k.val : Int) ∧ opK (k.val : Int) ≤ 2 := by decide
  exact this ⟨k, h⟩

set_option maxHeartbeats 1000000 in
theorem encl_in (o : Nat) (n : Int) (nm : ByteArray) (g off len cap i kid : Nat) (w : World) (hO : Ops w) (h : w.cell? ⟨g, off + i * 4, none⟩ = some (.int .i64 kid)) (hg : g < w.heap.size) (hi : i < len) (_hlen : len ≤ 1000) (ho : o < 17) (hk : kid < 17) :
    Calls Tryd.prog 41 #[.agg #[.int .i64 o, .int .i64 n, .string nm, .slice (some ⟨g, off, none⟩) len cap], .int .i64 i] w fun e w' => e = .returned (.bool (enclB o kid i)) ∧ Below w.heap.size w w' := by
  have hG := hO.lt
  have h1 := hO.l o ho
  have h2 := hO.l kid hk
  have b1 := opL_bd o ho
  have b2 := opL_bd kid hk
  have HK : Hid (enclB o kid i = (decide (opL kid < opL o) || (decide (opL kid = opL o) && (decide (i = 1) || decide (opL o = 2))))) := by
    unfold Hid enclB; rw [(inT_iff _).2 ⟨by omega, by omega⟩]; rfl
  generalize opL (o : Int) = x at *
  generalize opL (kid : Int) = y at *
  clear hO
  go_enter Tryd.func41, Tryd.ntmps41
  go_wp2
  go_quiet (fail)
  go_wp2
  all_goals go_ret
  all_goals refine ⟨ret_bool ?_, (((Below.refl _ _).alloc (Nat.le_refl _) _).drewN _)⟩
  all_goals (rw [HK.out, Bool.eq_iff_iff]; simp only [Bool.or_eq_true, Bool.and_eq_true, decide_eq_true_eq, beq_iff_eq, true_iff]; omega)

set_option maxHeartbeats 1000000 in
theorem encl_out (op n : Int) (nm : ByteArray) (g off len cap i : Nat) (kid : Int) (w : World) (h : w.cell? ⟨g, off + i * 4, none⟩ = some (.int .i64 kid)) (hg : g < w.heap.size) (hi : i < len) (_hlen : len ≤ 1000) (hk : kid < 0 ∨ 17 ≤ kid) :
    Calls Tryd.prog 41 #[.agg #[.int .i64 op, .int .i64 n, .string nm, .slice (some ⟨g, off, none⟩) len cap], .int .i64 i] w fun e w' => e = .returned (.bool (enclB op kid i)) ∧ Below w.heap.size w w' := by
  have HK : Hid (enclB op kid i = false) := by
    have : inT kid = false := by simp [inT]; omega
    unfold Hid enclB; rw [this]; rfl
  rcases hk with hk | hk
  · go_enter Tryd.func41, Tryd.ntmps41
    go_wp2
    go_ret
    exact ⟨ret_bool HK.out.symm, (Below.refl _ _).alloc (Nat.le_refl _) _⟩
  · have hk0 : ¬ kid < 0 := by omega
    go_enter Tryd.func41, Tryd.ntmps41
    go_wp2
    go_ret
    exact ⟨ret_bool HK.out.symm, (Below.refl _ _).alloc (Nat.le_refl _) _⟩

theorem encl_any (op n : Int) (nm : ByteArray) (g off len cap i : Nat) (kid : Int) (w : World) (hO : Ops w) (h : w.cell? ⟨g, off + i * 4, none⟩ = some (.int .i64 kid)) (hg : g < w.heap.size) (hi : i < len) (hlen : len ≤ 1000) (ho : inT op = true) :
    Calls Tryd.prog 41 #[.agg #[.int .i64 op, .int .i64 n, .string nm, .slice (some ⟨g, off, none⟩) len cap], .int .i64 i] w fun e w' => e = .returned (.bool (enclB op kid i)) ∧ Below w.heap.size w w' := by
  obtain ⟨ho1, ho2⟩ := (inT_iff _).1 ho
  by_cases hk : kid < 0 ∨ 17 ≤ kid
  · exact encl_out op n nm g off len cap i kid w h hg hi hlen hk
  · obtain ⟨o, rfl⟩ := Int.eq_ofNat_of_zero_le ho1
    obtain ⟨k, rfl⟩ := Int.eq_ofNat_of_zero_le (show 0 ≤ kid by omega)
    exact encl_in o n nm g off len cap i k w hO h hg hi hlen (by omega) (by omega)
end Go.Proofs.YtohljihndoodfaaDoor.Ep
