/-
  In a seat whose program prints no trees: what layer 2's texts of names take of the texts of printing.
-/
import Derived.Test.YtohljihndoodfaaDoorExC
import Derived.RegionTactic
import Derived.BigRegion
import Derived.Deep.RegionWith
import Derived.Deep.RegionHeld3
namespace Go.Proofs.YtohljihndoodfaaDoor.Lx
open Go.RowKit Ep
def Box (w : World) (g : Nat) (t : TypeId) (cs : Array Value) : Prop := w.heap[g]? = some (.cells cs t (0, 0))
theorem Box.cell {w : World} {g : Nat} {t : TypeId} {cs : Array Value} (h : Box w g t cs) (i : Nat) : w.cell? ⟨g, i, none⟩ = cs[i]? := cell_of_row w g i cs t (0, 0) h
theorem Box.frozen {w : World} {g : Nat} {t : TypeId} {cs : Array Value} (h : Box w g t cs) (i : Nat) : w.frozen? ⟨g, i, none⟩ = false := by
  unfold Box at h
  simp [World.frozen?, h]
theorem Box.new (w : World) (t : TypeId) (cs : Array Value) : Box (w.alloc (.cells cs t)) w.heap.size t cs := heap_alloc_new w _
theorem Box.below {w w' : World} {g B : Nat} {t : TypeId} {cs : Array Value} (h : Box w g t cs) (hb : Below B w w') (hg : g < B) : Box w' g t cs := (hb.block g hg).trans h

/-- What a walk wants of a box of four cells. -/
theorem Box.four {w : World} {g : Nat} {t : TypeId} {a b c d : Value} (h : Box w g t #[a, b, c, d]) :
    w.cell? ⟨g, 0, none⟩ = some a ∧ w.cell? ⟨g, 1, none⟩ = some b ∧ w.cell? ⟨g, 2, none⟩ = some c ∧ w.cell? ⟨g, 3, none⟩ = some d ∧
    w.frozen? ⟨g, 0, none⟩ = false ∧ w.frozen? ⟨g, 1, none⟩ = false ∧ w.frozen? ⟨g, 2, none⟩ = false ∧ w.frozen? ⟨g, 3, none⟩ = false :=
  ⟨h.cell 0, h.cell 1, h.cell 2, h.cell 3, h.frozen 0, h.frozen 1, h.frozen 2, h.frozen 3⟩

theorem below_new {w w1 : World} {o : Obj} (hb : Below (w.alloc o).heap.size (w.alloc o) w1) : Below w.heap.size w w1 :=
  ((Below.refl _ w).alloc (Nat.le_refl _) o).trans (hb.mono (by simp))
theorem Box.lt {w : World} {g : Nat} {t : TypeId} {cs : Array Value} (h : Box w g t cs) : g < w.heap.size := (Array.getElem?_eq_some_iff.1 h).1
theorem Box.set4 {w : World} {g : Nat} {t : TypeId} {a b c d : Value} (h : Box w g t #[a, b, c, d]) (x0 x1 x2 x3 : Value) :
    Box ((((w.setCell ⟨g, 0, none⟩ x0).setCell ⟨g, 1, none⟩ x1).setCell ⟨g, 2, none⟩ x2).setCell ⟨g, 3, none⟩ x3) g t #[x0, x1, x2, x3] := by
  unfold Box at h ⊢
  simp [World.setCell, Array.getElem?_modify, h]
theorem Box.off4 {w : World} {g q : Nat} {t : TypeId} {cs : Array Value} (h : Box w g t cs) (hn : g ≠ q) (x0 x1 x2 x3 : Value) :
    Box ((((w.setCell ⟨q, 0, none⟩ x0).setCell ⟨q, 1, none⟩ x1).setCell ⟨q, 2, none⟩ x2).setCell ⟨q, 3, none⟩ x3) g t cs := by
  unfold Box at h ⊢
  rw [Below.heap_setCell _ _ _ _ hn, Below.heap_setCell _ _ _ _ hn, Below.heap_setCell _ _ _ _ hn, Below.heap_setCell _ _ _ _ hn]
  exact h
theorem Box.alloc {w : World} {g : Nat} {t : TypeId} {cs : Array Value} (h : Box w g t cs) (o : Obj) : Box (w.alloc o) g t cs := (Below.heap_alloc _ _ _ h.lt).trans h
theorem Box.drew {w : World} {g : Nat} {t : TypeId} {cs : Array Value} (h : Box w g t cs) : Box w.drew g t cs := h
end Go.Proofs.YtohljihndoodfaaDoor.Lx
namespace Go.Proofs.YtohljihndoodfaaDoor.Ep
open Go.RowKit Lx
mutual
/-- A tree's blocks are there. -/
theorem TreeV.within1 {lo : Nat → Prop} {w : World} : ∀ {t : Ex} {v : Value}, TreeV lo w t v → TreeV (fun k => lo k ∧ k < w.heap.size) w t v
  | .mk op n nm ks, v => by
    unfold TreeV
    rintro ⟨a, cap, e, hc, hk⟩
    refine ⟨a, cap, e, hc, fun hne => ?_⟩
    obtain ⟨g, off, ha, h1, h2, h3⟩ := hk hne
    exact ⟨g, off, ha, ⟨h1, h2⟩, h2, TreeL.within1 g off ks h3⟩
theorem TreeL.within1 {lo : Nat → Prop} {w : World} (g : Nat) : ∀ (off : Nat) (ks : List Ex), TreeL lo w g off ks → TreeL (fun k => lo k ∧ k < w.heap.size) w g off ks
  | off, [] => by unfold TreeL; exact id
  | off, k :: ks => by
    unfold TreeL
    rintro ⟨⟨a, cap, c0, c1, c2, c3, ht⟩, hr⟩
    exact ⟨⟨a, cap, c0, c1, c2, c3, TreeV.within1 ht⟩, TreeL.within1 g _ ks hr⟩
end
end Go.Proofs.YtohljihndoodfaaDoor.Ep
