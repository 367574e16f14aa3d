/-
  The contract of the document's own Same, at two trees that are the same.
-/
import Derived.Test.YtinocaggponpmaaGreatDoorExF
import Derived.Test.YtinocaggponpmaaGreatDoorExP8
import Derived.Test.YtinocaggponpmaaGreatDoorLexW5
import Derived.Deep.RegionHeld
namespace Go.Proofs.YtinocaggponpmaaGreatDoor.Ep
open Go.RowKit Lx

theorem box_a (w : World) (o : Obj) (t : TypeId) (cs : Array Value) : Box ((w.alloc (.cells cs t)).alloc o) w.heap.size t cs := (Below.heap_alloc _ _ _ (by simp)).trans (Box.new w t cs)
theorem box_b (w : World) (o : Obj) (t : TypeId) (cs : Array Value) : Box ((w.alloc o).alloc (.cells cs t)) (w.heap.size + 1) t cs := by
  have h := Box.new (w.alloc o) t cs
  have e : (w.alloc o).heap.size = w.heap.size + 1 := by simp
  rw [e] at h
  exact h
def SameRel (la lb : Array Value) (len : Nat) (w : World) (i : Value) (wr : World) : Prop :=
  ∃ k : Nat, i = .int .i64 (k : Int) ∧ k ≤ len ∧ Box wr w.heap.size 25 la ∧ Box wr (w.heap.size + 1) 25 lb ∧ Below w.heap.size w wr
def SamePost (w : World) (e : Ending) (w' : World) : Prop := e = .returned (.bool true) ∧ Below w.heap.size w w'

set_option maxRecDepth 100000 in
set_option maxHeartbeats 8000000 in
theorem same_any (t : Ex) : ∀ (lo lo' : Nat → Prop) (v v' : Value) (w : World), k2E t → TreeV lo w t v → TreeV lo' w t v' → Calls Tryz.prog 9 #[v, v'] w (SamePost w) := by
  induction t using Ex.ind with
  | h op n nm ks ih =>
    intro lo lo' v v' w hk2 hT hT'
    have IH := Lib.hid ih
    clear ih
    unfold TreeV at hT hT'
    obtain ⟨a, cap, rfl, hcap, hk⟩ := hT
    obtain ⟨a', cap', rfl, hcap', hk'⟩ := hT'
    rw [k2E] at hk2
    have hlen2 : ks.length ≤ 2 := hk2.1
    have HK2 := Lib.hid (k2L_all ks hk2.2)
    have HK := Lib.hid hk
    have HK' := Lib.hid hk'
    clear hk hk' hk2
    generalize hL : ks.length = len at *
    have HL := Lib.hid hL
    clear hL
    unfold exV
    go_enter Tryz.func9, Tryz.ntmps9
    go_wp2_with fail
    go_loopw [5] (SameRel #[.int .i64 op, .int .i64 n, .string ⟨nm.toArray⟩, .slice a len cap] #[.int .i64 op, .int .i64 n, .string ⟨nm.toArray⟩, .slice a' len cap'] len w) (fun i _ => len - (intOf i).toNat)
    case atStart => exact ⟨0, rfl, by omega, box_a _ _ _ _, box_b _ _ _ _, ((Below.refl _ w).alloc (Nat.le_refl _) _).alloc (by simp) _⟩
    case round =>
      obtain ⟨k, rfl, hkl, hx, hy, hbw⟩ := hrel
      have x3 : wr.cell? ⟨w.heap.size, 3, none⟩ = some (.slice a len cap) := hx.cell 3
      have y3 : wr.cell? ⟨w.heap.size + 1, 3, none⟩ = some (.slice a' len cap') := hy.cell 3
      by_cases hlt : k < len
      · have hne : ks ≠ [] := by intro e; have := HL.out; rw [e] at this; simp at this; omega
        have hki : k < ks.length := by rw [HL.out]; exact hlt
        obtain ⟨g, off, rfl, hg1, hg2, hTL⟩ := HK.out hne
        obtain ⟨g', off', rfl, hg1', hg2', hTL'⟩ := HK'.out hne
        have hTr := TreeL.keep (w' := wr) hbw.size (fun b _ hb => hbw.block b hb) g hg1 hg2 off ks hTL
        have hTr' := TreeL.keep (w' := wr) hbw.size (fun b _ hb => hbw.block b hb) g' hg1' hg2' off' ks hTL'
        obtain ⟨ka, kcap, c0, c1, c2, c3, hkt⟩ := TreeL.at_ ks off k hki hTr
        obtain ⟨ka', kcap', d0, d1, d2, d3, hkt'⟩ := TreeL.at_ ks off' k hki hTr'
        have hIH := Lib.hid (IH.out (ks[k]) (List.getElem_mem hki))
        have hK2 := Lib.hid (HK2.out (ks[k]) (List.getElem_mem hki))
        have hgr : g < wr.heap.size := Nat.lt_of_lt_of_le hg2 hbw.size
        have hgr' : g' < wr.heap.size := Nat.lt_of_lt_of_le hg2' hbw.size
        have hxl : w.heap.size < wr.heap.size := by have := (Array.getElem?_eq_some_iff.1 hx).1; exact this
        have hyl : w.heap.size + 1 < wr.heap.size := by have := (Array.getElem?_eq_some_iff.1 hy).1; exact this
        have hki1 : (k : Int) < (len : Int) := by omega
        generalize ks[k] = kid at *
        clear hTr hTr' hTL hTL' HK HK'
        go_wp2_with fail
        go_region_held (fun w' => w'.cell? ⟨w.heap.size, 3, none⟩ = some (.slice (some ⟨g, off, none⟩) len cap) ∧ w'.cell? ⟨w.heap.size + 1, 3, none⟩ = some (.slice (some ⟨g', off', none⟩) len cap') ∧ w'.cell? ⟨g, off + k * 4, none⟩ = some (.int .i64 kid.op) ∧ w'.cell? ⟨g, off + k * 4 + 1, none⟩ = some (.int .i64 kid.n) ∧ w'.cell? ⟨g, off + k * 4 + 2, none⟩ = some (.string ⟨kid.name.toArray⟩) ∧ w'.cell? ⟨g, off + k * 4 + 3, none⟩ = some (.slice ka kid.kids.length kcap) ∧ w'.cell? ⟨g', off' + k * 4, none⟩ = some (.int .i64 kid.op) ∧ w'.cell? ⟨g', off' + k * 4 + 1, none⟩ = some (.int .i64 kid.n) ∧ w'.cell? ⟨g', off' + k * 4 + 2, none⟩ = some (.string ⟨kid.name.toArray⟩) ∧ w'.cell? ⟨g', off' + k * 4 + 3, none⟩ = some (.slice ka' kid.kids.length kcap')) (first | exact ⟨x3, y3, c0, c1, c2, c3, d0, d1, d2, d3⟩ | exact hS2 | assumption)
          (first | (go_at_call 9; refine (hIH.out lo lo' (exV kid.op kid.n kid.name ka kid.kids.length kcap) (exV kid.op kid.n kid.name ka' kid.kids.length kcap') _ (by exact hK2.out) (by exact hkt.below (Below.refl _ _).drew (Nat.le_refl _)) (by exact hkt'.below (Below.refl _ _).drew (Nat.le_refl _))).mono ?_; rintro e w2 ⟨rfl, hb2⟩; have hb2' : Below wr.heap.size wr w2 := (Below.refl _ wr).drew.trans hb2; have hS2 := (⟨(hb2'.cell (p := ⟨w.heap.size, 3, none⟩) hxl).trans x3, (hb2'.cell (p := ⟨w.heap.size + 1, 3, none⟩) hyl).trans y3, (hb2'.cell (p := ⟨g, off + k * 4, none⟩) hgr).trans c0, (hb2'.cell (p := ⟨g, off + k * 4 + 1, none⟩) hgr).trans c1, (hb2'.cell (p := ⟨g, off + k * 4 + 2, none⟩) hgr).trans c2, (hb2'.cell (p := ⟨g, off + k * 4 + 3, none⟩) hgr).trans c3, (hb2'.cell (p := ⟨g', off' + k * 4, none⟩) hgr').trans d0, (hb2'.cell (p := ⟨g', off' + k * 4 + 1, none⟩) hgr').trans d1, (hb2'.cell (p := ⟨g', off' + k * 4 + 2, none⟩) hgr').trans d2, (hb2'.cell (p := ⟨g', off' + k * 4 + 3, none⟩) hgr').trans d3⟩ : _ ∧ _ ∧ _ ∧ _ ∧ _ ∧ _ ∧ _ ∧ _ ∧ _ ∧ _)))
        all_goals go_wp2
        all_goals exact ⟨⟨k + 1, by go_num, by omega, hx.below hb2' hxl, hy.below hb2' hyl, hbw.trans (hb2'.mono hbw.size)⟩, by simp [intOf]; omega⟩
      · go_wp2
        go_ret
        exact ⟨rfl, hbw⟩
end Go.Proofs.YtinocaggponpmaaGreatDoor.Ep
