/-
  The contract of expr.Print.
-/
import Derived.Test.YtinocaggponpmaaGreatDoorExW2
import Derived.Test.YtinocaggponpmaaGreatDoorExP3
namespace Go.Proofs.YtinocaggponpmaaGreatDoor.Ep
open Go.RowKit Lx

mutual
/-- A tree's blocks are there. -/
theorem TreeV.within1 {lo : Nat → Prop} {w : World} : ∀ {t : Ex} {v : Value}, TreeV lo w t v → TreeV (fun k => lo k ∧ k < w.heap.size) w t v
  | .mk op n nm ks, v => by
    unfold TreeV
    rintro ⟨a, cap, e, hc, hk⟩
    refine ⟨a, cap, e, hc, fun hne => ?_⟩
    obtain ⟨g, off, ha, h1, h2, h3⟩ := hk hne
    exact ⟨g, off, ha, ⟨h1, h2⟩, h2, TreeL.within1 g off ks h3⟩
theorem TreeL.within1 {lo : Nat → Prop} {w : World} (g : Nat) : ∀ (off : Nat) (ks : List Ex), TreeL lo w g off ks → TreeL (fun k => lo k ∧ k < w.heap.size) w g off ks
  | off, [] => by unfold TreeL; exact id
  | off, k :: ks => by
    unfold TreeL
    rintro ⟨⟨a, cap, c0, c1, c2, c3, ht⟩, hr⟩
    exact ⟨⟨a, cap, c0, c1, c2, c3, TreeV.within1 ht⟩, TreeL.within1 g _ ks hr⟩
end

set_option maxHeartbeats 4000000 in
theorem Print_any (t : Ex) (S : Nat → Prop) (v : Value) (w : World) (hO : Ops w) (hTab : Tab w) (hT : TreeV S w t v) (hN : numsE t) :
    Calls Tryz.prog 16 #[v] w fun e w' => e = .returned (.string ⟨(printE t).toArray⟩) ∧ Below w.heap.size w w' := by
  obtain ⟨a, cap, rfl, -, -⟩ := hT.open
  have hx0 := Box.new w 25 #[.int .i64 t.op, .int .i64 t.n, .string ⟨t.name.toArray⟩, .slice a t.kids.length cap]
  have hlO := hO.lt
  have hlT := Tab.lt hTab
  unfold exV
  go_enter Tryz.func16, Tryz.ntmps16
  go_wp2_with fail
  refine (May_any t S _ _ (hO.alloc _) (hT.alloc _)).mono ?_
  rintro e w1 ⟨rfl, hb1⟩
  have hbw1 := below_new hb1
  have hx1 := hx0.below hb1 hx0.lt
  have hO1 := hO.below hbw1 hlO
  have hTab1 := Tab.belowB hTab hbw1 hlT
  have hT1 := TreeV.below hT hbw1 (Nat.le_refl _)
  have hs1 := hbw1.size
  clear hb1 hx0
  cases hm : mayB t with
  | false =>
    have HX : Hid (printE t = []) := by unfold Hid printE; rw [hm]; rfl
    clear hm
    go_wp2
    go_ret
    exact ⟨ret_str (by rw [HX.out]), hbw1⟩
  | true =>
    have HX : Hid (printE t = textE t) := by unfold Hid printE; rw [hm]; rfl
    have hg := may_good hm hN
    have hlen := may_len hm hN
    clear hm
    obtain ⟨x0, x1, x2, x3, -, -, -, -⟩ := hx1.four
    have hxl := hx1.lt
    have hbA : Below w1.heap.size w1 (w1.alloc (.cells #[.pointer none, .slice none 0 0] 61)) := (Below.refl _ _).alloc (Nat.le_refl _) _
    have hwr : Wr w1.heap.size w1.heap.size [] (w1.alloc (.cells #[.pointer none, .slice none 0 0] 61)) :=
      ⟨Lib.fresh_isBuilder _ _ _, hbA.size, hO1.below hbA hO1.lt, hO1.lt, Tab.belowB hTab1 hbA (Tab.lt hTab1), Tab.lt hTab1⟩
    have hTw := TreeV.low (lo' := fun k => k < w1.heap.size) (fun k hk => hk.2) _ _ (TreeV.within1 hT1)
    have HA := Lib.hid hbA
    clear hbA
    go_wp2_with fail
    refine (write_ok t w1.heap.size w1.heap.size [] _ _ hg (by simp; omega) hwr (hTw.alloc _)).mono ?_
    rintro e w2 ⟨rfl, hw2⟩
    rw [List.nil_append] at hw2
    go_wp2_with fail
    refine (Tryz.Builder_String_any w1.heap.size w1.heap.size (textE t) _ hw2.wr.bd hw2.wr.le).mono ?_
    rintro e w3 ⟨rfl, hb3⟩
    go_wp2
    go_ret
    exact ⟨ret_str (by rw [HX.out]), hbw1.trans (((HA.out.trans hw2.below).trans hb3).mono hs1)⟩
end Go.Proofs.YtinocaggponpmaaGreatDoor.Ep
