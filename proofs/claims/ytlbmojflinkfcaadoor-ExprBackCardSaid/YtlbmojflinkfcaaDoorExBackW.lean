/-
  The walk of ExprBack.
-/
import Derived.Test.YtlbmojflinkfcaaDoorExFr
import Derived.Test.YtlbmojflinkfcaaDoorExSame
import Derived.Test.YtlbmojflinkfcaaDoorExPb
import Derived.Test.YtlbmojflinkfcaaDoorExBk
namespace Go.Proofs.YtlbmojflinkfcaaDoor.Ep
open Go.RowKit Lx

def BkPost (w : World) (e : Ending) (w' : World) : Prop := e = .returned (.bool true) ∧ Below w.heap.size w w'
set_option maxRecDepth 100000 in
set_option maxHeartbeats 8000000 in
theorem back_walk (v : Value) (t : Ex) (w : World) (hT : TreeV (fun _ => True) w t v) (hN : numsE t) (hTab : Tab w) (hO : Ops w) :
    Calls Tryd.prog 4 #[v] w (BkPost w) := by
  obtain ⟨va, vcap, rfl, hvc, hvk⟩ := hT.open
  unfold exV at hT ⊢
  have hx0 := Box.new w 24 #[.int .i64 t.op, .int .i64 t.n, .string ⟨t.name.toArray⟩, .slice va t.kids.length vcap]
  have hbA : Below w.heap.size w (w.alloc (.cells #[.int .i64 t.op, .int .i64 t.n, .string ⟨t.name.toArray⟩, .slice va t.kids.length vcap] 24)) := (Below.refl _ _).alloc (Nat.le_refl _) _
  have hO0 := hO.below hbA hO.lt
  have hTab0 := Tab.belowB hTab hbA (Tab.lt hTab)
  have hT0 := hT.alloc (.cells #[.int .i64 t.op, .int .i64 t.n, .string ⟨t.name.toArray⟩, .slice va t.kids.length vcap] 24)
  have HPR : Hid (mayB t = true → ∃ T2 : ByteArray, (∀ (S : Nat → Prop) (v : Value) (w : World), Ops w → Tab w → TreeV S w t v → Calls Tryd.prog 12 #[v] w fun e w' => e = .returned (.string T2) ∧ Below w.heap.size w w') ∧ (∀ w, Ops w → Calls Tryd.prog 11 #[.string T2] w (PPost (some t, 0, 0) w)) ∧ k2E t) := fun hmay => by
    have hpt := parse_text t hmay hN
    have hpr : printE t = textE t := by unfold printE; rw [if_pos hmay]
    have htl := may_len hmay hN
    refine ⟨⟨(textE t).toArray⟩, fun S v w h1 h2 h3 => ?_, fun w hO => ?_, (parse_k2 hpt).1⟩
    · have := Print_any t S v w h1 h2 h3 hN
      rw [hpr] at this
      exact this
    · have hsz : (⟨(textE t).toArray⟩ : ByteArray).size = (textE t).length := by show (textE t).toArray.size = _; simp
      have := Parse_any ⟨(textE t).toArray⟩ w (by omega) hO
      rw [show (⟨(textE t).toArray⟩ : ByteArray).data.toList = textE t from by simp, hpt] at this
      exact this
  have HM : Hid (∀ (w : World) (v : Value), Ops w → TreeV (fun _ => True) w t v → Calls Tryd.prog 10 #[v] w fun e w' => e = .returned (.bool (mayB t)) ∧ Below w.heap.size w w') := fun w v h1 h2 => May_any t _ v w h1 h2
  have HLt : Hid (∀ (w : World) (v : Value), TreeV (fun _ => True) w t v → Calls Tryd.prog 7 #[v, .int .i64 400] w (LtPost w)) := fun w v h => light_any t _ v w h
  clear hvk hT hO hTab hN
  go_enter Tryd.func4, Tryd.ntmps4
  go_wp2_with fail
  generalize w.alloc (.cells #[.int .i64 t.op, .int .i64 t.n, .string ⟨t.name.toArray⟩, .slice va t.kids.length vcap] 24) = w0 at *
  refine (awake_any w0 hO0 hTab0).mono ?_
  rintro e w1 ⟨rfl, hb1⟩
  have hx1 := hx0.below hb1 hx0.lt
  have hO1 := hO0.below hb1 hO0.lt
  have hTab1 := Tab.belowB hTab0 hb1 (Tab.lt hTab0)
  have hT1 := hT0.below hb1 (Nat.le_refl _)
  have hB1 := hbA.trans (hb1.mono hbA.size)
  clear hx0 hO0 hTab0 hT0 hb1 hbA
  obtain ⟨a0, a1, a2, a3, _, _, _, _⟩ := hx1.four
  go_wp2_with fail
  refine (HLt.out w1 _ hT1).mono ?_
  rintro e w2 ⟨lb, rfl, hb2⟩
  have hx2 := hx1.below hb2 hx1.lt
  have hO2 := hO1.below hb2 hO1.lt
  have hTab2 := Tab.belowB hTab1 hb2 (Tab.lt hTab1)
  have hT2 := hT1.below hb2 (Nat.le_refl _)
  have hB2 := hB1.trans (hb2.mono hB1.size)
  clear hx1 hO1 hTab1 hT1 hb2 hB1 a0 a1 a2 a3 HLt
  obtain ⟨a0, a1, a2, a3, _, _, _, _⟩ := hx2.four
  cases lb
  · clear HPR HM
    go_wp2
    go_ret
    exact ⟨rfl, hB2⟩
  · go_wp2_with fail
    refine (HM.out w2 _ hO2 hT2).mono ?_
    rintro e w3 ⟨rfl, hb3⟩
    have hx3 := hx2.below hb3 hx2.lt
    have hO3 := hO2.below hb3 hO2.lt
    have hTab3 := Tab.belowB hTab2 hb3 (Tab.lt hTab2)
    have hT3 := hT2.below hb3 (Nat.le_refl _)
    have hB3 := hB2.trans (hb3.mono hB2.size)
    clear hx2 hO2 hTab2 hT2 hb3 hB2 a0 a1 a2 a3 HM
    obtain ⟨a0, a1, a2, a3, _, _, _, _⟩ := hx3.four
    cases hm : mayB t
    · clear HPR hm
      go_wp2
      go_ret
      exact ⟨rfl, hB3⟩
    · obtain ⟨T2, hpr, hpa, hk2⟩ := HPR.out hm
      have HP1 := Lib.hid hpr
      have HP2 := Lib.hid hpa
      clear HPR hpr hpa hm
      go_wp2_with fail
      refine (HP1.out _ _ w3 hO3 hTab3 hT3).mono ?_
      rintro e w4 ⟨rfl, hb4⟩
      have hx4 := hx3.below hb4 hx3.lt
      have hO4 := hO3.below hb4 hO3.lt
      have hT4 := hT3.below hb4 (Nat.le_refl _)
      have hB4 := hB3.trans (hb4.mono hB3.size)
      clear hx3 hO3 hTab3 hT3 hb4 hB3 a0 a1 a2 a3 HP1
      go_wp2_with fail
      refine (HP2.out w4 hO4).mono ?_
      rintro e w5 ⟨v', rfl, hT5, hb5⟩
      obtain ⟨va', vcap', rfl, hvc', hvk'⟩ := hT5.open
      unfold exV at hT5 ⊢
      have hx5 := hx4.below hb5 hx4.lt
      have hT5a := hT4.below hb5 (Nat.le_refl _)
      have hB5 := hB4.trans (hb5.mono hB4.size)
      have hx6 := hx5.alloc (.cells #[.int .i64 t.op, .int .i64 t.n, .string ⟨t.name.toArray⟩, .slice va' t.kids.length vcap'] 24)
      have hy6 := Box.new w5 24 #[.int .i64 t.op, .int .i64 t.n, .string ⟨t.name.toArray⟩, .slice va' t.kids.length vcap']
      have hT6 := hT5.alloc (.cells #[.int .i64 t.op, .int .i64 t.n, .string ⟨t.name.toArray⟩, .slice va' t.kids.length vcap'] 24)
      have hT6a := hT5a.alloc (.cells #[.int .i64 t.op, .int .i64 t.n, .string ⟨t.name.toArray⟩, .slice va' t.kids.length vcap'] 24)
      have hB6 := hB5.alloc hB5.size (.cells #[.int .i64 t.op, .int .i64 t.n, .string ⟨t.name.toArray⟩, .slice va' t.kids.length vcap'] 24)
      clear hvk' hT5 hT5a hx5 hB5 hT4 hB4 hx4 hO4 hb5 HP2
      obtain ⟨a0, a1, a2, a3, _, _, _, _⟩ := hx6.four
      obtain ⟨b0, b1, b2, b3, _, _, _, _⟩ := hy6.four
      go_wp2_with fail
      refine (same_any t _ _ _ _ _ hk2 hT6 hT6a).mono ?_
      rintro e w7 ⟨rfl, hb7⟩
      have hB7 := hB6.trans (hb7.mono hB6.size)
      clear hT6 hT6a hx6 hy6 hB6 hb7 a0 a1 a2 a3 b0 b1 b2 b3
      go_wp2
      go_ret
      exact ⟨rfl, hB7⟩
end Go.Proofs.YtlbmojflinkfcaaDoor.Ep
