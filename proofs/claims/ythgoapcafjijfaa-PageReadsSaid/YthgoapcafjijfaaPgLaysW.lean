/-
  PageLays, walked.
-/
import Derived.Test.YthgoapcafjijfaaPgL1
import Derived.Test.YthgoapcafjijfaaPgR3
namespace Go.Proofs.Ythgoapcafjijfaa.Pg
open Go.RowKit

theorem conv_box {w : World} {gb : Nat} {t : TypeId} {b : List UInt8} (c : Nat) (hx : Box w gb t (u8C b).toArray) (hb : b.length = 256) : (convert 25 9 (.slice (some ⟨gb, 0, none⟩) 256 c)).run Try.prog w = .ok (.string ⟨b.toArray⟩) w := by
  have := conv_lie c (full_lie hx)
  rw [hb] at this
  exact this

set_option maxRecDepth 100000 in
set_option maxHeartbeats 2000000 in
theorem laysW (A : Option Addr) (l : List Rec) (c : Nat) (w : World) (hc : l.length ≤ c) (hm : c ≤ maxLen) (h : Recs (fun b => w.heap.size ≤ b) w A l) :
    Calls Try.prog 3 #[.slice A l.length c] w (TruePost w) := by
  have HH := Lib.hid h
  go_enter Try.func3, Try.ntmps3
  go_wp2_with fail
  refine (awake_all w).mono ?_
  rintro e w1 ⟨rfl, hb1⟩
  have HSM := Lib.hid (small_all _ A l c w1 (h.below hb1) hc hm)
  go_wp2_with fail
  with_reducible refine HSM.out.mono ?_
  rintro e w' ⟨rfl, rfl⟩
  by_cases hsm : smallL l
  · rw [decide_eq_true hsm]
    have hsp := hsm.sm
    have HRL := Lib.hid (fun wx (hb : Below w.heap.size w wx) => refLay_all _ A l c wx (HH.out.below hb) hsp.1)
    have HF := Lib.hid (fun wx (hb : Below w.heap.size w wx) => free_all _ A l c wx (HH.out.below hb) hsp)
    have HRF := Lib.hid (fun wx (hb : Below w.heap.size w wx) => refFree_all _ A l c wx (HH.out.below hb) hsp.1)
    by_cases hok : okP l
    · have HL := Lib.hid (lay_ok _ A l c w1 (h.below hb1) hsp hok)
      have HE := Lib.hid (layE_ok hok)
      have HS := Lib.hid (layS_ok hok)
      have HLN := Lib.hid (lay_len hok)
      clear h HSM hsm hsp hok
      go_wp2_with fail
      with_reducible refine HL.out.mono ?_
      rintro e w2 ⟨g, rfl, hg, hx2, hb2⟩
      have hB2 := hb1.trans (hb2.mono hb1.size)
      clear HL
      go_wp2_with fail
      with_reducible refine (HRL.out w2 hB2).mono ?_
      rintro e w3 ⟨rfl, hb3⟩
      rw [HE.out, HS.out]
      have hB3 := hB2.trans (hb3.mono hB2.size)
      have hcv := conv_box 256 (hx2.below hb3 hx2.lt) HLN.out
      clear HRL hx2 HE HS
      go_wp2_with fail
      with_reducible refine (HF.out w3 hB3).mono ?_
      rintro e w4 ⟨rfl, hb4⟩
      have hB4 := hB3.trans (hb4.mono hB3.size)
      clear HF hcv
      go_wp2_with fail
      with_reducible refine (HRF.out w4 hB4).mono ?_
      rintro e w5 ⟨rfl, hb5⟩
      have hB5 := hB4.trans (hb5.mono hB4.size)
      go_wp2
      go_ret
      exact ⟨rfl, hB5⟩
    · have HL := Lib.hid (lay_no _ A l c w1 (h.below hb1) hsp hok)
      have HS := Lib.hid (layS_no hok)
      clear h HSM hsm hsp hok
      go_wp2_with fail
      with_reducible refine HL.out.mono ?_
      rintro e w2 ⟨rfl, hb2⟩
      have hB2 := hb1.trans (hb2.mono hb1.size)
      clear HL
      go_wp2_with fail
      with_reducible refine (HRL.out w2 hB2).mono ?_
      rintro e w3 ⟨rfl, hb3⟩
      rw [HS.out]
      have hB3 := hB2.trans (hb3.mono hB2.size)
      have hcv : (convert 25 9 (.slice none 0 0)).run Try.prog w3 = .ok (.string ⟨#[]⟩) w3 := conv_lie (w := w3) (A := none) (l := []) 0 Lie.nil_
      clear HRL HS
      generalize layE l = E at *
      go_wp2_with fail
      with_reducible refine (HF.out w3 hB3).mono ?_
      rintro e w4 ⟨rfl, hb4⟩
      have hB4 := hB3.trans (hb4.mono hB3.size)
      clear HF
      go_wp2_with fail
      with_reducible refine (HRF.out w4 hB4).mono ?_
      rintro e w5 ⟨rfl, hb5⟩
      have hB5 := hB4.trans (hb5.mono hB4.size)
      go_wp2
      go_ret
      exact ⟨rfl, hB5⟩
  · rw [decide_eq_false hsm]
    clear h HSM
    go_wp2
    go_ret
    exact ⟨rfl, hb1⟩
end Go.Proofs.Ythgoapcafjijfaa.Pg
