/-
  Light once more: what its yes says of expressions.
-/
import Derived.Test.YtohljihndoodfaaDoorRgL2
import Derived.Test.YtohljihndoodfaaDoorExVa
namespace Go.Proofs.YtohljihndoodfaaDoor.Rg
open Go.RowKit Lx Ep

/-- What Light's yes says, in full. -/
def ShI (i : In) : Prop := i.nm.length ≤ 200 ∧ shortE i.e
def ShR (r : Ru) : Prop := r.nm.length ≤ 200 ∧ r.code.length ≤ 50 ∧ ∀ i ∈ r.code, ShI i
def LtFull (l : List Ru) : Prop := l.length ≤ 50 ∧ ∀ r ∈ l, ShR r
def LgPost2 (l : List Ru) (w : World) (e : Ending) (w' : World) : Prop := ∃ b : Bool, e = .returned (.bool b) ∧ (b = true → LtFull l) ∧ Below w.heap.size w w'
set_option maxRecDepth 100000 in
set_option maxHeartbeats 4000000 in
theorem Light_full (l : List Ru) (A : Option Addr) (cap : Nat) (w : World) (hR : Rungs w A l) : Calls Tryd.prog 9 #[.slice A l.length cap] w (LgPost2 l w) := by
  by_cases h50 : 50 < l.length
  · have hno : ∀ w', Below w.heap.size w w' → LgPost2 l w (.returned (.bool false)) w' := fun w' hb => ⟨false, rfl, (fun h => by cases h), hb⟩
    generalize l.length = len at *
    go_enter Tryd.func9, Tryd.ntmps9
    go_wp2
    all_goals first | (exfalso; omega) | skip
    go_ret
    exact hno _ (Below.refl _ _)
  · have HR := Lib.hid hR
    clear hR
    have HNo : Hid (∀ w', Below w.heap.size w w' → LgPost2 l w (.returned (.bool false)) w') := fun w' hb => ⟨false, rfl, (fun h => by cases h), hb⟩
    generalize hL : l.length = len at *
    have HL := Lib.hid hL
    clear hL
    go_enter Tryd.func9, Tryd.ntmps9
    go_wp2
    all_goals first | (exfalso; omega) | skip
    go_loopw [3] (fun i wr => ∃ k : Nat, k ≤ len ∧ i = .int .i64 k ∧ Hid (∀ r ∈ l.take k, ShR r) ∧ Hid (Below w.heap.size w wr)) (fun i _ => len - (intOf i).toNat)
    case atStart => exact ⟨0, by omega, rfl, fun r hr => by simp at hr, Below.refl _ _⟩
    case round =>
      obtain ⟨k, hkl, rfl, HS, HB⟩ := hrel
      by_cases hlt : k < len
      · have hki : k < l.length := by rw [HL.out]; exact hlt
        obtain ⟨g, off, rfl, hg, hCd, c0, c1, c2⟩ := Rungs.at3 (HR.out.below HB.out) hki
        have HTk : Hid (l.take (k + 1) = l.take k ++ [l[k]]) := List.take_succ_eq_append_getElem hki
        have HG := Lib.hid hg
        have HA : ∀ wx, Below w.heap.size w wx → wx.cell? ⟨g, off + k * 3 + 2, none⟩ = some (.slice (l[k]).ca (l[k]).code.length (l[k]).cc) ∧ Code wx (l[k]).ca (l[k]).code := fun wx hb => by
          obtain ⟨g', off', e, _, hC', _, _, c2'⟩ := Rungs.at3 (HR.out.below hb) hki
          injection e with e
          injection e with e1 e2
          subst e1 e2
          exact ⟨c2', hC'⟩
        have HA := Lib.hid HA
        generalize l[k] = r at *
        have hklt : ((k : Nat) : Int) < (len : Int) := by omega
        by_cases hc : 50 < r.code.length
        · have d0 : decide ((50 : Int) < (r.code.length : Int)) = true := by simp; omega
          clear hCd HA
          generalize r.code.length = m at *
          go_wp2
          all_goals first | (exfalso; omega) | skip
          all_goals go_ret
          all_goals exact HNo.out _ HB.out
        have d0 : decide ((50 : Int) < (r.code.length : Int)) = false := by simp; omega
        by_cases hn : 200 < r.nm.length
        · clear hCd HA
          generalize r.code.length = m at *
          go_wp2
          all_goals first | (exfalso; omega) | skip
          all_goals go_ret
          all_goals exact HNo.out _ HB.out
        have HS2 : Hid ((∀ i ∈ r.code, ShI i) → ∀ x ∈ l.take (k + 1), ShR x) := by
          intro hi x hx
          rw [HTk.out] at hx
          rcases List.mem_append.1 hx with hx | hx
          · exact HS.out x hx
          · simp only [List.mem_singleton] at hx
            subst hx
            exact ⟨by omega, by omega, hi⟩
        clear hCd
        generalize hcm : r.code.length = m at *
        have HCm := Lib.hid hcm
        clear hcm HS HTk
        go_wp2
        all_goals first | (exfalso; omega) | skip
        go_loopw [4] (fun i wz => ∃ j : Nat, j ≤ m ∧ i = .int .i64 j ∧ Hid (∀ i ∈ r.code.take j, ShI i) ∧ Hid (Below w.heap.size w wz)) (fun i _ => m - (intOf i).toNat)
        case atStart => exact ⟨0, by omega, rfl, (fun i hi => by simp at hi), HB⟩
        case round =>
          obtain ⟨j, hjm, rfl, HJ, HB2⟩ := hrel
          clear c0 c1 c2
          obtain ⟨c2, hCd⟩ := HA.out _ HB2.out
          have hgz : g < _ := Nat.lt_of_lt_of_le HG.out (Nat.le_refl _)
          by_cases hjl : j < m
          · have hji : j < r.code.length := by rw [HCm.out]; exact hjl
            obtain ⟨g2, off2, e2, hg2, hE, q0, q1, q2, q3, q4, q5⟩ := Code.at6 hCd hji
            rw [e2] at c2
            clear e2
            have HJ2 : Hid (ShI r.code[j] → ∀ i ∈ r.code.take (j + 1), ShI i) := by
              intro hs i hi
              rw [List.take_succ_eq_append_getElem hji] at hi
              rcases List.mem_append.1 hi with hi | hi
              · exact HJ.out i hi
              · simp only [List.mem_singleton] at hi
                subst hi
                exact hs
            generalize r.code[j] = i at *
            have hjm2 : ((j : Nat) : Int) < (m : Int) := by omega
            have hWt := weight_short i.e (fun _ => True) _ 200 _ hE.1 (by omega) (by omega)
            unfold exOf exV at hWt
            clear hCd hE HCm HS2 HA
            generalize i.e.kids.length = km at *
            by_cases hx : 200 < i.nm.length
            · have d1 : decide ((200 : Int) < (i.nm.length : Int)) = true := by simp; omega
              clear hWt
              go_wp2
              all_goals first | (exfalso; omega) | skip
              all_goals go_ret
              all_goals exact HNo.out _ HB2.out
            have d1 : decide ((200 : Int) < (i.nm.length : Int)) = false := by simp; omega
            go_wp2_with fail
            all_goals first | (exfalso; omega) | skip
            refine hWt.mono ?_
            rintro e w4 ⟨z, rfl, hz0, hz4, HSh, hb4⟩
            have HB4 := Lib.hid (HB2.out.trans (hb4.mono HB2.out.size))
            clear hWt hb4 c2 q0 q1 q2 q3 q4 q5 HB2
            by_cases hz : z = 0
            · have b0 : (z == 0) = true := by simpa using hz
              clear hz
              go_wp2
              go_ret
              exact HNo.out _ HB4.out
            · have b0 : (z == 0) = false := by simpa using hz
              have HJ3 := Lib.hid (HJ2.out ⟨by simp at d1; omega, HSh.out (by omega)⟩)
              clear hz HJ2 HSh HJ
              go_wp2
              go_roundw
              case rel => exact ⟨j + 1, hjl, by go_num, HJ3, HB4⟩
              case measure => simp [intOf]; omega
          · have HS3 := Lib.hid (HS2.out (by have := HJ.out; rwa [List.take_of_length_le (by rw [HCm.out]; omega)] at this))
            clear hCd HS2 HJ
            go_wp2
            go_roundw
            case rel => exact ⟨k + 1, hlt, by go_num, HS3, HB2⟩
            case measure => simp [intOf]; omega
      · have HF : Hid (∀ w', Below w.heap.size w w' → LgPost2 l w (.returned (.bool true)) w') := fun w' hb => ⟨true, rfl, fun _ => ⟨by rw [HL.out]; omega, by have := HS.out; rw [List.take_of_length_le (by rw [HL.out]; omega)] at this; exact this⟩, hb⟩
        clear HS HNo
        go_wp2
        go_ret
        exact HF.out _ HB.out
end Go.Proofs.YtohljihndoodfaaDoor.Rg
