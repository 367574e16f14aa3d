/-
  The walk of RungChecks.
-/
import Derived.Test.YtohljihndoodfaaDoorRgD4
namespace Go.Proofs.YtohljihndoodfaaDoor.Rg
open Go.RowKit Lx Ep

set_option maxRecDepth 100000 in
set_option maxHeartbeats 2000000 in
theorem names_any9 (l : List Nm) (A : Option Addr) (cap : Nat) (w : World) (hS : Strs w A l) : Calls Tryd.prog 10 #[.slice A l.length cap] w (CePost l.length w) := by
  by_cases h100 : 100 < l.length
  · generalize l.length = len at *
    go_enter Tryd.func10, Tryd.ntmps10
    go_wp2
    all_goals first | (exfalso; omega) | skip
    go_ret
    exact ⟨false, rfl, (fun h => by cases h), rfl⟩
  · have HK := Lib.hid hS
    clear hS
    generalize hL : l.length = len at *
    have HL := Lib.hid hL
    clear hL
    go_enter Tryd.func10, Tryd.ntmps10
    go_wp2
    all_goals first | (exfalso; omega) | skip
    go_loopw [3] (fun i wr => ∃ k : Nat, k ≤ len ∧ i = .int .i64 k ∧ w = wr) (fun i _ => len - (intOf i).toNat)
    case atStart => exact ⟨0, by omega, rfl, rfl⟩
    case round =>
      obtain ⟨k, hkl, rfl, rfl⟩ := hrel
      by_cases hlt : k < len
      · have hki : k < l.length := by rw [HL.out]; exact hlt
        obtain ⟨g, off, rfl, hg, c0⟩ := Strs.at1 HK.out hki
        generalize l[k] = x at *
        have hklt : ((k : Nat) : Int) < (len : Int) := by omega
        by_cases hx : 200 < x.length
        · go_wp2
          all_goals first | (exfalso; omega) | skip
          go_ret
          exact ⟨false, rfl, (fun h => by cases h), rfl⟩
        · go_wp2
          all_goals first | (exfalso; omega) | skip
          go_roundw
          case rel => exact ⟨k + 1, hlt, by go_num, trivial⟩
          case measure => simp [intOf]; omega
      · go_wp2
        go_ret
        exact ⟨true, rfl, fun _ => by omega, rfl⟩

set_option maxRecDepth 100000 in
set_option maxHeartbeats 4000000 in
theorem checks_walk (A : Option Addr) (l : List Ru) (cap : Nat) (B : Option Addr) (T : List Nm) (bc : Nat) (C : Option Addr) (P : List Nm) (pc : Nat) (w : World) (_hc : l.length ≤ cap ∧ cap ≤ maxLen) (hR : Rungs w A l) (hw : ∀ x ∈ l, x.nm.length ≤ maxLen ∧ x.code.length ≤ maxLen)
    (_hc1 : T.length ≤ bc) (hT1 : Strs w B T) (_hw1 : ∀ x ∈ T, x.length ≤ maxLen) (_hc2 : P.length ≤ pc) (hP1 : Strs w C P) (_hw2 : ∀ x ∈ P, x.length ≤ maxLen) (hT : Tabs w) :
    Calls Tryd.prog 3 #[.slice A l.length cap, .slice B T.length bc, .slice C P.length pc] w fun e w' => e = .returned (.bool true) ∧ Below w.heap.size w w' := by
  have HT := Lib.hid hT
  have HLi := Lib.hid (fun w1 (hb : Below w.heap.size w w1) => Light_full l A cap w1 (hR.below hb))
  have HN1 := Lib.hid (fun w1 (hb : Below w.heap.size w w1) => names_any9 T B bc w1 (hT1.below hb))
  have HN2 := Lib.hid (fun w1 (hb : Below w.heap.size w w1) => names_any9 P C pc w1 (hP1.below hb))
  have HB1 := Lib.hid (fun (h : l.length ≤ 50) w1 (hb : Below w.heap.size w w1) => Bits_any l A cap w1 (hR.below hb) (by omega) (fun r hr => (hw r hr).1))
  have HB2 := Lib.hid (fun (h : l.length ≤ 50) w1 (hb : Below w.heap.size w w1) => rBits_any l A cap w1 (hR.below hb) (by omega) (fun r hr => (hw r hr).1))
  have HC1 := Lib.hid (fun (h1 : T.length ≤ 100) (h2 : P.length ≤ 100) w1 (hb : Below w.heap.size w w1) => Check_any l A cap T P B C bc pc w1 (hT.below hb) (hR.below hb) (hT1.below hb) (hP1.below hb) (by omega) (by omega) (fun r hr => (hw r hr).1))
  have HC2 := Lib.hid (fun (h : LtFull l) (h1 : T.length ≤ 100) (h2 : P.length ≤ 100) w1 (hb : Below w.heap.size w w1) => rCheck_any l A cap T P B C bc pc w1 (hR.below hb) h.2 h.1 (hT1.below hb) (hP1.below hb) (by omega) (by omega))
  have HTx := Lib.hid (fun (h : l.length ≤ 50) A1 A2 c1 c2 w1 (k1 : Strs w1 A1 (bitsP l)) (k2 : Strs w1 A2 (bitsP l)) => Texts_any (bitsP l) (bitsP l) A1 A2 c1 c2 w1 k1 k2 (by have := bitsP_len l; omega))
  clear hR hw hT1 hP1 hT
  generalize checkP l (fun x => decide (x ∈ T)) (fun x => decide (x ∈ P)) = X at *
  generalize bitsP l = R at *
  generalize hL : l.length = len at *
  have HL := Lib.hid hL
  clear hL
  generalize T.length = tn at *
  generalize P.length = pn at *
  go_enter Tryd.func3, Tryd.ntmps3
  go_wp2_with fail
  refine (awake_any w HT.out).mono ?_
  rintro e w1 ⟨rfl, hb1⟩
  have hLi := HLi.out w1 hb1
  go_wp2_with fail
  refine hLi.mono ?_
  rintro e w2 ⟨b1, rfl, hok, hb2⟩
  have hB2 := hb1.trans (hb2.mono hb1.size)
  have HOk := Lib.hid hok
  have hN1 := HN1.out w2 hB2
  have hN2 := HN2.out w2 hB2
  clear hLi hb2 hok hb1 HN1 HN2 HLi
  go_wp2_with fail
  refine hN1.mono ?_
  rintro e w3 ⟨b2, rfl, hn1, rfl⟩
  go_wp2_with fail
  refine hN2.mono ?_
  rintro e w4 ⟨b3, rfl, hn2, rfl⟩
  have HE1 := Lib.hid hn1
  have HE2 := Lib.hid hn2
  clear hN1 hN2 hn1 hn2
  cases b1 with
  | false =>
    go_wp2
    go_ret
    exact ⟨rfl, hB2⟩
  | true =>
  cases b2 with
  | false =>
    go_wp2
    go_ret
    exact ⟨rfl, hB2⟩
  | true =>
  cases b3 with
  | false =>
    go_wp2
    go_ret
    exact ⟨rfl, hB2⟩
  | true =>
  have hlt := HOk.out rfl
  have h50 : len ≤ 50 := by rw [← HL.out]; exact hlt.1
  have hb1 := HB1.out h50 w2 hB2
  have HCa := Lib.hid (HC1.out (HE1.out rfl) (HE2.out rfl))
  have HCb := Lib.hid (HC2.out hlt (HE1.out rfl) (HE2.out rfl))
  have HBb := Lib.hid (HB2.out h50)
  have HTt := Lib.hid (HTx.out h50)
  clear hlt HC1 HC2 HB1 HB2 HTx HE1 HE2 HOk
  go_wp2_with fail
  refine hb1.mono ?_
  rintro e w5 ⟨A1, c1, rfl, hr1, hb5⟩
  have hB5 := hB2.trans (hb5.mono hB2.size)
  have hb2 := HBb.out w5 hB5
  clear hb1 hb5 HBb
  go_wp2_with fail
  refine hb2.mono ?_
  rintro e w6 ⟨A2, c2, rfl, hr2, hb6⟩
  have hB6 := hB5.trans (hb6.mono hB5.size)
  have hTx := HTt.out A1 A2 c1 c2 w6 (hr1.strs.below hb6) hr2.strs
  clear hb2 hb6 hr1 hr2 HTt
  generalize R.length = rn at *
  go_wp2_with fail
  refine hTx.mono ?_
  rintro e w7 ⟨he, hb7⟩
  have he2 : e = .returned (.bool true) := by rw [he]; simp
  clear he
  subst he2
  have hB7 := hB6.trans (hb7.mono hB6.size)
  have hc1 := HCa.out w7 hB7
  have HB7 := Lib.hid hB7
  clear hTx hb7 HCa hB7
  go_wp2_with fail
  refine hc1.mono ?_
  rintro e w8 ⟨rfl, hb8⟩
  have hB8 := HB7.out.trans (hb8.mono HB7.out.size)
  have hc2 := HCb.out w8 hB8
  have HB8 := Lib.hid hB8
  clear hc1 hb8 HCb hB8
  go_wp2_with fail
  refine hc2.mono ?_
  rintro e w9 ⟨rfl, hb9⟩
  have HB9 := Lib.hid (HB8.out.trans (hb9.mono HB8.out.size))
  clear hb9
  go_wp2
  go_ret
  exact ⟨ret_bool (by simp), HB9.out⟩
end Go.Proofs.YtohljihndoodfaaDoor.Rg
