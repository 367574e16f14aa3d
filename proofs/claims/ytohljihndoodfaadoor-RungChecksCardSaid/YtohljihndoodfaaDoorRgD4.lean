/-
  The document's check and Check.
-/
import Derived.Test.YtohljihndoodfaaDoorRgD3
namespace Go.Proofs.YtohljihndoodfaaDoor.Rg
open Go.RowKit Lx Ep

theorem first_dropD {f : Ru → Int} {l : List Ru} {k : Nat} (hk : k < l.length) : firstE f (l.drop k) = if f l[k] = 0 then firstE f (l.drop (k + 1)) else f l[k] := by
  rw [List.drop_eq_getElem_cons hk, firstE]
theorem rung_split {bits : List Nm} {tag phase : Nm → Bool} {r : Ru} : rungP bits tag phase r = if r.kd < 0 ∨ 4 < r.kd ∨ nameB r.nm = false then 1 else if 3 ≤ r.kd ∧ phase r.nm = false then 21 else codeT bits tag r.code := rfl
set_option maxRecDepth 100000 in
set_option maxHeartbeats 8000000 in
theorem rcheck_any (l : List Ru) (A : Option Addr) (cap : Nat) (tags phases : List Nm) (TA PA : Option Addr) (tc pc : Nat) (all : Bool) (w : World) (hR : Rungs w A l) (hs : ∀ r ∈ l, ShR r) (hl : l.length ≤ 50) (hT : Strs w TA tags) (hP : Strs w PA phases) (htn : tags.length ≤ 1000) (hpn : phases.length ≤ 1000) :
    Calls Tryd.prog 28 #[.slice A l.length cap, .slice TA tags.length tc, .slice PA phases.length pc, .bool all] w fun e w' => e = .returned (.int .i64 (checkP l (tagT all tags) (tagT all phases))) ∧ Below w.heap.size w w' := by
  have hBits := rBits_any l A cap w hR (by omega) (fun r hr => by have := (hs r hr).1; unfold maxLen; omega)
  have hbl := bitsP_len l
  have HX : Hid (checkP l (tagT all tags) (tagT all phases) = if 12 < l.length then 2 else firstE (rungP (bitsP l) (tagT all tags) (tagT all phases)) (l.drop 0)) := rfl
  generalize checkP l (tagT all tags) (tagT all phases) = X at *
  generalize hbb : bitsP l = bits at *
  clear hbb
  have HR := Lib.hid hR
  have HSh := Lib.hid hs
  have HPp := Lib.hid (fun x w1 (hb : Below w.heap.size w w1) => Place_any phases PA pc x w1 (hP.below hb) (by omega))
  have HCo := Lib.hid (fun (x : Ru) BA bc w1 (hb : Below w.heap.size w w1) (hC : Code w1 x.ca x.code) (hB : Strs w1 BA bits) (hx : ShR x) => rCode_any x.code x.ca x.cc bits tags BA TA bc tc all w1 hC hB (hT.below hb) hx.2.2 hx.2.1 (by omega) htn)
  clear hR hs hT hP
  generalize hL : l.length = len at *
  have HL := Lib.hid hL
  clear hL
  generalize tags.length = tn at *
  generalize phases.length = pn at *
  by_cases h12 : 12 < len
  · have d12 : decide ((12 : Int) < (len : Int)) = true := by simp; omega
    have HX2 : Hid (2 = X) := by unfold Hid; rw [HX.out, if_pos h12]
    go_enter Tryd.func28, Tryd.ntmps28
    go_wp2
    go_ret
    exact ⟨ret_int HX2.out, Below.refl _ _⟩
  have d12 : decide ((12 : Int) < (len : Int)) = false := by simp; omega
  have HX2 : Hid (firstE (rungP bits (tagT all tags) (tagT all phases)) (l.drop 0) = X) := by unfold Hid; rw [HX.out, if_neg h12]
  clear h12 HX
  go_enter Tryd.func28, Tryd.ntmps28
  go_wp2_with fail
  refine hBits.mono ?_
  rintro e w1 ⟨BA, bc, rfl, hrow, hb1⟩
  have HRow := Lib.hid hrow
  generalize hbn : bits.length = bn at *
  have HBn := Lib.hid hbn
  clear hbn hrow d12
  go_wp2_with fail
  go_loopw [10] (fun i wr => ∃ k : Nat, k ≤ len ∧ i = .int .i64 (k : Int) ∧ Hid (firstE (rungP bits (tagT all tags) (tagT all phases)) (l.drop k) = X) ∧ Below w1.heap.size w1 wr ∧ Hid (Below w.heap.size w wr)) (fun i _ => len - (intOf i).toNat)
  case atStart => exact ⟨0, by omega, rfl, HX2, Below.refl _ _, hb1⟩
  case round =>
    rename World => wr
    obtain ⟨k, hk, rfl, HS, hrw, HBl⟩ := hrel
    have HRw := Lib.hid hrw
    clear hrw
    by_cases hlt : k < len
    · have hki : k < l.length := by rw [HL.out]; exact hlt
      obtain ⟨g, off, rfl, hg, hcd, c0, c1, c2⟩ := Rungs.at3 (HR.out.below HBl.out) hki
      have HD := Lib.hid (first_dropD (f := rungP bits (tagT all tags) (tagT all phases)) hki)
      have hsh := HSh.out l[k] (List.getElem_mem hki)
      generalize l[k] = r at *
      have hklt : ((k : Nat) : Int) < (len : Int) := by omega
      have hNm := refName_any ⟨r.nm.toArray⟩ wr (by have := hsh.1; simp [ByteArray.size]; omega)
      rw [show (⟨r.nm.toArray⟩ : ByteArray).data.toList = r.nm by simp] at hNm
      by_cases h1 : r.kd < 0 ∨ 4 < r.kd ∨ nameB r.nm = false
      · have HXe : Hid (1 = X) := by
          have h2 : rungP bits (tagT all tags) (tagT all phases) r = 1 := by rw [rung_split, if_pos h1]
          unfold Hid
          rw [← HS.out, HD.out, h2]
          rfl
        have hc : r.kd < 0 ∨ (¬ r.kd < 0 ∧ 4 < r.kd) ∨ (¬ r.kd < 0 ∧ ¬ 4 < r.kd ∧ nameB r.nm = false) := by
          rcases h1 with h | h | h
          · exact .inl h
          · by_cases h0 : r.kd < 0
            · exact .inl h0
            · exact .inr (.inl ⟨h0, h⟩)
          · by_cases h0 : r.kd < 0
            · exact .inl h0
            · by_cases h4 : 4 < r.kd
              · exact .inr (.inl ⟨h0, h4⟩)
              · exact .inr (.inr ⟨h0, h4, h⟩)
        generalize nameB r.nm = nb at *
        generalize r.code.length = cl at *
        clear h1 HS HD hsh hcd
        rcases hc with e1 | ⟨e1, e2⟩ | ⟨e1, e2, e3⟩
        · go_wp2_with fail
          refine hNm.mono ?_
          rintro e w2 ⟨rfl, hb2⟩
          have HB2 := Lib.hid (HBl.out.trans (hb2.mono HBl.out.size))
          have a0 := (hb2.cell (p := ⟨g, off + k * 3, none⟩) hg).trans c0
          have a1 := (hb2.cell (p := ⟨g, off + k * 3 + 1, none⟩) hg).trans c1
          have a2 := (hb2.cell (p := ⟨g, off + k * 3 + 2, none⟩) hg).trans c2
          clear hb2 HCo HPp
          go_wp2
          go_ret
          exact ⟨ret_int HXe.out, HB2.out⟩
        · go_wp2_with fail
          refine hNm.mono ?_
          rintro e w2 ⟨rfl, hb2⟩
          have HB2 := Lib.hid (HBl.out.trans (hb2.mono HBl.out.size))
          have a0 := (hb2.cell (p := ⟨g, off + k * 3, none⟩) hg).trans c0
          have a1 := (hb2.cell (p := ⟨g, off + k * 3 + 1, none⟩) hg).trans c1
          have a2 := (hb2.cell (p := ⟨g, off + k * 3 + 2, none⟩) hg).trans c2
          clear hb2 HCo HPp
          go_wp2
          go_ret
          exact ⟨ret_int HXe.out, HB2.out⟩
        · subst e3
          go_wp2_with fail
          refine hNm.mono ?_
          rintro e w2 ⟨rfl, hb2⟩
          have HB2 := Lib.hid (HBl.out.trans (hb2.mono HBl.out.size))
          have a0 := (hb2.cell (p := ⟨g, off + k * 3, none⟩) hg).trans c0
          have a1 := (hb2.cell (p := ⟨g, off + k * 3 + 1, none⟩) hg).trans c1
          have a2 := (hb2.cell (p := ⟨g, off + k * 3 + 2, none⟩) hg).trans c2
          clear hb2 HCo HPp
          go_wp2
          go_ret
          exact ⟨ret_int HXe.out, HB2.out⟩
      · have e1 : ¬ r.kd < 0 := fun h => h1 (.inl h)
        have e2 : ¬ 4 < r.kd := fun h => h1 (.inr (.inl h))
        have e3 : nameB r.nm = true := by cases h : nameB r.nm with
          | true => rfl
          | false => exact absurd (.inr (.inr h)) h1
        have hrp : rungP bits (tagT all tags) (tagT all phases) r = if 3 ≤ r.kd ∧ tagT all phases r.nm = false then 21 else codeT bits (tagT all tags) r.code := by rw [rung_split, if_neg h1]
        have HRp0 := Lib.hid hrp
        clear h1 hrp
        rw [e3] at hNm
        clear e3
        by_cases h3 : 3 ≤ r.kd
        · have hk34 : ((r.kd == 3) = true) ∨ ((r.kd == 3) = false ∧ (r.kd == 4) = true) := by simp; omega
          cases all
          · have hPl := fun w2 (hb : Below w.heap.size w w2) => HPp.out r.nm w2 hb
            by_cases hmem : r.nm ∈ phases
            · have HRp : Hid (rungP bits (tagT false tags) (tagT false phases) r = codeT bits (tagT false tags) r.code) := by unfold Hid; rw [HRp0.out, if_neg (by simp [tagT, hmem])]
              have hp : ¬ placeP phases r.nm < 0 := by have := (place_nn1 (R := phases) (x := r.nm)).1 hmem; omega
              generalize placeP phases r.nm = pl at *
              clear HRp0 hmem
              rcases hk34 with k3 | ⟨k3, k4⟩
              all_goals
                go_wp2_with fail
                refine hNm.mono ?_
                rintro e w2 ⟨rfl, hb2⟩
                have HB2 := Lib.hid (HBl.out.trans (hb2.mono HBl.out.size))
                have a0 := (hb2.cell (p := ⟨g, off + k * 3, none⟩) hg).trans c0
                have a1 := (hb2.cell (p := ⟨g, off + k * 3 + 1, none⟩) hg).trans c1
                have a2 := (hb2.cell (p := ⟨g, off + k * 3 + 2, none⟩) hg).trans c2
                have hcd2 := hcd.below hb2
                have hr1 := HRw.out.trans (hb2.mono HRw.out.size)
                clear hb2 hcd
                have hPl2 := hPl w2 HB2.out
                clear hPl
                have hCd := HCo.out r BA bc w2 HB2.out hcd2 (HRow.out.strs.below hr1) hsh

                generalize hcz : codeT bits (tagT false tags) r.code = z at *
                have HZ := Lib.hid hcz
                clear hcz
                generalize r.code.length = cl at *
                by_cases hz : z = 0
                · have HXn : Hid (firstE (rungP bits (tagT false tags) (tagT false phases)) (l.drop (k + 1)) = X) := by
                    unfold Hid
                    rw [← HS.out, HD.out, if_pos (by rw [HRp.out]; exact hz)]
                  have b0 : (z != 0) = false := by simp [hz]
                  clear hz HS HD HRp HZ HCo HPp
                  go_wp2_with fail
                  refine hPl2.mono ?_
                  rintro e w3 ⟨rfl, rfl⟩
                  go_wp2_with fail
                  refine hCd.mono ?_
                  rintro e w4 ⟨rfl, hb4⟩
                  have HB4 := Lib.hid (HB2.out.trans (hb4.mono HB2.out.size))
                  have hr4 := hr1.trans (hb4.mono hr1.size)
                  clear hb4
                  go_wp2
                  go_roundw
                  case rel => exact ⟨k + 1, by omega, by go_num, HXn, hr4, HB4⟩
                  case measure => simp [intOf]; omega
                · have HXe : Hid (z = X) := by
                    unfold Hid
                    rw [← HS.out, HD.out, if_neg (by rw [HRp.out]; exact hz), HRp.out]
                  have b0 : (z != 0) = true := by simpa using hz
                  clear hz HS HD HRp HZ HCo HPp
                  go_wp2_with fail
                  refine hPl2.mono ?_
                  rintro e w3 ⟨rfl, rfl⟩
                  go_wp2_with fail
                  refine hCd.mono ?_
                  rintro e w4 ⟨rfl, hb4⟩
                  have HB4 := Lib.hid (HB2.out.trans (hb4.mono HB2.out.size))
                  clear hb4
                  go_wp2
                  go_ret
                  exact ⟨ret_int HXe.out, HB4.out⟩
            · have HXe : Hid (21 = X) := by
                have h2 : rungP bits (tagT false tags) (tagT false phases) r = 21 := by rw [HRp0.out, if_pos ⟨h3, by simp [tagT, hmem]⟩]
                unfold Hid
                rw [← HS.out, HD.out, h2]
                rfl
              have hp : placeP phases r.nm < 0 := (place_nn1 (R := phases) (x := r.nm)).2 hmem
              generalize placeP phases r.nm = pl at *
              generalize r.code.length = cl at *
              clear HRp0 hmem HS HD hsh hcd
              rcases hk34 with k3 | ⟨k3, k4⟩
              all_goals
                go_wp2_with fail
                refine hNm.mono ?_
                rintro e w2 ⟨rfl, hb2⟩
                have HB2 := Lib.hid (HBl.out.trans (hb2.mono HBl.out.size))
                have a0 := (hb2.cell (p := ⟨g, off + k * 3, none⟩) hg).trans c0
                have a1 := (hb2.cell (p := ⟨g, off + k * 3 + 1, none⟩) hg).trans c1
                have a2 := (hb2.cell (p := ⟨g, off + k * 3 + 2, none⟩) hg).trans c2
                have hPl2 := hPl w2 HB2.out
                clear hPl hb2 HCo HPp
                go_wp2_with fail
                refine hPl2.mono ?_
                rintro e w3 ⟨rfl, rfl⟩
                go_wp2
                go_ret
                exact ⟨ret_int HXe.out, HB2.out⟩
          · have HRp : Hid (rungP bits (tagT true tags) (tagT true phases) r = codeT bits (tagT true tags) r.code) := by unfold Hid; rw [HRp0.out, if_neg (by simp [tagT])]
            clear HRp0
            rcases hk34 with k3 | ⟨k3, k4⟩
            all_goals
              go_wp2_with fail
              refine hNm.mono ?_
              rintro e w2 ⟨rfl, hb2⟩
              have HB2 := Lib.hid (HBl.out.trans (hb2.mono HBl.out.size))
              have a0 := (hb2.cell (p := ⟨g, off + k * 3, none⟩) hg).trans c0
              have a1 := (hb2.cell (p := ⟨g, off + k * 3 + 1, none⟩) hg).trans c1
              have a2 := (hb2.cell (p := ⟨g, off + k * 3 + 2, none⟩) hg).trans c2
              have hcd2 := hcd.below hb2
              have hr1 := HRw.out.trans (hb2.mono HRw.out.size)
              clear hb2 hcd
              have hCd := HCo.out r BA bc w2 HB2.out hcd2 (HRow.out.strs.below hr1) hsh

              generalize hcz : codeT bits (tagT true tags) r.code = z at *
              have HZ := Lib.hid hcz
              clear hcz
              generalize r.code.length = cl at *
              by_cases hz : z = 0
              · have HXn : Hid (firstE (rungP bits (tagT true tags) (tagT true phases)) (l.drop (k + 1)) = X) := by
                  unfold Hid
                  rw [← HS.out, HD.out, if_pos (by rw [HRp.out]; exact hz)]
                have b0 : (z != 0) = false := by simp [hz]
                clear hz HS HD HRp HZ HCo HPp
                go_wp2_with fail
                refine hCd.mono ?_
                rintro e w4 ⟨rfl, hb4⟩
                have HB4 := Lib.hid (HB2.out.trans (hb4.mono HB2.out.size))
                have hr4 := hr1.trans (hb4.mono hr1.size)
                clear hb4
                go_wp2
                go_roundw
                case rel => exact ⟨k + 1, by omega, by go_num, HXn, hr4, HB4⟩
                case measure => simp [intOf]; omega
              · have HXe : Hid (z = X) := by
                  unfold Hid
                  rw [← HS.out, HD.out, if_neg (by rw [HRp.out]; exact hz), HRp.out]
                have b0 : (z != 0) = true := by simpa using hz
                clear hz HS HD HRp HZ HCo HPp
                go_wp2_with fail
                refine hCd.mono ?_
                rintro e w4 ⟨rfl, hb4⟩
                have HB4 := Lib.hid (HB2.out.trans (hb4.mono HB2.out.size))
                clear hb4
                go_wp2
                go_ret
                exact ⟨ret_int HXe.out, HB4.out⟩
        · have k3 : (r.kd == 3) = false := by simp; omega
          have k4 : (r.kd == 4) = false := by simp; omega
          have HRp : Hid (rungP bits (tagT all tags) (tagT all phases) r = codeT bits (tagT all tags) r.code) := by unfold Hid; rw [HRp0.out, if_neg (by omega)]
          clear HRp0 h3
          go_wp2_with fail
          refine hNm.mono ?_
          rintro e w2 ⟨rfl, hb2⟩
          have HB2 := Lib.hid (HBl.out.trans (hb2.mono HBl.out.size))
          have a0 := (hb2.cell (p := ⟨g, off + k * 3, none⟩) hg).trans c0
          have a1 := (hb2.cell (p := ⟨g, off + k * 3 + 1, none⟩) hg).trans c1
          have a2 := (hb2.cell (p := ⟨g, off + k * 3 + 2, none⟩) hg).trans c2
          have hcd2 := hcd.below hb2
          have hr1 := HRw.out.trans (hb2.mono HRw.out.size)
          clear hb2 hcd
          have hCd := HCo.out r BA bc w2 HB2.out hcd2 (HRow.out.strs.below hr1) hsh

          generalize hcz : codeT bits (tagT all tags) r.code = z at *
          have HZ := Lib.hid hcz
          clear hcz
          generalize r.code.length = cl at *
          by_cases hz : z = 0
          · have HXn : Hid (firstE (rungP bits (tagT all tags) (tagT all phases)) (l.drop (k + 1)) = X) := by
              unfold Hid
              rw [← HS.out, HD.out, if_pos (by rw [HRp.out]; exact hz)]
            have b0 : (z != 0) = false := by simp [hz]
            clear hz HS HD HRp HZ HCo HPp
            go_wp2_with fail
            refine hCd.mono ?_
            rintro e w4 ⟨rfl, hb4⟩
            have HB4 := Lib.hid (HB2.out.trans (hb4.mono HB2.out.size))
            have hr4 := hr1.trans (hb4.mono hr1.size)
            clear hb4
            go_wp2
            go_roundw
            case rel => exact ⟨k + 1, by omega, by go_num, HXn, hr4, HB4⟩
            case measure => simp [intOf]; omega
          · have HXe : Hid (z = X) := by
              unfold Hid
              rw [← HS.out, HD.out, if_neg (by rw [HRp.out]; exact hz), HRp.out]
            have b0 : (z != 0) = true := by simpa using hz
            clear hz HS HD HRp HZ HCo HPp
            go_wp2_with fail
            refine hCd.mono ?_
            rintro e w4 ⟨rfl, hb4⟩
            have HB4 := Lib.hid (HB2.out.trans (hb4.mono HB2.out.size))
            clear hb4
            go_wp2
            go_ret
            exact ⟨ret_int HXe.out, HB4.out⟩
    · have HXe : Hid (0 = X) := by
        unfold Hid
        rw [← HS.out, List.drop_eq_nil_of_le (by rw [HL.out]; omega), firstE]
      clear HS
      go_wp2
      go_ret
      exact ⟨ret_int HXe.out, HBl.out⟩

theorem tag_false (R : List Nm) : tagT false R = fun x => decide (x ∈ R) := by funext x; simp [tagT]
set_option maxRecDepth 100000 in
theorem rCheck_any (l : List Ru) (A : Option Addr) (cap : Nat) (tags phases : List Nm) (TA PA : Option Addr) (tc pc : Nat) (w : World) (hR : Rungs w A l) (hs : ∀ r ∈ l, ShR r) (hl : l.length ≤ 50) (hT : Strs w TA tags) (hP : Strs w PA phases) (htn : tags.length ≤ 1000) (hpn : phases.length ≤ 1000) :
    Calls Tryd.prog 15 #[.slice A l.length cap, .slice TA tags.length tc, .slice PA phases.length pc] w fun e w' => e = .returned (.int .i64 (checkP l (fun x => decide (x ∈ tags)) (fun x => decide (x ∈ phases)))) ∧ Below w.heap.size w w' := by
  have h := rcheck_any l A cap tags phases TA PA tc pc false w hR hs hl hT hP htn hpn
  rw [tag_false, tag_false] at h
  generalize checkP l (fun x => decide (x ∈ tags)) (fun x => decide (x ∈ phases)) = X at *
  generalize l.length = len at *
  generalize tags.length = tn at *
  generalize phases.length = pn at *
  go_enter Tryd.func15, Tryd.ntmps15
  go_wp2_with fail
  refine h.mono ?_
  rintro e w1 ⟨rfl, hb⟩
  go_wp2
  go_ret
  exact ⟨rfl, hb⟩
end Go.Proofs.YtohljihndoodfaaDoor.Rg
