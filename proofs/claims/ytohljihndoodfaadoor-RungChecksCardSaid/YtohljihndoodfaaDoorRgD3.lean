/-
  The document's Code.
-/
import Derived.Test.YtohljihndoodfaaDoorRgD1
import Derived.Test.YtohljihndoodfaaDoorRgD2
import Derived.Test.YtohljihndoodfaaDoorExNb
namespace Go.Proofs.YtohljihndoodfaaDoor.Rg
open Go.RowKit Lx Ep

def codeT (bits : List Nm) (tag : Nm → Bool) (l : List In) : Int := if 12 < l.length then 2 else codeGo bits tag 0 l
def tagT (all : Bool) (tags : List Nm) : Nm → Bool := fun x => all || decide (x ∈ tags)
def CdRel (bits : List Nm) (tag : Nm → Bool) (l : List In) (len : Nat) (X : Int) (w : World) (n i : Value) (wr : World) : Prop :=
  ∃ (k : Nat) (d : Int), k ≤ len ∧ n = .int .i64 d ∧ i = .int .i64 (k : Int) ∧ 0 ≤ d ∧ d ≤ 8 ∧ Hid (codeGo bits tag d (l.drop k) = X) ∧ Hid (Below w.heap.size w wr)
theorem code_step {bits : List Nm} {tag : Nm → Bool} {l : List In} {k : Nat} (d : Int) (hk : k < l.length) : codeGo bits tag d (l.drop k) = if insP bits tag l[k] = 0 then (if d < takesP l[k].op then 1 else if 8 < d + (1 - takesP l[k].op) then 1 else codeGo bits tag (d + (1 - takesP l[k].op)) (l.drop (k + 1))) else insP bits tag l[k] := by
  rw [List.drop_eq_getElem_cons hk, codeGo]
theorem formed_parts {i : In} (h : formedI i = true) : (usesP i.op = 1 ∧ ownB i.op = true ∧ (i.op != 2) = true ∧ i.e.op = 0 ∧ i.e.n = 0 ∧ i.e.name = [] ∧ i.e.kids.length = 0) ∨ (usesP i.op = 2 ∧ i.op = 2 ∧ i.nm = []) ∨ (usesP i.op = 0 ∧ ownB i.op = false ∧ (i.op != 2) = true ∧ i.nm = [] ∧ i.e.op = 0 ∧ i.e.n = 0 ∧ i.e.name = [] ∧ i.e.kids.length = 0) := by
  obtain ⟨h0, h1⟩ := formed_op h
  have hin : in10 i.op = true := by unfold in10; rw [decide_eq_true h0, decide_eq_true h1]; rfl
  unfold formedI at h
  unfold ownB
  rw [hin] at h ⊢
  simp only [Bool.true_and, Bool.and_eq_true, Bool.or_eq_true, decide_eq_true_eq, zeroB, and_assoc] at h
  obtain ⟨hn, hz⟩ := h
  have h2 : usesP i.op = 2 ↔ i.op = 2 := by
    rcases in10_cases hin with h | h | h | h | h | h | h | h | h | h <;> rw [h] <;> decide
  rcases usesP_012 i.op with hu | hu | hu
  · right; right
    have e2 : i.op ≠ 2 := fun h => by rw [← h2] at h; omega
    refine ⟨hu, by rw [hu]; rfl, by simpa using e2, ?_, ?_⟩
    · rcases hn with hn | hn
      · omega
      · exact hn
    · rcases hz with hz | hz
      · omega
      · exact hz
  · left
    have e2 : i.op ≠ 2 := fun h => by rw [← h2] at h; omega
    refine ⟨hu, by rw [hu]; rfl, by simpa using e2, ?_⟩
    rcases hz with hz | hz
    · omega
    · exact hz
  · right; left
    refine ⟨hu, h2.1 hu, ?_⟩
    rcases hn with hn | hn
    · omega
    · exact hn
theorem formed_not {i : In} (h : formedI i = false) : i.op < 0 ∨ 9 < i.op ∨ (ownB i.op = false ∧ i.nm ≠ []) ∨ (i.op ≠ 2 ∧ ¬ (i.e.op = 0 ∧ i.e.n = 0 ∧ i.e.name = [] ∧ i.e.kids.length = 0)) := by
  by_cases hin : in10 i.op = true
  · right; right
    have h2 : usesP i.op = 2 ↔ i.op = 2 := by
      rcases in10_cases hin with h | h | h | h | h | h | h | h | h | h <;> rw [h] <;> decide
    unfold formedI at h
    unfold ownB
    rw [hin] at h ⊢
    simp only [Bool.true_and, Bool.and_eq_false_iff, Bool.or_eq_false_iff, decide_eq_false_iff_not, zeroB] at h ⊢
    rcases h with ⟨h1, h2'⟩ | ⟨h1, h3⟩
    · exact .inl ⟨h1, h2'⟩
    · right
      refine ⟨fun e => h1 (h2.2 e), ?_⟩
      rintro ⟨a, b, c, e⟩
      simp_all
  · unfold in10 at hin
    simp at hin
    omega
theorem takes_bd (op : Int) : 0 ≤ takesP op ∧ takesP op ≤ 2 := by
  unfold takesP
  have : op.toNat = 0 ∨ op.toNat = 1 ∨ op.toNat = 2 ∨ op.toNat = 3 ∨ op.toNat = 4 ∨ op.toNat = 5 ∨ op.toNat = 6 ∨ op.toNat = 7 ∨ op.toNat = 8 ∨ op.toNat = 9 ∨ 10 ≤ op.toNat := by omega
  rcases this with h | h | h | h | h | h | h | h | h | h | h
  all_goals first
    | (rw [h]; decide)
    | (rw [List.getD_eq_getElem?_getD, List.getElem?_eq_none (by simpa [operT9] using h)]; decide)
theorem sr_open {w : World} {v : Value} {R : List Nm} (h : SRow w v R) : ∃ A c, v = .slice A R.length c ∧ Strs w A R := by
  obtain ⟨a, cap, rfl, _, hk⟩ := h
  refine ⟨a, cap, rfl, fun hl => ?_⟩
  obtain ⟨g, e, hg, hc⟩ := hk (List.ne_nil_of_length_pos hl)
  refine ⟨g, 0, e, hg, fun i hi j u hu => ?_⟩
  have hj : j = 0 := by
    have := (List.getElem?_eq_some_iff.1 hu).1
    simp [strC] at this
    omega
  subst hj
  have := hc i hi
  rw [List.getD_eq_getElem?_getD, List.getElem?_eq_getElem hi] at this
  simp [strC] at hu
  subst hu
  simpa using this
set_option maxRecDepth 100000 in
set_option maxHeartbeats 16000000 in
theorem rCode_any (l : List In) (A : Option Addr) (cap : Nat) (bits tags : List Nm) (BA TA : Option Addr) (bc tc : Nat) (all : Bool) (w : World) (hC : Code w A l) (hB : Strs w BA bits) (hT : Strs w TA tags) (hs : ∀ i ∈ l, ShI i) (hl : l.length ≤ 50) (hbn : bits.length ≤ 1000) (htn : tags.length ≤ 1000) :
    Calls Tryd.prog 39 #[.slice A l.length cap, .slice BA bits.length bc, .slice TA tags.length tc, .bool all] w fun e w' => e = .returned (.int .i64 (codeT bits (tagT all tags) l)) ∧ Below w.heap.size w w' := by
  have HC := Lib.hid hC
  have HPb := Lib.hid (fun x w1 (hb : Below w.heap.size w w1) => Place_any bits BA bc x w1 (hB.below hb) (by omega))
  have HPt := Lib.hid (fun x w1 (hb : Below w.heap.size w w1) => Place_any tags TA tc x w1 (hT.below hb) (by omega))
  have HSh := Lib.hid hs
  have HX : Hid (codeT bits (tagT all tags) l = if 12 < l.length then 2 else codeGo bits (tagT all tags) 0 (l.drop 0)) := rfl
  generalize codeT bits (tagT all tags) l = X at *
  clear hC hB hT hs
  generalize hL : l.length = len at *
  have HL := Lib.hid hL
  clear hL
  generalize hbl : bits.length = bn at *
  generalize htl : tags.length = tn at *
  clear hbl htl
  by_cases h12 : 12 < len
  · have d12 : decide ((12 : Int) < (len : Int)) = true := by simp; omega
    have HX2 : Hid (2 = X) := by unfold Hid; rw [HX.out, if_pos h12]
    go_enter Tryd.func39, Tryd.ntmps39
    go_wp2
    go_ret
    exact ⟨ret_int HX2.out, Below.refl _ _⟩
  have d12 : decide ((12 : Int) < (len : Int)) = false := by simp; omega
  have HX2 : Hid (codeGo bits (tagT all tags) 0 (l.drop 0) = X) := by unfold Hid; rw [HX.out, if_neg h12]
  clear h12 HX
  go_enter Tryd.func39, Tryd.ntmps39
  go_wp2
  clear d12
  go_loopw [9, 10] (CdRel bits (tagT all tags) l len X w) (fun _ i _ => len - (intOf i).toNat)
  case atStart => exact ⟨0, 0, by omega, rfl, rfl, by omega, by omega, HX2, Below.refl _ _⟩
  case round =>
    rename World => wr
    obtain ⟨k, d, hk, rfl, rfl, hd0, hd8, HS, HBl⟩ := hrel
    by_cases hlt : k < len
    · have hki : k < l.length := by rw [HL.out]; exact hlt
      obtain ⟨g, off, rfl, hg, hTr, c0, c1, c2, c3, c4, c5⟩ := Code.at6 (HC.out.below HBl.out) hki
      have HSt := Lib.hid (code_step (bits := bits) (tag := tagT all tags) d hki)
      have hsh := HSh.out l[k] (List.getElem_mem hki)
      generalize l[k] = i at *
      have hklt : ((k : Nat) : Int) < (len : Int) := by omega
      have hb1 := HBl.out.alloc HBl.out.size (.cells #[.int .i64 i.op, .string ⟨i.nm.toArray⟩, .int .i64 i.e.op, .int .i64 i.e.n, .string ⟨i.e.name.toArray⟩, .slice i.ea i.e.kids.length i.ec] 40)
      have hx1 := Box.new wr 40 #[.int .i64 i.op, .string ⟨i.nm.toArray⟩, .int .i64 i.e.op, .int .i64 i.e.n, .string ⟨i.e.name.toArray⟩, .slice i.ea i.e.kids.length i.ec]
      have hTr1 := hTr.below ((Below.refl wr.heap.size wr).alloc (Nat.le_refl _) (.cells #[.int .i64 i.op, .string ⟨i.nm.toArray⟩, .int .i64 i.e.op, .int .i64 i.e.n, .string ⟨i.e.name.toArray⟩, .slice i.ea i.e.kids.length i.ec] 40))
      have q0 := hx1.cell 0
      have q1 := hx1.cell 1
      have q2 := hx1.cell 2
      have q3 := hx1.cell 3
      have q4 := hx1.cell 4
      have q5 := hx1.cell 5
      simp at q0 q1 q2 q3 q4 q5
      generalize hm : i.e.kids.length = m at *
      have Hm := Lib.hid hm
      clear hm hTr
      have HBe := Lib.hid hb1
      by_cases hf : formedI i = true
      · have hop := formed_op hf
        have o0 : decide (i.op < 0) = false := decide_eq_false (by omega)
        have o1 : decide (9 < i.op) = false := decide_eq_false (by omega)
        have hnd : needP i.op = takesP i.op := by unfold needP in10; rw [decide_eq_true hop.1, decide_eq_true hop.2]; rfl
        have htk := takes_bd i.op
        have HF := Lib.hid (formed_parts hf)
        have HNd := fun w1 => rneeds_any i.op w1
        rw [hnd] at HNd
        have HNe := Lib.hid HNd
        have hin : insP bits (tagT all tags) i = if usesP i.op = 1 then (if i.nm ∈ bits then 0 else 21) else if usesP i.op = 2 then cmpP (tagT all tags) i.e else 0 := by unfold insP; rw [if_neg (by rw [hf]; simp)]
        have HIn := Lib.hid hin
        generalize takesP i.op = t at *
        clear hnd HNd hin hf
        rcases HF.out with hp | hp | hp
        · obtain ⟨hu, how, ho2, z1, z2, z3, z4⟩ := hp
          have ho2' : (i.op == 2) = false := by simpa using ho2
          have hm0 : m = 0 := by rw [← Hm.out]; exact z4
          have HPl := HPb.out i.nm _ hb1
          have hBit := rbit_any i.op (wr.alloc (.cells #[.int .i64 i.op, .string ⟨i.nm.toArray⟩, .int .i64 i.e.op, .int .i64 i.e.n, .string ⟨i.e.name.toArray⟩, .slice i.ea m i.ec] 40))
          rw [how] at hBit
          by_cases hmem : i.nm ∈ bits
          · have HXt : Hid ((if d < t then 1 else if 8 < d + (1 - t) then 1 else codeGo bits (tagT all tags) (d + (1 - t)) (l.drop (k + 1))) = X) := by
              unfold Hid
              rw [← HS.out, HSt.out, HIn.out, if_pos hu, if_pos hmem, if_pos rfl]
            have hp : ¬ placeP bits i.nm < 0 := by have := (place_nn1 (R := bits) (x := i.nm)).1 hmem; omega
            generalize placeP bits i.nm = pl at *
            clear hmem HIn HSt HS hu how z4 Hm HF hTr1 hx1 hb1 hsh hop
            subst hm0
            generalize i.e.op = eop at *
            generalize i.e.n = en at *
            generalize i.e.name = enm at *
            subst z1 z2 z3
            go_wp2_with fail
            refine hBit.mono ?_
            rintro e w2 ⟨rfl, rfl⟩
            go_wp2_with fail
            refine HPl.mono ?_
            rintro e w3 ⟨rfl, rfl⟩
            by_cases hdt : d < t
            · have HXe : Hid (1 = X) := by unfold Hid; rw [← HXt.out, if_pos hdt]
              clear HXt
              go_wp2_with fail
              refine (HNe.out _).mono ?_
              rintro e w5 ⟨rfl, rfl⟩
              go_wp2
              go_ret
              exact ⟨ret_int HXe.out, HBe.out⟩
            by_cases hd9 : 8 < d - t + 1
            · have HXe : Hid (1 = X) := by unfold Hid; rw [← HXt.out, if_neg hdt, if_pos (by omega)]
              clear HXt
              go_wp2_with fail
              refine (HNe.out _).mono ?_
              rintro e w5 ⟨rfl, rfl⟩
              go_wp2
              go_ret
              exact ⟨ret_int HXe.out, HBe.out⟩
            · have HXe : Hid (codeGo bits (tagT all tags) (d - t + 1) (l.drop (k + 1)) = X) := by unfold Hid; rw [← HXt.out, if_neg hdt, if_neg (by omega), show d - t + 1 = d + (1 - t) by omega]
              clear HXt
              go_wp2_with fail
              refine (HNe.out _).mono ?_
              rintro e w5 ⟨rfl, rfl⟩
              go_wp2
              go_roundw
              case rel => exact ⟨k + 1, d - t + 1, by omega, rfl, by go_num, by omega, by omega, HXe, HBe⟩
              case measure => simp [intOf]; omega
          · have HXe : Hid (21 = X) := by
              unfold Hid
              rw [← HS.out, HSt.out, HIn.out, if_pos hu, if_neg hmem]
              rfl
            have hp : placeP bits i.nm < 0 := (place_nn1 (R := bits) (x := i.nm)).2 hmem
            generalize placeP bits i.nm = pl at *
            clear hmem HIn HSt HS hu how z4 Hm HF hTr1 hx1 hb1 hsh hop
            subst hm0
            generalize i.e.op = eop at *
            generalize i.e.n = en at *
            generalize i.e.name = enm at *
            subst z1 z2 z3
            go_wp2_with fail
            refine hBit.mono ?_
            rintro e w2 ⟨rfl, rfl⟩
            go_wp2_with fail
            refine HPl.mono ?_
            rintro e w3 ⟨rfl, rfl⟩
            go_wp2
            go_ret
            exact ⟨ret_int HXe.out, HBe.out⟩
        · obtain ⟨hu, ho2, hnm⟩ := hp
          have hBit := rbit_any 2 (wr.alloc (.cells #[.int .i64 2, .string ⟨#[]⟩, .int .i64 i.e.op, .int .i64 i.e.n, .string ⟨i.e.name.toArray⟩, .slice i.ea m i.ec] 40))
          rw [show ownB 2 = false from rfl] at hBit
          have HXc : Hid ((if cmpP (tagT all tags) i.e = 0 then (if d < t then 1 else if 8 < d + (1 - t) then 1 else codeGo bits (tagT all tags) (d + (1 - t)) (l.drop (k + 1))) else cmpP (tagT all tags) i.e) = X) := by
            unfold Hid
            rw [← HS.out, HSt.out, HIn.out, if_neg (show ¬ usesP i.op = 1 by omega), if_pos hu]
          have htree := hTr1.1
          have hnums := hTr1.2
          unfold exOf exV at htree
          rw [Hm.out] at htree
          have hshE := hsh.2
          have hRl : (namesP i.e).length ≤ 64 := by
            unfold namesP
            split
            · rename_i hmay
              exact Nat.le_trans (by have := fold_len (namesE i.e) []; simpa using this) (may_names hmay hnums)
            · simp
          have HNm := fun w5 (hb : Below (wr.alloc (.cells #[.int .i64 i.op, .string ⟨i.nm.toArray⟩, .int .i64 i.e.op, .int .i64 i.e.n, .string ⟨i.e.name.toArray⟩, .slice i.ea m i.ec] 40)).heap.size (wr.alloc (.cells #[.int .i64 i.op, .string ⟨i.nm.toArray⟩, .int .i64 i.e.op, .int .i64 i.e.n, .string ⟨i.e.name.toArray⟩, .slice i.ea m i.ec] 40)) w5) => refMay_any i.e (fun _ => True) _ w5 (htree.below hb (Nat.le_refl _)) hshE
          have hNames := refNames_any i.e (fun _ => True) _ _ htree hnums hshE
          have HMay := Lib.hid HNm
          have HX1 := Lib.hid hx1
          obtain ⟨b1, hz1⟩ : ∃ b, (i.e.op == 0) = b := ⟨_, rfl⟩
          obtain ⟨b2, hz2⟩ : ∃ b, (i.e.n == 0) = b := ⟨_, rfl⟩
          obtain ⟨b3, hz3⟩ : ∃ b, (i.e.name == []) = b := ⟨_, rfl⟩
          obtain ⟨b4, hz4⟩ : ∃ b, ((m : Int) == 0) = b := ⟨_, rfl⟩
          clear htree hnums hshE HNm HIn HSt HS hu Hm HF hTr1 hx1 hb1 hsh hop
          generalize i.nm = nm at *
          generalize i.op = op at *
          subst hnm ho2
          generalize hRR : namesP i.e = R at *
          have hcmp : cmpP (tagT all tags) i.e = if R.all (tagT all tags) = true then (if mayB i.e = true then 0 else 1) else 21 := by unfold cmpP; rw [hRR]
          have HCm := Lib.hid hcmp
          clear hcmp hRR
          go_wp2_with fail
          refine hBit.mono ?_
          rintro e w2 ⟨rfl, rfl⟩
          go_wp2_with fail
          all_goals
            refine hNames.mono ?_
            rintro e w5 ⟨v5, rfl, hsr, hb5⟩
            obtain ⟨na, nc, rfl, hst⟩ := sr_open hsr
            clear hsr
            have hb1n : Below w.heap.size w w5 := HBe.out.trans (hb5.mono HBe.out.size)
            have HB5 := Lib.hid hb1n
            have hs5 : wr.heap.size < w5.heap.size := by have := hb5.size; simp at this; omega
            have hx5 := HX1.out.below hb5 HX1.out.lt
            have qq2 := hx5.cell 2
            have qq3 := hx5.cell 3
            have qq4 := hx5.cell 4
            have qq5 := hx5.cell 5
            simp at qq2 qq3 qq4 qq5
            have HSr := Lib.hid hst
            generalize hrn : R.length = rn at *
            have HRn := Lib.hid hrn
            clear hrn hst hb1n hx5 hNames hBit
            cases all
            · go_wp2_with fail
              go_loopw [15] (fun v wz => ∃ j : Nat, j ≤ rn ∧ v = .int .i64 (j : Int) ∧ Hid (∀ x ∈ R.take j, x ∈ tags) ∧ w5 = wz) (fun v _ => rn - (intOf v).toNat)
              case atStart => exact ⟨0, by omega, rfl, (fun x hx => by simp at hx), rfl⟩
              case round =>
                obtain ⟨j, hj, rfl, HJ, rfl⟩ := hrel
                by_cases hjl : j < rn
                · have hji : j < R.length := by rw [HRn.out]; exact hjl
                  obtain ⟨g3, off3, rfl, hg3, n0⟩ := Strs.at1 HSr.out hji
                  have hPl := HPt.out R[j] w5 HB5.out
                  have hjr : ((j : Nat) : Int) < (rn : Int) := by omega
                  by_cases hy : R[j] ∈ tags
                  · have hp : ¬ placeP tags R[j] < 0 := by have := (place_nn1 (R := tags) (x := R[j])).1 hy; omega
                    have HJ2 : Hid (∀ x ∈ R.take (j + 1), x ∈ tags) := by
                      intro x hx
                      rw [List.take_succ_eq_append_getElem hji] at hx
                      rcases List.mem_append.1 hx with hx | hx
                      · exact HJ.out x hx
                      · simp only [List.mem_singleton] at hx
                        subst hx
                        exact hy
                    generalize placeP tags R[j] = pl at *
                    generalize R[j] = y at *
                    clear hy HJ
                    go_wp2_with fail
                    refine hPl.mono ?_
                    rintro e w6 ⟨rfl, rfl⟩
                    go_wp2
                    go_roundw
                    case rel => exact ⟨j + 1, by omega, by go_num, HJ2, trivial⟩
                    case measure => simp [intOf]; omega
                  · have hp : placeP tags R[j] < 0 := (place_nn1 (R := tags) (x := R[j])).2 hy
                    have HXe : Hid (21 = X) := by
                      have h0 : R.all (tagT false tags) = false := by
                        rw [List.all_eq_false]
                        exact ⟨R[j], List.getElem_mem hji, by simp [tagT, hy]⟩
                      have h1 : cmpP (tagT false tags) i.e = 21 := by rw [HCm.out, h0]; rfl
                      unfold Hid
                      rw [← HXc.out, h1]
                      rfl
                    generalize placeP tags R[j] = pl at *
                    generalize R[j] = y at *
                    clear hy HJ HXc HCm
                    go_wp2_with fail
                    refine hPl.mono ?_
                    rintro e w6 ⟨rfl, rfl⟩
                    go_wp2
                    go_ret
                    exact ⟨ret_int HXe.out, HB5.out⟩
                · have hjr : ¬ ((j : Nat) : Int) < (rn : Int) := by omega
                  have HAll : Hid (R.all (tagT false tags) = true) := by
                    unfold Hid
                    rw [List.all_eq_true]
                    intro x hx
                    have := HJ.out x (by rw [List.take_of_length_le (by rw [HRn.out]; omega)]; exact hx)
                    simp [tagT, this]
                  clear HJ
                  have hMy := HMay.out w5 hb5
                  generalize hmb : mayB i.e = mb at *
                  have HMb := Lib.hid hmb
                  clear hmb HMay
                  cases mb
                  · have HXe : Hid (1 = X) := by
                      have h1 : cmpP (tagT false tags) i.e = 1 := by rw [HCm.out, if_pos HAll.out]; rfl
                      unfold Hid
                      rw [← HXc.out, h1]
                      rfl
                    clear HXc HCm HAll hb5
                    go_wp2_with fail
                    refine hMy.mono ?_
                    rintro e w6 ⟨rfl, hb6⟩
                    have HBg := Lib.hid (HB5.out.trans (hb6.mono HB5.out.size))
                    go_wp2
                    go_ret
                    exact ⟨ret_int HXe.out, HBg.out⟩
                  · have HXt : Hid ((if d < t then 1 else if 8 < d + (1 - t) then 1 else codeGo bits (tagT false tags) (d + (1 - t)) (l.drop (k + 1))) = X) := by
                      have h1 : cmpP (tagT false tags) i.e = 0 := by rw [HCm.out, if_pos HAll.out]; rfl
                      unfold Hid
                      rw [← HXc.out, h1, if_pos rfl]
                    clear HXc HCm HAll
                    have hx5 := HX1.out.below hb5 HX1.out.lt
                    have q0 := hx5.cell 0
                    simp at q0
                    clear hx5 HX1 hb5
                    go_wp2_with fail
                    refine hMy.mono ?_
                    rintro e w6 ⟨rfl, hb6⟩
                    have q00 := hb6.cell (p := ⟨wr.heap.size, 0, none⟩) (show wr.heap.size < w5.heap.size by omega)
                    rw [q0] at q00
                    have HBg := Lib.hid (HB5.out.trans (hb6.mono HB5.out.size))
                    clear hb6
                    by_cases hdt : d < t
                    · have HXe : Hid (1 = X) := by unfold Hid; rw [← HXt.out, if_pos hdt]
                      clear HXt
                      go_wp2_with fail
                      refine (HNe.out _).mono ?_
                      rintro e w5 ⟨rfl, rfl⟩
                      go_wp2
                      go_ret
                      exact ⟨ret_int HXe.out, HBg.out⟩
                    by_cases hd9 : 8 < d - t + 1
                    · have HXe : Hid (1 = X) := by unfold Hid; rw [← HXt.out, if_neg hdt, if_pos (by omega)]
                      clear HXt
                      go_wp2_with fail
                      refine (HNe.out _).mono ?_
                      rintro e w5 ⟨rfl, rfl⟩
                      go_wp2
                      go_ret
                      exact ⟨ret_int HXe.out, HBg.out⟩
                    · have HXe : Hid (codeGo bits (tagT false tags) (d - t + 1) (l.drop (k + 1)) = X) := by unfold Hid; rw [← HXt.out, if_neg hdt, if_neg (by omega), show d - t + 1 = d + (1 - t) by omega]
                      clear HXt
                      go_wp2_with fail
                      refine (HNe.out _).mono ?_
                      rintro e w5 ⟨rfl, rfl⟩
                      go_wp2
                      go_roundw
                      case rel => exact ⟨k + 1, d - t + 1, by omega, rfl, by go_num, by omega, by omega, HXe, HBg⟩
                      case measure => simp [intOf]; omega
            · have HAll : Hid (R.all (tagT true tags) = true) := by
                unfold Hid
                rw [List.all_eq_true]
                intro x _
                rfl
              go_wp2_with fail
              go_loopw [15] (fun v wz => v = .int .i64 0 ∧ w5 = wz) (fun _ _ => 0)
              case atStart => exact ⟨rfl, rfl⟩
              case round =>
                obtain ⟨rfl, rfl⟩ := hrel
                by_cases hr0 : 0 < rn
                · have hjr : (0 : Int) < (rn : Int) := by omega
                  have hMy := HMay.out w5 hb5
                  generalize hmb : mayB i.e = mb at *
                  have HMb := Lib.hid hmb
                  clear hmb HMay
                  cases mb
                  · have HXe : Hid (1 = X) := by
                      have h1 : cmpP (tagT true tags) i.e = 1 := by rw [HCm.out, if_pos HAll.out]; rfl
                      unfold Hid
                      rw [← HXc.out, h1]
                      rfl
                    clear HXc HCm HAll hb5
                    go_wp2_with fail
                    refine hMy.mono ?_
                    rintro e w6 ⟨rfl, hb6⟩
                    have HBg := Lib.hid (HB5.out.trans (hb6.mono HB5.out.size))
                    go_wp2
                    go_ret
                    exact ⟨ret_int HXe.out, HBg.out⟩
                  · have HXt : Hid ((if d < t then 1 else if 8 < d + (1 - t) then 1 else codeGo bits (tagT true tags) (d + (1 - t)) (l.drop (k + 1))) = X) := by
                      have h1 : cmpP (tagT true tags) i.e = 0 := by rw [HCm.out, if_pos HAll.out]; rfl
                      unfold Hid
                      rw [← HXc.out, h1, if_pos rfl]
                    clear HXc HCm HAll
                    have hx5 := HX1.out.below hb5 HX1.out.lt
                    have q0 := hx5.cell 0
                    simp at q0
                    clear hx5 HX1 hb5
                    go_wp2_with fail
                    refine hMy.mono ?_
                    rintro e w6 ⟨rfl, hb6⟩
                    have q00 := hb6.cell (p := ⟨wr.heap.size, 0, none⟩) (show wr.heap.size < w5.heap.size by omega)
                    rw [q0] at q00
                    have HBg := Lib.hid (HB5.out.trans (hb6.mono HB5.out.size))
                    clear hb6
                    by_cases hdt : d < t
                    · have HXe : Hid (1 = X) := by unfold Hid; rw [← HXt.out, if_pos hdt]
                      clear HXt
                      go_wp2_with fail
                      refine (HNe.out _).mono ?_
                      rintro e w5 ⟨rfl, rfl⟩
                      go_wp2
                      go_ret
                      exact ⟨ret_int HXe.out, HBg.out⟩
                    by_cases hd9 : 8 < d - t + 1
                    · have HXe : Hid (1 = X) := by unfold Hid; rw [← HXt.out, if_neg hdt, if_pos (by omega)]
                      clear HXt
                      go_wp2_with fail
                      refine (HNe.out _).mono ?_
                      rintro e w5 ⟨rfl, rfl⟩
                      go_wp2
                      go_ret
                      exact ⟨ret_int HXe.out, HBg.out⟩
                    · have HXe : Hid (codeGo bits (tagT true tags) (d - t + 1) (l.drop (k + 1)) = X) := by unfold Hid; rw [← HXt.out, if_neg hdt, if_neg (by omega), show d - t + 1 = d + (1 - t) by omega]
                      clear HXt
                      go_wp2_with fail
                      refine (HNe.out _).mono ?_
                      rintro e w5 ⟨rfl, rfl⟩
                      go_wp2
                      go_roundw
                      case rel => exact ⟨k + 1, d - t + 1, by omega, rfl, by go_num, by omega, by omega, HXe, HBg⟩
                      case measure => simp [intOf]; omega
                · have hjr : ¬ (0 : Int) < (rn : Int) := by omega
                  have hMy := HMay.out w5 hb5
                  generalize hmb : mayB i.e = mb at *
                  have HMb := Lib.hid hmb
                  clear hmb HMay
                  cases mb
                  · have HXe : Hid (1 = X) := by
                      have h1 : cmpP (tagT true tags) i.e = 1 := by rw [HCm.out, if_pos HAll.out]; rfl
                      unfold Hid
                      rw [← HXc.out, h1]
                      rfl
                    clear HXc HCm HAll hb5
                    go_wp2_with fail
                    refine hMy.mono ?_
                    rintro e w6 ⟨rfl, hb6⟩
                    have HBg := Lib.hid (HB5.out.trans (hb6.mono HB5.out.size))
                    go_wp2
                    go_ret
                    exact ⟨ret_int HXe.out, HBg.out⟩
                  · have HXt : Hid ((if d < t then 1 else if 8 < d + (1 - t) then 1 else codeGo bits (tagT true tags) (d + (1 - t)) (l.drop (k + 1))) = X) := by
                      have h1 : cmpP (tagT true tags) i.e = 0 := by rw [HCm.out, if_pos HAll.out]; rfl
                      unfold Hid
                      rw [← HXc.out, h1, if_pos rfl]
                    clear HXc HCm HAll
                    have hx5 := HX1.out.below hb5 HX1.out.lt
                    have q0 := hx5.cell 0
                    simp at q0
                    clear hx5 HX1 hb5
                    go_wp2_with fail
                    refine hMy.mono ?_
                    rintro e w6 ⟨rfl, hb6⟩
                    have q00 := hb6.cell (p := ⟨wr.heap.size, 0, none⟩) (show wr.heap.size < w5.heap.size by omega)
                    rw [q0] at q00
                    have HBg := Lib.hid (HB5.out.trans (hb6.mono HB5.out.size))
                    clear hb6
                    by_cases hdt : d < t
                    · have HXe : Hid (1 = X) := by unfold Hid; rw [← HXt.out, if_pos hdt]
                      clear HXt
                      go_wp2_with fail
                      refine (HNe.out _).mono ?_
                      rintro e w5 ⟨rfl, rfl⟩
                      go_wp2
                      go_ret
                      exact ⟨ret_int HXe.out, HBg.out⟩
                    by_cases hd9 : 8 < d - t + 1
                    · have HXe : Hid (1 = X) := by unfold Hid; rw [← HXt.out, if_neg hdt, if_pos (by omega)]
                      clear HXt
                      go_wp2_with fail
                      refine (HNe.out _).mono ?_
                      rintro e w5 ⟨rfl, rfl⟩
                      go_wp2
                      go_ret
                      exact ⟨ret_int HXe.out, HBg.out⟩
                    · have HXe : Hid (codeGo bits (tagT true tags) (d - t + 1) (l.drop (k + 1)) = X) := by unfold Hid; rw [← HXt.out, if_neg hdt, if_neg (by omega), show d - t + 1 = d + (1 - t) by omega]
                      clear HXt
                      go_wp2_with fail
                      refine (HNe.out _).mono ?_
                      rintro e w5 ⟨rfl, rfl⟩
                      go_wp2
                      go_roundw
                      case rel => exact ⟨k + 1, d - t + 1, by omega, rfl, by go_num, by omega, by omega, HXe, HBg⟩
                      case measure => simp [intOf]; omega
        · obtain ⟨hu, how, ho2, hnm, z1, z2, z3, z4⟩ := hp
          have ho2' : (i.op == 2) = false := by simpa using ho2
          have hm0 : m = 0 := by rw [← Hm.out]; exact z4
          have hBit := rbit_any i.op (wr.alloc (.cells #[.int .i64 i.op, .string ⟨i.nm.toArray⟩, .int .i64 i.e.op, .int .i64 i.e.n, .string ⟨i.e.name.toArray⟩, .slice i.ea m i.ec] 40))
          rw [how] at hBit
          have HXt : Hid ((if d < t then 1 else if 8 < d + (1 - t) then 1 else codeGo bits (tagT all tags) (d + (1 - t)) (l.drop (k + 1))) = X) := by
            unfold Hid
            rw [← HS.out, HSt.out, HIn.out, if_neg (show ¬ usesP i.op = 1 by omega), if_neg (show ¬ usesP i.op = 2 by omega), if_pos rfl]
          clear HIn HSt HS hu how z4 Hm HF hTr1 hx1 hb1 hsh hop
          generalize i.nm = nm at *
          subst hnm hm0
          generalize i.e.op = eop at *
          generalize i.e.n = en at *
          generalize i.e.name = enm at *
          subst z1 z2 z3
          go_wp2_with fail
          refine hBit.mono ?_
          rintro e w2 ⟨rfl, rfl⟩
          by_cases hdt : d < t
          · have HXe : Hid (1 = X) := by unfold Hid; rw [← HXt.out, if_pos hdt]
            clear HXt
            go_wp2_with fail
            refine (HNe.out _).mono ?_
            rintro e w5 ⟨rfl, rfl⟩
            go_wp2
            go_ret
            exact ⟨ret_int HXe.out, HBe.out⟩
          by_cases hd9 : 8 < d - t + 1
          · have HXe : Hid (1 = X) := by unfold Hid; rw [← HXt.out, if_neg hdt, if_pos (by omega)]
            clear HXt
            go_wp2_with fail
            refine (HNe.out _).mono ?_
            rintro e w5 ⟨rfl, rfl⟩
            go_wp2
            go_ret
            exact ⟨ret_int HXe.out, HBe.out⟩
          · have HXe : Hid (codeGo bits (tagT all tags) (d - t + 1) (l.drop (k + 1)) = X) := by unfold Hid; rw [← HXt.out, if_neg hdt, if_neg (by omega), show d - t + 1 = d + (1 - t) by omega]
            clear HXt
            go_wp2_with fail
            refine (HNe.out _).mono ?_
            rintro e w5 ⟨rfl, rfl⟩
            go_wp2
            go_roundw
            case rel => exact ⟨k + 1, d - t + 1, by omega, rfl, by go_num, by omega, by omega, HXe, HBe⟩
            case measure => simp [intOf]; omega
      · have hf' : formedI i = false := by simpa using hf
        have HXf : Hid (1 = X) := by
          have h1 : insP bits (tagT all tags) i = 1 := by unfold insP; rw [if_pos hf']
          unfold Hid
          rw [← HS.out, HSt.out, h1]
          rfl
        have HFa := formed_not hf'
        rw [Hm.out] at HFa
        have HF := Lib.hid HFa
        have hBit := fun w1 => rbit_any i.op w1
        generalize ownB i.op = ow at *
        clear hf hf' HFa HS HSt hsh hTr1 hx1 hb1 HSh HPb HPt
        go_wp2_with fail
        refine (hBit _).mono ?_
        rintro e w2 ⟨rfl, rfl⟩
        go_wp2_with fail
        all_goals first
          | (go_ret; exact ⟨ret_int HXf.out, HBl.out.alloc HBl.out.size _⟩)
          | (exfalso; have hh := HF.out; simp_all; done)
          | (exfalso; have hh := HF.out; simp_all; omega)
    · have HX3 : Hid ((if d = 1 then (0 : Int) else 1) = X) := by
        have := HS.out
        rw [List.drop_eq_nil_of_le (by rw [HL.out]; omega), codeGo] at this
        exact this
      by_cases hd1 : d = 1
      · have b1 : (d != 1) = false := by simp [hd1]
        have HX4 : Hid (0 = X) := by unfold Hid; rw [← HX3.out, if_pos hd1]
        clear hd1 HX3
        go_wp2
        go_ret
        exact ⟨ret_int HX4.out, HBl.out⟩
      · have b1 : (d != 1) = true := by simpa using hd1
        have HX4 : Hid (1 = X) := by unfold Hid; rw [← HX3.out, if_neg hd1]
        clear hd1 HX3
        go_wp2
        go_ret
        exact ⟨ret_int HX4.out, HBl.out⟩
end Go.Proofs.YtohljihndoodfaaDoor.Rg
