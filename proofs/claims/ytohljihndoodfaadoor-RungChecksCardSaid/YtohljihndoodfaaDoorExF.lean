/-
  Contracts of expr.formed and expr.spare.
-/
import Derived.Test.YtohljihndoodfaaDoorExT
import Derived.LoopTactic
namespace Go.Proofs.YtohljihndoodfaaDoor.Ep
open Go.RowKit Lx

theorem formed_parts (op n : Int) (nm : List UInt8) (k : Nat) (h1 : inT op = true) (h2 : (k : Int) = opK op) : formedB op n nm k = (if op = 0 then decide (0 ≤ n) && nm.isEmpty else if op = 1 then decide (n = 0) && nameB nm else decide (n = 0) && nm.isEmpty) := by
  unfold formedB; rw [h1, decide_eq_true h2]; rfl

set_option maxHeartbeats 1000000 in
theorem formed_out (op n : Int) (nm : ByteArray) (a : Option Addr) (k cap : Nat) (w : World) (ho : op < 0 ∨ 17 ≤ op) :
    Calls Tryd.prog 40 #[.agg #[.int .i64 op, .int .i64 n, .string nm, .slice a k cap]] w fun e w' => e = .returned (.bool false) ∧ Below w.heap.size w w' := by
  by_cases h0 : op < 0
  · have d1 : decide (op < 0) = true := by simpa using h0
    clear ho h0
    go_enter Tryd.func40, Tryd.ntmps40
    go_wp2
    go_quiet (fail)
    go_wp2
    go_ret
    exact ⟨rfl, ((Below.refl _ _).alloc (Nat.le_refl _) _).drewN _⟩
  · have d1 : decide (op < 0) = false := by simp; omega
    have d2 : decide ((17 : Int) ≤ op) = true := by simp; omega
    clear ho h0
    go_enter Tryd.func40, Tryd.ntmps40
    go_wp2
    go_quiet (fail)
    go_wp2
    go_ret
    exact ⟨rfl, ((Below.refl _ _).alloc (Nat.le_refl _) _).drewN _⟩

set_option maxHeartbeats 1000000 in
theorem formed_0 (o : Nat) (n : Int) (nm : ByteArray) (a : Option Addr) (k cap : Nat) (w : World) (hO : Ops w) (ho : o < 17) (hk : (k : Int) ≠ opK o) :
    Calls Tryd.prog 40 #[.agg #[.int .i64 o, .int .i64 n, .string nm, .slice a k cap]] w fun e w' => e = .returned (.bool false) ∧ Below w.heap.size w w' := by
  have hG := hO.lt
  have h1 := hO.k o ho
  have b1 := opK_bd o ho
  clear hO
  generalize opK (o : Int) = x at *
  have d1 : decide ((o : Int) < 0) = false := by simp
  have d2 : decide ((17 : Int) ≤ (o : Int)) = false := by simp; omega
  have d3 : ((k : Int) != x) = true := by simpa using hk
  clear hk
  go_enter Tryd.func40, Tryd.ntmps40
  go_wp2
  go_quiet (fail)
  go_wp2
  go_ret
  exact ⟨rfl, ((Below.refl _ _).alloc (Nat.le_refl _) _).drewN _⟩

set_option maxHeartbeats 1000000 in
theorem formed_1 (o : Nat) (n : Int) (nm : List UInt8) (a : Option Addr) (k cap : Nat) (w : World) (hO : Ops w) (ho : o < 17) (hk : (k : Int) = opK o) :
    Calls Tryd.prog 40 #[.agg #[.int .i64 o, .int .i64 n, .string ⟨nm.toArray⟩, .slice a k cap]] w fun e w' => e = .returned (.bool (formedB o n nm k)) ∧ Below w.heap.size w w' := by
  have HF := Lib.hid (formed_parts o n nm k ((inT_iff _).2 ⟨by omega, by omega⟩) hk)
  have hG := hO.lt
  have h1 := hO.k o ho
  have b1 := opK_bd o ho
  clear hO
  rw [← hk] at h1
  have d1 : decide ((o : Int) < 0) = false := by simp
  have d2 : decide ((17 : Int) ≤ (o : Int)) = false := by simp; omega
  have d3 : ((k : Int) != (k : Int)) = false := by simp
  clear hk b1
  by_cases o0 : o = 0
  · have e0 : ((o : Int) == 0) = true := by simp [o0]
    have HO := Lib.hid o0; clear o0
    go_enter Tryd.func40, Tryd.ntmps40
    go_wp2
    go_quiet (fail)
    go_wp2
    all_goals go_ret
    all_goals refine ⟨ret_bool ?_, ((Below.refl _ _).alloc (Nat.le_refl _) _).drewN _⟩
    all_goals (rw [HF.out, if_pos (by simp [HO.out])]; simp [*]; try omega)
  · have e0 : ((o : Int) == 0) = false := by simp; omega
    have HO := Lib.hid o0; clear o0
    by_cases o1 : o = 1
    · have e1 : ((o : Int) == 1) = true := by simp [o1]
      have HP := Lib.hid o1; clear o1
      go_enter Tryd.func40, Tryd.ntmps40
      go_wp2
      go_quiet (fail)
      go_wp2_with (go_at_call 49; refine (Name_any _ _).mono ?_; rintro e w' ⟨rfl, hb⟩)
      · go_ret
        refine ⟨ret_bool ?_, (((Below.refl _ _).alloc (Nat.le_refl _) _).drewN _).trans (hb.mono (by simp))⟩
        rw [HF.out, if_neg (by have := HO.out; omega), if_pos (by simp [HP.out])]; simp [*]
      · go_ret
        refine ⟨ret_bool ?_, ((Below.refl _ _).alloc (Nat.le_refl _) _).drewN _⟩
        rw [HF.out, if_neg (by have := HO.out; omega), if_pos (by simp [HP.out])]; simp [*]
    · have e1 : ((o : Int) == 1) = false := by simp; omega
      have HP := Lib.hid o1; clear o1
      go_enter Tryd.func40, Tryd.ntmps40
      go_wp2
      go_quiet (fail)
      go_wp2
      all_goals go_ret
      all_goals refine ⟨ret_bool ?_, ((Below.refl _ _).alloc (Nat.le_refl _) _).drewN _⟩
      all_goals (rw [HF.out, if_neg (by have := HO.out; omega), if_neg (by have := HP.out; omega)]; simp [*])

theorem formed_any (op n : Int) (nm : List UInt8) (a : Option Addr) (k cap : Nat) (w : World) (hO : Ops w) :
    Calls Tryd.prog 40 #[exV op n nm a k cap] w fun e w' => e = .returned (.bool (formedB op n nm k)) ∧ Below w.heap.size w w' := by
  unfold exV
  by_cases ho : op < 0 ∨ 17 ≤ op
  · have : formedB op n nm k = false := by
      have : inT op = false := by simp [inT]; omega
      unfold formedB; rw [this]; rfl
    rw [this]
    exact formed_out op n _ a k cap w ho
  · obtain ⟨o, rfl⟩ := Int.eq_ofNat_of_zero_le (show 0 ≤ op by omega)
    by_cases hk : (k : Int) = opK o
    · exact formed_1 o n nm a k cap w hO (by omega) hk
    · have : formedB o n nm k = false := by
        unfold formedB; rw [decide_eq_false hk]; simp
      rw [this]
      exact formed_0 o n _ a k cap w hO (by omega) hk

theorem formed_true {op n : Int} {nm : List UInt8} {k : Nat} (h : formedB op n nm k = true) : inT op = true ∧ (k : Int) = opK op := by
  unfold formedB at h
  simp only [Bool.and_eq_true, decide_eq_true_eq] at h
  exact h.1

theorem Ex.ind {P : Ex → Prop} (h : ∀ op n nm ks, (∀ k ∈ ks, P k) → P (.mk op n nm ks)) : ∀ t, P t
  | .mk op n nm ks => h op n nm ks (fun k _hk => Ex.ind h k)
termination_by t => SizeOf.sizeOf t
decreasing_by
  have := List.sizeOf_lt_of_mem _hk
  simp
  omega

theorem spareL_nil (op : Int) (i : Nat) (m : Int) : spareL op [] i m = m := by rw [spareL]
theorem spareL_cons (op : Int) (k : Ex) (ks : List Ex) (i : Nat) (m : Int) : spareL op (k :: ks) i m = spareL op ks (i + 1) (spareE k (if enclB op k.op i = true then m - 2 else m)) := by rw [spareL]
theorem spareL_bd (op : Int) : ∀ (ks : List Ex), (∀ k ∈ ks, ∀ m : Int, m ≤ 64 → -1 ≤ spareE k m ∧ spareE k m ≤ 64) → ∀ (i : Nat) (m : Int), -1 ≤ m → m ≤ 64 → -1 ≤ spareL op ks i m ∧ spareL op ks i m ≤ 64
  | [], _, i, m, h1, h2 => by unfold spareL; omega
  | k :: ks, h, i, m, h1, h2 => by
    unfold spareL
    have a := h k (by simp) (if enclB op k.op i = true then m - 2 else m) (by split <;> omega)
    exact spareL_bd op ks (fun k' hk' => h k' (by simp [hk'])) (i + 1) _ a.1 a.2
theorem spareE_bd (t : Ex) : ∀ m : Int, m ≤ 64 → -1 ≤ spareE t m ∧ spareE t m ≤ 64 := by
  induction t using Ex.ind with
  | h op n nm ks ih =>
    intro m hm
    unfold spareE
    split
    · omega
    · rename_i hc
      exact spareL_bd op ks ih 0 (m - 1) (by omega) (by omega)

set_option maxHeartbeats 4000000 in
theorem spare_any (t : Ex) : ∀ (lo : Nat → Prop) (v : Value) (m : Int) (w : World), Ops w → TreeV lo w t v → -1000 ≤ m → m ≤ 64 →
    Calls Tryd.prog 29 #[v, .int .i64 m] w fun e w' => e = .returned (.int .i64 (spareE t m)) ∧ Below w.heap.size w w' := by
  induction t using Ex.ind with
  | h op n nm ks ih =>
    intro lo v m w hO hT hm1 hm2
    have IH := Lib.hid ih
    clear ih
    unfold TreeV at hT
    obtain ⟨a, cap, rfl, hcap, hk⟩ := hT
    by_cases hm : m ≤ 0
    · have HX : Hid (spareE (.mk op n nm ks) m = -1) := by unfold Hid spareE; rw [if_pos (Or.inl hm)]
      clear hk IH
      have hd : decide (m ≤ 0) = true := by simpa using hm
      unfold exV
      go_enter Tryd.func29, Tryd.ntmps29
      go_wp2
      go_ret
      exact ⟨ret_int HX.out.symm, (Below.refl _ _).alloc (Nat.le_refl _) _⟩
    · have hd : decide (m ≤ 0) = false := by simpa using hm
      by_cases hf : formedB op n nm ks.length = true
      · obtain ⟨hin, hlen⟩ := formed_true hf
        have HF := Lib.hid hf
        have hl2 : ks.length ≤ 2 := by
          have := opK_bd op.toNat (by have := (inT_iff _).1 hin; omega)
          rw [Int.toNat_of_nonneg ((inT_iff _).1 hin).1] at this
          omega
        have HX : Hid (spareE (.mk op n nm ks) m = spareL op ks 0 (m - 1)) := by unfold Hid spareE; rw [if_neg (by rw [hf]; simp; omega)]
        have HIN := Lib.hid hin
        have HK := Lib.hid hk
        clear hk hlen hin hf
        generalize hL : ks.length = len at *
        have HL := Lib.hid hL
        clear hL
        unfold exV
        go_enter Tryd.func29, Tryd.ntmps29
        go_wp2_with fail
        refine (formed_any op n nm a len cap _ (hO.alloc _)).mono ?_
        rintro e w1 ⟨rfl, hb⟩
        rw [HF.out]
        have b0 : w1.cell? ⟨w.heap.size, 0, none⟩ = some (.int .i64 op) := by rw [hb.cell (by simp)]; simp
        have b1 : w1.cell? ⟨w.heap.size, 1, none⟩ = some (.int .i64 n) := by rw [hb.cell (by simp)]; simp
        have b2 : w1.cell? ⟨w.heap.size, 2, none⟩ = some (.string ⟨nm.toArray⟩) := by rw [hb.cell (by simp)]; simp
        have b3 : w1.cell? ⟨w.heap.size, 3, none⟩ = some (.slice a len cap) := by rw [hb.cell (by simp)]; simp
        have hb0 : Below (w.heap.size + 1) (w.alloc (.cells #[.int .i64 op, .int .i64 n, .string ⟨nm.toArray⟩, .slice a len cap] 34)) w1 := hb.mono (by simp)
        clear hb
        go_wp2
        go_loopw [1, 19] (fun m' i wr => ∃ (z : Int) (k : Nat), k ≤ len ∧ i = .int .i64 k ∧ m' = .int .i64 z ∧ -1 ≤ z ∧ z ≤ 64 ∧ Hid (spareL op (ks.drop k) k z = spareL op ks 0 (m - 1)) ∧ Below (w.heap.size + 1) (w.alloc (.cells #[.int .i64 op, .int .i64 n, .string ⟨nm.toArray⟩, .slice a len cap] 34)) wr) (fun _ i _ => len - (intOf i).toNat)
        case atStart => exact ⟨m - 1, 0, by omega, rfl, rfl, by omega, by omega, rfl, hb0⟩
        case round =>
          obtain ⟨z, k, hkl, rfl, rfl, hz1, hz2, HS, hbr⟩ := hrel
          clear b0 b1 b2 b3 hb0
          have b0 : wr.cell? ⟨w.heap.size, 0, none⟩ = some (.int .i64 op) := by rw [hbr.cell (by simp)]; simp
          have b1 : wr.cell? ⟨w.heap.size, 1, none⟩ = some (.int .i64 n) := by rw [hbr.cell (by simp)]; simp
          have b2 : wr.cell? ⟨w.heap.size, 2, none⟩ = some (.string ⟨nm.toArray⟩) := by rw [hbr.cell (by simp)]; simp
          have b3 : wr.cell? ⟨w.heap.size, 3, none⟩ = some (.slice a len cap) := by rw [hbr.cell (by simp)]; simp
          have hsz : w.heap.size < wr.heap.size := by have := hbr.size; simp at this; omega
          by_cases hlt : k < len
          · have hne : ks ≠ [] := by intro e; have := HL.out; rw [e] at this; simp at this; omega
            obtain ⟨g, off, rfl, hg1, hg2, hTL⟩ := HK.out hne
            have hbw : Below w.heap.size w wr := (((Below.refl _ _).alloc (Nat.le_refl _) _).trans (hbr.mono (by simp)))
            have hOr : Ops wr := hO.below hbw hO.lt
            have hTr := TreeL.keep (w' := wr) hbw.size (fun b _ hb => hbw.block b hb) g hg1 hg2 off ks hTL
            have hki : k < ks.length := by rw [HL.out]; exact hlt
            obtain ⟨ka, kcap, c0, c1, c2, c3, hkt⟩ := TreeL.at_ ks off k hki hTr
            have hIH := Lib.hid (IH.out (ks[k]) (List.getElem_mem hki))
            have HD : Hid (ks.drop k = ks[k] :: ks.drop (k + 1)) := List.drop_eq_getElem_cons hki
            have hgr : g < wr.heap.size := by omega
            generalize ks[k] = kid at *
            have HS2 : Hid (spareL op (ks.drop (k + 1)) (k + 1) (spareE kid (if enclB op kid.op k = true then z - 2 else z)) = spareL op ks 0 (m - 1)) := by
              have := HS.out; rw [HD.out, spareL_cons] at this; exact this
            clear hTr hTL HS HD
            go_wp2_with fail
            refine (encl_any op n _ g off len cap k kid.op _ (hOr.alloc _) (by rw [Below.cell ((Below.refl _ wr).alloc (Nat.le_refl _) _) hgr]; exact c0) (by simp; omega) hlt (by omega) HIN.out).mono ?_
            rintro e w2 ⟨rfl, hb2⟩
            have hb2' : Below (wr.heap.size + 1) (wr.alloc (.cells #[.int .i64 kid.op, .int .i64 kid.n, .string ⟨kid.name.toArray⟩, .slice ka kid.kids.length kcap] 34)) w2 := hb2.mono (by simp)
            have e0 : w2.cell? ⟨wr.heap.size, 0, none⟩ = some (.int .i64 kid.op) := by rw [hb2'.cell (by simp)]; simp
            have e1 : w2.cell? ⟨wr.heap.size, 1, none⟩ = some (.int .i64 kid.n) := by rw [hb2'.cell (by simp)]; simp
            have e2 : w2.cell? ⟨wr.heap.size, 2, none⟩ = some (.string ⟨kid.name.toArray⟩) := by rw [hb2'.cell (by simp)]; simp
            have e3 : w2.cell? ⟨wr.heap.size, 3, none⟩ = some (.slice ka kid.kids.length kcap) := by rw [hb2'.cell (by simp)]; simp
            have hbr2 : Below wr.heap.size wr w2 := ((Below.refl _ wr).alloc (Nat.le_refl _) _).trans (hb2'.mono (by omega))
            have hO2 : Ops w2 := hOr.below hbr2 hOr.lt
            have hkt2 := hkt.below hbr2 (Nat.le_refl _)
            clear hb2 hb2' hkt c0 c1 c2 c3 b0 b1 b2 b3
            generalize hE : enclB op kid.op k = en at *
            cases en
            all_goals
              simp only [Bool.false_eq_true, if_false, if_true] at HS2
              clear hE
              go_wp2_with fail
              refine (hIH.out lo _ _ _ hO2 hkt2 (by omega) (by omega)).mono ?_
              rintro e w3 ⟨rfl, hb3⟩
              have hbr3 : Below wr.heap.size wr w3 := hbr2.trans (hb3.mono hbr2.size)
              clear hb3
            · have hzz := spareE_bd kid z (by omega)
              go_wp2
              go_roundw
              case rel => exact ⟨spareE kid z, k + 1, by omega, by go_num, rfl, hzz.1, hzz.2, HS2, hbr.trans (hbr3.mono (by omega))⟩
              case measure => simp [intOf]; omega
            · have hzz := spareE_bd kid (z - 2) (by omega)
              go_wp2
              go_roundw
              case rel => exact ⟨spareE kid (z - 2), k + 1, by omega, by go_num, rfl, hzz.1, hzz.2, HS2, hbr.trans (hbr3.mono (by omega))⟩
              case measure => simp [intOf]; omega
          · have hk0 : k = len := by omega
            have HE : Hid (z = spareE (.mk op n nm ks) m) := by
              have := HS.out
              rw [List.drop_eq_nil_of_le (by rw [HL.out]; omega)] at this
              rw [spareL_nil] at this
              unfold Hid; rw [HX.out]; exact this
            clear hk0
            go_wp2
            go_ret
            exact ⟨ret_int HE.out, ((Below.refl _ _).alloc (Nat.le_refl _) _).trans (hbr.mono (by simp))⟩
      · have HX : Hid (spareE (.mk op n nm ks) m = -1) := by unfold Hid spareE; rw [if_pos (Or.inr (by simpa using hf))]
        clear hk IH hm
        have HF : Hid (formedB op n nm ks.length = false) := by unfold Hid; simpa using hf
        clear hf
        generalize ks.length = len at *
        unfold exV
        go_enter Tryd.func29, Tryd.ntmps29
        go_wp2_with fail
        refine (formed_any op n nm a len cap _ (hO.alloc _)).mono ?_
        rintro e w1 ⟨rfl, hb⟩
        rw [HF.out]
        go_wp2
        go_ret
        exact ⟨ret_int HX.out.symm, ((Below.refl _ _).alloc (Nat.le_refl _) _).trans (hb.mono (by simp))⟩
end Go.Proofs.YtohljihndoodfaaDoor.Ep
