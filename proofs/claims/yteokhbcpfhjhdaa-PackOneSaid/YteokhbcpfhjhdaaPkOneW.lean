/-
  The walk of PackOne.
-/
import Derived.Test.YteokhbcpfhjhdaaPkW8
import Derived.Deep.RegionHeld
namespace Go.Proofs.Yteokhbcpfhjhdaa.Pk
open Go.RowKit

theorem slice_to (A : Option Addr) (len c k : Nat) (hk : k ≤ c) : ∀ w : World, (Instr.slice 25 (.slice A len c) none (some (.int .i64 (k : Int))) none).run Try.prog w = .ok (.slice A k c) w := fun w => by
  have e2 : Try.prog.elem 25 = 5 := by kernel_rfl
  obtain ⟨i0, hi0, hz0, hz1, hz2⟩ := info_parts info_u8
  have e3 : ((sizeOf 5).run Try.prog w) = .ok 1 w := by simp [sizeOf, typeInfo, hi0, hz1]
  have h := run_slice_h (P := Try.prog) w 25 (by kernel_rfl) (a := A) (len := len) (cap := c) .i64 (k : Int) (by omega) (by omega)
  rw [e2, e3] at h
  rw [h]
  have e4 : ∀ a : Option Addr, Option.map (fun x => x.add 0) a = a := fun a => by cases a <;> rfl
  simp [sliced, e4]

theorem str_size (s : List UInt8) : (⟨s.toArray⟩ : ByteArray).size = s.length := by simp [ByteArray.size]

theorem one_long (A : Option Addr) (l : List UInt8) (c : Nat) (kind : Int) (w : World) (hl : 5000 < l.length) : Calls Try.prog 6 #[.slice A l.length c, .int .i64 kind] w (TruePost w) := by
  have hd : decide ((5000 : Int) < (l.length : Int)) = true := by simp; omega
  go_enter Try.func6, Try.ntmps6
  go_wp2_with fail
  refine (awake_all w).mono ?_
  rintro e w1 ⟨rfl, hb1⟩
  go_wp2
  go_ret
  exact ⟨rfl, hb1⟩

/-- What an integer, a truth, a text is, when it is there. -/
theorem rInt_ok {l : List UInt8} (h : (rInt l false).2.2 = false) : ∃ n l', i64 n ∧ rInt l false = (n, l', false) ∧ l = bs n ++ l' := by
  unfold rInt at h ⊢
  simp only [Bool.false_eq_true, if_false] at h ⊢
  split at h
  · cases h
  · rename_i n s hd
    obtain ⟨hi, hs, t, ht⟩ := dec_some hd
    refine ⟨n, l.drop s, hi, rfl, ?_⟩
    rw [ht, hs]
    simp
theorem rInt_bad {l : List UInt8} (h : (rInt l false).2.2 = true) : rInt l false = (0, l, true) := by
  unfold rInt at h ⊢
  simp only [Bool.false_eq_true, if_false] at h ⊢
  split at h
  · rfl
  · cases h
theorem rBool_ok {l : List UInt8} (h : (rBool l false).2.2 = false) : ∃ v l', rBool l false = (v, l', false) ∧ l = [if v then 1 else 0] ++ l' := by
  unfold rBool at h ⊢
  simp only [Bool.false_eq_true, if_false] at h ⊢
  split at h
  · cases h
  · rename_i b t
    split at h
    · rename_i hb
      refine ⟨decide (b.toNat = 1), t, if_pos hb, ?_⟩
      have : b = 0 ∨ b = 1 := by
        rcases (show b.toNat = 0 ∨ b.toNat = 1 by omega) with e | e
        · left; exact UInt8.toNat_inj.1 (by rw [e]; rfl)
        · right; exact UInt8.toNat_inj.1 (by rw [e]; rfl)
      rcases this with rfl | rfl <;> rfl
    · cases h
theorem rBool_bad {l : List UInt8} (h : (rBool l false).2.2 = true) : rBool l false = (false, l, true) := by
  unfold rBool at h ⊢
  simp only [Bool.false_eq_true, if_false] at h ⊢
  split at h
  · rfl
  · split at h
    · cases h
    · exact if_neg (by assumption)
theorem rText_ok {l : List UInt8} {most : Int} (h : (rText l false most).2.2 = false) : ∃ s l', rText l false most = (s, l', false) ∧ l = bs (s.length : Int) ++ s ++ l' ∧ (s.length : Int) ≤ most := by
  unfold rText at h ⊢
  simp only [Bool.false_eq_true, if_false] at h ⊢
  split at h
  · cases h
  · rename_i n s hd
    split at h
    · rename_i hn
      obtain ⟨hd1, hn0, hn1⟩ := decC_some hd
      obtain ⟨hi, hs, t, ht⟩ := dec_some hd1
      have hsl : s ≤ l.length := by rw [ht]; simp; omega
      have hlen : ((l.drop s).take n.toNat).length = n.toNat := by rw [List.length_take, List.length_drop]; omega
      refine ⟨(l.drop s).take n.toNat, l.drop (s + n.toNat), if_pos hn, ?_, by rw [hlen]; omega⟩
      rw [hlen, Int.toNat_of_nonneg hn0, ← List.drop_drop, List.append_assoc, List.take_append_drop]
      rw [ht, hs]
      simp
    · cases h
theorem rText_bad {l : List UInt8} {most : Int} (h : (rText l false most).2.2 = true) : rText l false most = ([], l, true) := by
  unfold rText at h ⊢
  simp only [Bool.false_eq_true, if_false] at h ⊢
  split at h
  · rfl
  · split at h
    · cases h
    · exact if_neg (by assumption)

theorem Wr.grown {w w' : World} {gw g : Nat} {l : List UInt8} (h : Wr w gw l) (hg : w.grownBy w' (some g)) (hlt : g < gw) : Wr w' gw l := by
  obtain ⟨A0, c0, hx, ho⟩ := h
  refine ⟨A0, c0, hx.grown hg (fun e => by injection e; omega), ho.kept hg ?_⟩
  cases hq : (Value.slice A0 l.length c0).ownBlock with
  | none => exact .inl rfl
  | some k => exact .inr (fun e => by injection e; have := (ho.lt k hq).1; omega)
theorem Rr.belowB {t : TypeId} {S : Nat → Prop} {w w' : World} {g B : Nat} {l : List UInt8} {bad : Bool} (h : Rr t S w g l bad) (hb : Below B w w') (hg : g < B) (hS : ∀ b, S b → b < B) : Rr t S w' g l bad := by
  obtain ⟨A, c, hx, h1, h2, h3, h4⟩ := h
  refine ⟨A, c, hx.below hb hg, h1, h2, fun hl => ?_, h4⟩
  obtain ⟨ad, e, hlt, hc⟩ := h3 hl
  exact ⟨ad, e, Nat.lt_of_lt_of_le hlt hb.size, fun j hj => (hb.cell (p := ad.add j) (by rw [blk_add]; exact hS _ (h4 ad e))).trans (hc j hj)⟩

set_option maxRecDepth 100000 in
set_option maxHeartbeats 4000000 in
theorem one_int_bad (A : Option Addr) (l : List UInt8) (c : Nat) (kind : Int) (w : World) (_hc : l.length ≤ c) (_hcm : c ≤ maxLen) (hl : Lie w A l) (h5 : l.length ≤ 5000) (hk : kind = 0) (hbad : (rInt l false).2.2 = true) :
    Calls Try.prog 6 #[.slice A l.length c, .int .i64 kind] w (TruePost w) := by
  have HR := Lib.hid (rInt_bad hbad)
  clear hbad
  subst hk
  have hd : decide ((5000 : Int) < (l.length : Int)) = false := by simp; omega
  go_enter Try.func6, Try.ntmps6
  go_wp2_with fail
  refine (awake_all w).mono ?_
  rintro e w1 ⟨rfl, hb1⟩
  have hl1 := hl.below hb1
  go_wp2_with fail
  refine (read_all A l c w1 hl1 (by omega)).mono ?_
  rintro e w2 ⟨g, rfl, hg, hr2, hb2⟩
  have hc2 := hb1.trans (hb2.mono hb1.size)
  have hS : ∀ b, (w1.heap.size ≤ b ∧ b < g) → b ≠ g := fun b h => by omega
  have hw0 := Wr.new w2
  have hbn : Below w2.heap.size w2 (w2.alloc (.cells #[.slice none 0 0] 33)) := (Below.refl _ w2).alloc (Nat.le_refl _) _
  have hr3 := hr2.below hbn
  have hc3 := hc2.trans (hbn.mono hc2.size)
  have hgl := hr2.lt
  have hwg : w.heap.size ≤ g := Nat.le_trans hb1.size hg
  clear hb1 hl1 hb2 hr2 hc2 hbn
  go_wp2_with fail
  refine (rint_all _ g l false _ hr3 hS).mono ?_
  rintro e w4 ⟨rfl, hr4, hg4⟩
  rw [HR.out] at hr4 ⊢
  have hw4 := hw0.grown hg4 hgl
  have hc4 := below_gr hc3 hg4 hc3.size hwg
  clear hr3 hg4 hw0 hc3
  go_wp2_with fail
  refine (wint_all w2.heap.size [] 0 _ hw4 (by unfold i64; omega) (by simp)).mono ?_
  rintro e w5 ⟨rfl, hw5, hb5⟩
  have hr5 := hr4.belowB hb5 hgl (fun b h => by omega)
  have hc5 := hc4.trans (hb5.mono (by omega))
  clear hw4 hb5 hr4 hc4 hw5
  go_wp2_with fail
  refine (rerr_all _ g l true _ hr5).mono ?_
  rintro e w6 ⟨rfl, rfl⟩
  have he : errV true = 30 := rfl
  rw [he]
  go_wp2_with fail
  refine (rleft_all _ g l true _ hr5).mono ?_
  rintro e w6 ⟨rfl, rfl⟩
  go_wp2
  go_ret
  exact ⟨ret_bool (by simp), hc5⟩

set_option maxRecDepth 100000 in
set_option maxHeartbeats 4000000 in
theorem one_int_ok (A : Option Addr) (l : List UInt8) (c : Nat) (kind : Int) (w : World) (hc : l.length ≤ c) (_hcm : c ≤ maxLen) (hl : Lie w A l) (h5 : l.length ≤ 5000) (hk : kind = 0) (hok : (rInt l false).2.2 = false) :
    Calls Try.prog 6 #[.slice A l.length c, .int .i64 kind] w (TruePost w) := by
  obtain ⟨n, l', hi, hr, hl'⟩ := rInt_ok hok
  have HR := Lib.hid hr
  obtain ⟨m, hm⟩ : ∃ m : List UInt8, m = [] ++ bs n := ⟨_, rfl⟩
  have hlm : l = m ++ l' := by rw [hm]; simpa [ByteArray.size] using hl'
  have hm0 : 0 < m.length := by rw [hm]; simp [bs_pos]
  have hll : l.length = m.length + l'.length := by rw [hlm]; simp
  have htk : l.take m.length = m := by rw [hlm]; simp
  have hk5 : m.length ≤ 5000 := by omega
  have HM := Lib.hid hm
  have HT := Lib.hid htk
  have hsub : (l.length : Int) - (l'.length : Int) = (m.length : Int) := by omega
  have HS := Lib.hid hsub
  have hml : m.length ≤ l.length := by omega
  have hmc : m.length ≤ c := by omega
  have hl'l : l'.length ≤ l.length := by omega
  clear hok hr hl' hm hlm hll htk hsub
  subst hk
  have hd : decide ((5000 : Int) < (l.length : Int)) = false := by simp; omega
  have hsl := slice_to A l.length c m.length hmc
  go_enter Try.func6, Try.ntmps6
  go_wp2_with fail
  refine (awake_all w).mono ?_
  rintro e w1 ⟨rfl, hb1⟩
  have hl1 := hl.below hb1
  go_wp2_with fail
  refine (read_all A l c w1 hl1 (by omega)).mono ?_
  rintro e w2 ⟨g, rfl, hg, hr2, hb2⟩
  have hc2 := hb1.trans (hb2.mono hb1.size)
  have hS : ∀ b, (w1.heap.size ≤ b ∧ b < g) → b ≠ g := fun b h => by omega
  have hw0 := Wr.new w2
  have hbn : Below w2.heap.size w2 (w2.alloc (.cells #[.slice none 0 0] 33)) := (Below.refl _ w2).alloc (Nat.le_refl _) _
  have hr3 := hr2.below hbn
  have hc3 := hc2.trans (hbn.mono hc2.size)
  have hgl := hr2.lt
  have hwg : w.heap.size ≤ g := Nat.le_trans hb1.size hg
  clear hb1 hl1 hb2 hr2 hc2 hbn
  go_wp2_with fail
  refine (rint_all _ g l false _ hr3 hS).mono ?_
  rintro e w4 ⟨rfl, hr4, hg4⟩
  rw [HR.out] at hr4 ⊢
  have hw4 := hw0.grown hg4 hgl
  have hc4 := below_gr hc3 hg4 hc3.size hwg
  clear hr3 hg4 hw0 hc3
  go_wp2_with fail
  refine (wint_all w2.heap.size [] n _ hw4 hi (by simp)).mono ?_
  rintro e w5 ⟨rfl, hw5, hb5⟩
  rw [show ([] ++ bs n : List UInt8) = m from HM.out.symm] at hw5
  have hr5 := hr4.belowB hb5 hgl (fun b h => by omega)
  have hc5 := hc4.trans (hb5.mono (by omega))
  clear hw4 hb5 hr4 hc4
  go_wp2_with fail
  refine (rerr_all _ g l' false _ hr5).mono ?_
  rintro e w6 ⟨rfl, rfl⟩
  have he : errV false = 0 := rfl
  rw [he]
  go_wp2_with fail
  refine (rleft_all _ g l' false _ hr5).mono ?_
  rintro e w6 ⟨rfl, rfl⟩
  have hL5 := (hl.below hc5).take m.length
  rw [HT.out] at hL5
  have hcv5 := conv_lie c hL5
  have hcv5d : (convert 25 9 (.slice A m.length c)).run Try.prog w5.drew = .ok (.string ⟨m.toArray⟩) w5.drew := conv_lie c hL5.drew
  have hsub := HS.out
  have hw1 : IntKind.i64.wrap ((l.length : Int) - (l'.length : Int)) = (m.length : Int) := by rw [hsub, IntKind.wrap_i64]; omega
  have g1 : decide ((0 : Int) < (m.length : Int)) = true := by simp; omega
  have g2 : decide ((m.length : Int) ≤ (l.length : Int)) = true := by simp; omega
  go_wp2
  clear hsub hw1
  go_region_held (fun w' => (convert 25 9 (.slice A m.length c)).run Try.prog w' = .ok (.string ⟨m.toArray⟩) w') (first | exact hcv5d | exact hcv8 | assumption)
    (first | (go_at_call 15; refine (wbytes_all w2.heap.size m _ (by exact hw5.below (Below.refl _ _).drew) (by omega)).mono ?_; rintro e w7 ⟨A7, c7, rfl, ho7, hb7⟩; have hcv7 := conv_lie c7 (Lie.of_own ho7); have hcv8 := conv_lie c (hL5.drew.below hb7); have hc7 := hc5.drew.trans (hb7.mono (by exact hc5.size))))
  all_goals go_wp2
  all_goals go_ret
  all_goals exact ⟨rfl, hc7⟩

set_option maxRecDepth 100000 in
set_option maxHeartbeats 4000000 in
theorem one_bool_bad (A : Option Addr) (l : List UInt8) (c : Nat) (kind : Int) (w : World) (_hc : l.length ≤ c) (_hcm : c ≤ maxLen) (hl : Lie w A l) (h5 : l.length ≤ 5000) (hk : kind = 1) (hbad : (rBool l false).2.2 = true) :
    Calls Try.prog 6 #[.slice A l.length c, .int .i64 kind] w (TruePost w) := by
  have HR := Lib.hid (rBool_bad hbad)
  clear hbad
  subst hk
  have hd : decide ((5000 : Int) < (l.length : Int)) = false := by simp; omega
  go_enter Try.func6, Try.ntmps6
  go_wp2_with fail
  refine (awake_all w).mono ?_
  rintro e w1 ⟨rfl, hb1⟩
  have hl1 := hl.below hb1
  go_wp2_with fail
  refine (read_all A l c w1 hl1 (by omega)).mono ?_
  rintro e w2 ⟨g, rfl, hg, hr2, hb2⟩
  have hc2 := hb1.trans (hb2.mono hb1.size)
  have hS : ∀ b, (w1.heap.size ≤ b ∧ b < g) → b ≠ g := fun b h => by omega
  have hw0 := Wr.new w2
  have hbn : Below w2.heap.size w2 (w2.alloc (.cells #[.slice none 0 0] 33)) := (Below.refl _ w2).alloc (Nat.le_refl _) _
  have hr3 := hr2.below hbn
  have hc3 := hc2.trans (hbn.mono hc2.size)
  have hgl := hr2.lt
  have hwg : w.heap.size ≤ g := Nat.le_trans hb1.size hg
  clear hb1 hl1 hb2 hr2 hc2 hbn
  go_wp2_with fail
  refine (rbool_all _ g l false _ hr3 hS).mono ?_
  rintro e w4 ⟨rfl, hr4, hg4⟩
  rw [HR.out] at hr4 ⊢
  have hw4 := hw0.grown hg4 hgl
  have hc4 := below_gr hc3 hg4 hc3.size hwg
  clear hr3 hg4 hw0 hc3
  go_wp2_with fail
  refine (wbool_all w2.heap.size [] false _ hw4 (by simp)).mono ?_
  rintro e w5 ⟨rfl, hw5, hb5⟩
  have hr5 := hr4.belowB hb5 hgl (fun b h => by omega)
  have hc5 := hc4.trans (hb5.mono (by omega))
  clear hw4 hb5 hr4 hc4 hw5
  go_wp2_with fail
  refine (rerr_all _ g l true _ hr5).mono ?_
  rintro e w6 ⟨rfl, rfl⟩
  have he : errV true = 30 := rfl
  rw [he]
  go_wp2_with fail
  refine (rleft_all _ g l true _ hr5).mono ?_
  rintro e w6 ⟨rfl, rfl⟩
  go_wp2
  go_ret
  exact ⟨ret_bool (by simp), hc5⟩

set_option maxRecDepth 100000 in
set_option maxHeartbeats 4000000 in
theorem one_bool_ok (A : Option Addr) (l : List UInt8) (c : Nat) (kind : Int) (w : World) (hc : l.length ≤ c) (_hcm : c ≤ maxLen) (hl : Lie w A l) (h5 : l.length ≤ 5000) (hk : kind = 1) (hok : (rBool l false).2.2 = false) :
    Calls Try.prog 6 #[.slice A l.length c, .int .i64 kind] w (TruePost w) := by
  obtain ⟨v, l', hr, hl'⟩ := rBool_ok hok
  have HR := Lib.hid hr
  obtain ⟨m, hm⟩ : ∃ m : List UInt8, m = [] ++ [if v then 1 else 0] := ⟨_, rfl⟩
  have hlm : l = m ++ l' := by rw [hm]; simpa [ByteArray.size] using hl'
  have hm0 : 0 < m.length := by rw [hm]; simp
  have hll : l.length = m.length + l'.length := by rw [hlm]; simp
  have htk : l.take m.length = m := by rw [hlm]; simp
  have hk5 : m.length ≤ 5000 := by omega
  have HM := Lib.hid hm
  have HT := Lib.hid htk
  have hsub : (l.length : Int) - (l'.length : Int) = (m.length : Int) := by omega
  have HS := Lib.hid hsub
  have hml : m.length ≤ l.length := by omega
  have hmc : m.length ≤ c := by omega
  have hl'l : l'.length ≤ l.length := by omega
  clear hok hr hl' hm hlm hll htk hsub
  subst hk
  have hd : decide ((5000 : Int) < (l.length : Int)) = false := by simp; omega
  have hsl := slice_to A l.length c m.length hmc
  go_enter Try.func6, Try.ntmps6
  go_wp2_with fail
  refine (awake_all w).mono ?_
  rintro e w1 ⟨rfl, hb1⟩
  have hl1 := hl.below hb1
  go_wp2_with fail
  refine (read_all A l c w1 hl1 (by omega)).mono ?_
  rintro e w2 ⟨g, rfl, hg, hr2, hb2⟩
  have hc2 := hb1.trans (hb2.mono hb1.size)
  have hS : ∀ b, (w1.heap.size ≤ b ∧ b < g) → b ≠ g := fun b h => by omega
  have hw0 := Wr.new w2
  have hbn : Below w2.heap.size w2 (w2.alloc (.cells #[.slice none 0 0] 33)) := (Below.refl _ w2).alloc (Nat.le_refl _) _
  have hr3 := hr2.below hbn
  have hc3 := hc2.trans (hbn.mono hc2.size)
  have hgl := hr2.lt
  have hwg : w.heap.size ≤ g := Nat.le_trans hb1.size hg
  clear hb1 hl1 hb2 hr2 hc2 hbn
  go_wp2_with fail
  refine (rbool_all _ g l false _ hr3 hS).mono ?_
  rintro e w4 ⟨rfl, hr4, hg4⟩
  rw [HR.out] at hr4 ⊢
  have hw4 := hw0.grown hg4 hgl
  have hc4 := below_gr hc3 hg4 hc3.size hwg
  clear hr3 hg4 hw0 hc3
  go_wp2_with fail
  refine (wbool_all w2.heap.size [] v _ hw4 (by simp)).mono ?_
  rintro e w5 ⟨rfl, hw5, hb5⟩
  rw [show ([] ++ [if v then 1 else 0] : List UInt8) = m from HM.out.symm] at hw5
  have hr5 := hr4.belowB hb5 hgl (fun b h => by omega)
  have hc5 := hc4.trans (hb5.mono (by omega))
  clear hw4 hb5 hr4 hc4
  go_wp2_with fail
  refine (rerr_all _ g l' false _ hr5).mono ?_
  rintro e w6 ⟨rfl, rfl⟩
  have he : errV false = 0 := rfl
  rw [he]
  go_wp2_with fail
  refine (rleft_all _ g l' false _ hr5).mono ?_
  rintro e w6 ⟨rfl, rfl⟩
  have hL5 := (hl.below hc5).take m.length
  rw [HT.out] at hL5
  have hcv5 := conv_lie c hL5
  have hcv5d : (convert 25 9 (.slice A m.length c)).run Try.prog w5.drew = .ok (.string ⟨m.toArray⟩) w5.drew := conv_lie c hL5.drew
  have hsub := HS.out
  have hw1 : IntKind.i64.wrap ((l.length : Int) - (l'.length : Int)) = (m.length : Int) := by rw [hsub, IntKind.wrap_i64]; omega
  have g1 : decide ((0 : Int) < (m.length : Int)) = true := by simp; omega
  have g2 : decide ((m.length : Int) ≤ (l.length : Int)) = true := by simp; omega
  go_wp2
  clear hsub hw1
  go_region_held (fun w' => (convert 25 9 (.slice A m.length c)).run Try.prog w' = .ok (.string ⟨m.toArray⟩) w') (first | exact hcv5d | exact hcv8 | assumption)
    (first | (go_at_call 15; refine (wbytes_all w2.heap.size m _ (by exact hw5.below (Below.refl _ _).drew) (by omega)).mono ?_; rintro e w7 ⟨A7, c7, rfl, ho7, hb7⟩; have hcv7 := conv_lie c7 (Lie.of_own ho7); have hcv8 := conv_lie c (hL5.drew.below hb7); have hc7 := hc5.drew.trans (hb7.mono (by exact hc5.size))))
  all_goals go_wp2
  all_goals go_ret
  all_goals exact ⟨rfl, hc7⟩

set_option maxRecDepth 100000 in
set_option maxHeartbeats 4000000 in
theorem one_text_bad (A : Option Addr) (l : List UInt8) (c : Nat) (kind : Int) (w : World) (_hc : l.length ≤ c) (_hcm : c ≤ maxLen) (hl : Lie w A l) (h5 : l.length ≤ 5000) (hk0 : (kind == 0) = false) (hk1 : (kind == 1) = false) (hbad : (rText l false 5000).2.2 = true) :
    Calls Try.prog 6 #[.slice A l.length c, .int .i64 kind] w (TruePost w) := by
  have HR := Lib.hid (rText_bad hbad)
  clear hbad
  have hd : decide ((5000 : Int) < (l.length : Int)) = false := by simp; omega
  go_enter Try.func6, Try.ntmps6
  go_wp2_with fail
  refine (awake_all w).mono ?_
  rintro e w1 ⟨rfl, hb1⟩
  have hl1 := hl.below hb1
  go_wp2_with fail
  refine (read_all A l c w1 hl1 (by omega)).mono ?_
  rintro e w2 ⟨g, rfl, hg, hr2, hb2⟩
  have hc2 := hb1.trans (hb2.mono hb1.size)
  have hS : ∀ b, (w1.heap.size ≤ b ∧ b < g) → b ≠ g := fun b h => by omega
  have hw0 := Wr.new w2
  have hbn : Below w2.heap.size w2 (w2.alloc (.cells #[.slice none 0 0] 33)) := (Below.refl _ w2).alloc (Nat.le_refl _) _
  have hr3 := hr2.below hbn
  have hc3 := hc2.trans (hbn.mono hc2.size)
  have hgl := hr2.lt
  have hwg : w.heap.size ≤ g := Nat.le_trans hb1.size hg
  clear hb1 hl1 hb2 hr2 hc2 hbn
  go_wp2_with fail
  refine (rtext_all _ g l false 5000 _ hr3 hS (by omega)).mono ?_
  rintro e w4 ⟨rfl, hr4, hg4⟩
  rw [HR.out] at hr4 ⊢
  have hw4 := hw0.grown hg4 hgl
  have hc4 := below_gr hc3 hg4 hc3.size hwg
  clear hr3 hg4 hw0 hc3
  go_wp2_with fail
  refine (wtext_all w2.heap.size [] ⟨#[]⟩ _ hw4 (by decide)).mono ?_
  rintro e w5 ⟨rfl, hw5, hb5⟩
  have hr5 := hr4.belowB hb5 hgl (fun b h => by omega)
  have hc5 := hc4.trans (hb5.mono (by omega))
  clear hw4 hb5 hr4 hc4 hw5
  go_wp2_with fail
  refine (rerr_all _ g l true _ hr5).mono ?_
  rintro e w6 ⟨rfl, rfl⟩
  have he : errV true = 30 := rfl
  rw [he]
  go_wp2_with fail
  refine (rleft_all _ g l true _ hr5).mono ?_
  rintro e w6 ⟨rfl, rfl⟩
  go_wp2
  go_ret
  exact ⟨ret_bool (by simp), hc5⟩

set_option maxRecDepth 100000 in
set_option maxHeartbeats 4000000 in
theorem one_text_ok (A : Option Addr) (l : List UInt8) (c : Nat) (kind : Int) (w : World) (hc : l.length ≤ c) (_hcm : c ≤ maxLen) (hl : Lie w A l) (h5 : l.length ≤ 5000) (hk0 : (kind == 0) = false) (hk1 : (kind == 1) = false) (hok : (rText l false 5000).2.2 = false) :
    Calls Try.prog 6 #[.slice A l.length c, .int .i64 kind] w (TruePost w) := by
  obtain ⟨s, l', hr, hl', hsm⟩ := rText_ok hok
  have HR := Lib.hid hr
  obtain ⟨m, hm⟩ : ∃ m : List UInt8, m = [] ++ bs (((⟨s.toArray⟩ : ByteArray).size : Nat) : Int) ++ (⟨s.toArray⟩ : ByteArray).data.toList := ⟨_, rfl⟩
  have hlm : l = m ++ l' := by rw [hm]; simpa [ByteArray.size] using hl'
  have hm0 : 0 < m.length := by rw [hm]; simp [bs_pos, Nat.add_pos_left]
  have hll : l.length = m.length + l'.length := by rw [hlm]; simp
  have htk : l.take m.length = m := by rw [hlm]; simp
  have hk5 : m.length ≤ 5000 := by omega
  have HM := Lib.hid hm
  have HT := Lib.hid htk
  have hsub : (l.length : Int) - (l'.length : Int) = (m.length : Int) := by omega
  have HS := Lib.hid hsub
  have hml : m.length ≤ l.length := by omega
  have hmc : m.length ≤ c := by omega
  have hl'l : l'.length ≤ l.length := by omega
  clear hok hr hl' hm hlm hll htk hsub
  have hd : decide ((5000 : Int) < (l.length : Int)) = false := by simp; omega
  have hsl := slice_to A l.length c m.length hmc
  go_enter Try.func6, Try.ntmps6
  go_wp2_with fail
  refine (awake_all w).mono ?_
  rintro e w1 ⟨rfl, hb1⟩
  have hl1 := hl.below hb1
  go_wp2_with fail
  refine (read_all A l c w1 hl1 (by omega)).mono ?_
  rintro e w2 ⟨g, rfl, hg, hr2, hb2⟩
  have hc2 := hb1.trans (hb2.mono hb1.size)
  have hS : ∀ b, (w1.heap.size ≤ b ∧ b < g) → b ≠ g := fun b h => by omega
  have hw0 := Wr.new w2
  have hbn : Below w2.heap.size w2 (w2.alloc (.cells #[.slice none 0 0] 33)) := (Below.refl _ w2).alloc (Nat.le_refl _) _
  have hr3 := hr2.below hbn
  have hc3 := hc2.trans (hbn.mono hc2.size)
  have hgl := hr2.lt
  have hwg : w.heap.size ≤ g := Nat.le_trans hb1.size hg
  clear hb1 hl1 hb2 hr2 hc2 hbn
  go_wp2_with fail
  refine (rtext_all _ g l false 5000 _ hr3 hS (by omega)).mono ?_
  rintro e w4 ⟨rfl, hr4, hg4⟩
  rw [HR.out] at hr4 ⊢
  have hw4 := hw0.grown hg4 hgl
  have hc4 := below_gr hc3 hg4 hc3.size hwg
  clear hr3 hg4 hw0 hc3
  go_wp2_with fail
  refine (wtext_all w2.heap.size [] ⟨s.toArray⟩ _ hw4 (by rw [str_size]; simp; omega)).mono ?_
  rintro e w5 ⟨rfl, hw5, hb5⟩
  rw [show ([] ++ bs (((⟨s.toArray⟩ : ByteArray).size : Nat) : Int) ++ (⟨s.toArray⟩ : ByteArray).data.toList : List UInt8) = m from HM.out.symm] at hw5
  have hr5 := hr4.belowB hb5 hgl (fun b h => by omega)
  have hc5 := hc4.trans (hb5.mono (by omega))
  clear hw4 hb5 hr4 hc4
  go_wp2_with fail
  refine (rerr_all _ g l' false _ hr5).mono ?_
  rintro e w6 ⟨rfl, rfl⟩
  have he : errV false = 0 := rfl
  rw [he]
  go_wp2_with fail
  refine (rleft_all _ g l' false _ hr5).mono ?_
  rintro e w6 ⟨rfl, rfl⟩
  have hL5 := (hl.below hc5).take m.length
  rw [HT.out] at hL5
  have hcv5 := conv_lie c hL5
  have hcv5d : (convert 25 9 (.slice A m.length c)).run Try.prog w5.drew = .ok (.string ⟨m.toArray⟩) w5.drew := conv_lie c hL5.drew
  have hsub := HS.out
  have hw1 : IntKind.i64.wrap ((l.length : Int) - (l'.length : Int)) = (m.length : Int) := by rw [hsub, IntKind.wrap_i64]; omega
  have g1 : decide ((0 : Int) < (m.length : Int)) = true := by simp; omega
  have g2 : decide ((m.length : Int) ≤ (l.length : Int)) = true := by simp; omega
  go_wp2
  clear hsub hw1
  go_region_held (fun w' => (convert 25 9 (.slice A m.length c)).run Try.prog w' = .ok (.string ⟨m.toArray⟩) w') (first | exact hcv5d | exact hcv8 | assumption)
    (first | (go_at_call 15; refine (wbytes_all w2.heap.size m _ (by exact hw5.below (Below.refl _ _).drew) (by omega)).mono ?_; rintro e w7 ⟨A7, c7, rfl, ho7, hb7⟩; have hcv7 := conv_lie c7 (Lie.of_own ho7); have hcv8 := conv_lie c (hL5.drew.below hb7); have hc7 := hc5.drew.trans (hb7.mono (by exact hc5.size))))
  all_goals go_wp2
  all_goals go_ret
  all_goals exact ⟨rfl, hc7⟩

theorem one_walk (A : Option Addr) (l : List UInt8) (c : Nat) (kind : Int) (w : World) (hc : l.length ≤ c) (hcm : c ≤ maxLen) (hl : Lie w A l) (_hk : i64 kind) : Calls Try.prog 6 #[.slice A l.length c, .int .i64 kind] w (TruePost w) := by
  rcases Nat.lt_or_ge 5000 l.length with h5 | h5
  · exact one_long A l c kind w h5
  · by_cases h0 : kind = 0
    · rcases hb : (rInt l false).2.2 with _ | _
      · exact one_int_ok A l c kind w hc hcm hl h5 h0 hb
      · exact one_int_bad A l c kind w hc hcm hl h5 h0 hb
    · by_cases h1 : kind = 1
      · rcases hb : (rBool l false).2.2 with _ | _
        · exact one_bool_ok A l c kind w hc hcm hl h5 h1 hb
        · exact one_bool_bad A l c kind w hc hcm hl h5 h1 hb
      · rcases hb : (rText l false 5000).2.2 with _ | _
        · exact one_text_ok A l c kind w hc hcm hl h5 (beq_eq_false_iff_ne.2 h0) (beq_eq_false_iff_ne.2 h1) hb
        · exact one_text_bad A l c kind w hc hcm hl h5 (beq_eq_false_iff_ne.2 h0) (beq_eq_false_iff_ne.2 h1) hb
end Go.Proofs.Yteokhbcpfhjhdaa.Pk
