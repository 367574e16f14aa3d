/-
  Names on the document's side: malthouseref01.Name answers as the plain words say, for texts of at most 20000 bytes.
-/
import Derived.Test.YtohljihndoodfaaDoorNmA
import Derived.Test.YtohljihndoodfaaDoorRgB
import Derived.Test.YtohljihndoodfaaDoorLexP
import Derived.Deep.AppendLies
import Derived.LoopN
namespace Go.Proofs.YtohljihndoodfaaDoor.Lx
open Go.RowKit


theorem ownsRow_below {w w' : World} {base : Nat} {e : TypeId} {size : Nat} {v : Value} {n : Nat} {xs : List Value} (h : w.ownsRow base e size v n xs) (hb : Below w.heap.size w w') : w'.ownsRow base e size v n xs := by
  refine ⟨h.1, ?_⟩
  rcases h.2 with hn | ⟨g, cap, cur, hv, hbs, hg, rest⟩
  · exact .inl hn
  · exact .inr ⟨g, cap, cur, hv, hbs, (hb.block g (Array.getElem?_eq_some_iff.1 hg).1).trans hg, rest⟩
theorem ownsRow_less {w : World} {base base' : Nat} {e : TypeId} {size : Nat} {v : Value} {n : Nat} {xs : List Value} (h : w.ownsRow base e size v n xs) (hb : base' ≤ base) : w.ownsRow base' e size v n xs := by
  refine ⟨h.1, ?_⟩
  rcases h.2 with hn | ⟨g, cap, cur, hv, hbs, rest⟩
  · exact .inl hn
  · exact .inr ⟨g, cap, cur, hv, Nat.le_trans hb hbs, rest⟩
theorem ownsRow_slice {w : World} {base : Nat} {e : TypeId} {size : Nat} {v : Value} {n : Nat} {xs : List Value} (h : w.ownsRow base e size v n xs) : ∃ A c, v = .slice A n c := by
  rcases h.2 with ⟨rfl, rfl⟩ | ⟨g, cap, cur, rfl, _⟩
  · exact ⟨_, _, rfl⟩
  · exact ⟨_, _, rfl⟩

theorem new_cells (w : World) (o : Obj) (t : TypeId) (l : List Value) (j : Nat) (u : Value) (h : l[j]? = some u) :
    ((w.alloc o).alloc (.cells l.toArray t)).cell? ((⟨w.heap.size + 1, 0, none⟩ : Addr).add j) = some u := by
  have hb := (Box.new (w.alloc o) t l.toArray).cell j
  have hadd : (⟨w.heap.size + 1, 0, none⟩ : Addr).add j = ⟨(w.alloc o).heap.size, j, none⟩ := by
    unfold Addr.add
    split <;> simp_all
  rw [hadd, hb]
  simpa using h
theorem new_cells0 (w : World) (t : TypeId) (l : List Value) (j : Nat) (u : Value) (h : l[j]? = some u) :
    (w.alloc (.cells l.toArray t)).cell? ((⟨w.heap.size, 0, none⟩ : Addr).add j) = some u := by
  have hb := (Box.new w t l.toArray).cell j
  have hadd : (⟨w.heap.size, 0, none⟩ : Addr).add j = ⟨w.heap.size, j, none⟩ := by
    unfold Addr.add
    split <;> simp_all
  rw [hadd, hb]
  simpa using h

def sgI (k : Nat) : Int := [40, 41, 123, 125, 44, 59, 58, 61, 43, 45, 42, 47, 37, 60, 62, 33, 38, 124].getD k 0
theorem sg_at : ∀ k : Fin 18, (((⟨#[40, 41, 123, 125, 44, 59, 58, 61, 43, 45, 42, 47, 37, 60, 62, 33, 38, 124]⟩ : ByteArray)[k.val]'(by have := k.isLt; exact this)).toNat : Int) = sgI k.val := by decide
theorem sg_index (k : Nat) (hk : k < 18) (W : World) :
    (Instr.index 9 (.string ⟨#[40, 41, 123, 125, 44, 59, 58, 61, 43, 45, 42, 47, 37, 60, 62, 33, 38, 124]⟩) (.int .i64 (k : Int))).run Tryd.prog W = .ok (.int .u8 (sgI k)) W := by
  have h := run_index_string (P := Tryd.prog) (w := W) 9 ⟨#[40, 41, 123, 125, 44, 59, 58, 61, 43, 45, 42, 47, 37, 60, 62, 33, 38, 124]⟩ .i64 (k : Int) Tryd.underlying9
  rw [dif_pos ⟨by omega, by show (k : Int) < 18; omega⟩] at h
  rw [h, ← sg_at ⟨k, hk⟩]
  simp
theorem sgI_bound : ∀ k : Fin 18, 0 ≤ sgI k.val ∧ sgI k.val ≤ 255 := by decide
theorem signI_iff (r : Int) : signI r = true ↔ ∃ k : Fin 18, sgI k.val = r := by
  constructor
  · intro h
    simp only [signI, decide_eq_true_eq] at h
    rcases h with rfl | rfl | rfl | rfl | rfl | rfl | rfl | rfl | rfl | rfl | rfl | rfl | rfl | rfl | rfl | rfl | rfl | rfl
    all_goals decide
  · rintro ⟨k, rfl⟩
    revert k
    decide

set_option maxHeartbeats 4000000 in
theorem refClass_any (r : Int) (w : World) :
    Calls Tryd.prog 53 #[.int .i64 r] w fun e w' => e = .returned (.int .i64 (clsI r)) ∧ w = w' := by
  by_cases hbl : r = 32 ∨ r = 9 ∨ r = 13 ∨ r = 10 ∨ r = 34 ∨ r = 35 ∨ r = 95
  · rcases hbl with rfl | rfl | rfl | rfl | rfl | rfl | rfl
    all_goals
      go_enter Tryd.func53, Tryd.ntmps53
      go_wp2
      go_ret
      exact ⟨ret_int (by decide), rfl⟩
  · have b1 : (r == 32) = false := by simp; omega
    have b2 : (r == 9) = false := by simp; omega
    have b3 : (r == 13) = false := by simp; omega
    have b4 : (r == 10) = false := by simp; omega
    have b5 : (r == 34) = false := by simp; omega
    have b6 : (r == 35) = false := by simp; omega
    have b7 : (r == 95) = false := by simp; omega
    by_cases hd : (48 ≤ r ∧ r ≤ 57) ∨ (65 ≤ r ∧ r ≤ 90) ∨ (97 ≤ r ∧ r ≤ 122) ∨ (192 ≤ r ∧ r ≤ 591 ∧ ¬ r = 215 ∧ ¬ r = 247)
    · rcases hd with ⟨x1, x2⟩ | ⟨x1, x2⟩ | ⟨x1, x2⟩ | ⟨x1, x2, x3, x4⟩
      · have HC : Hid (clsI r = 3) := by
          unfold Hid clsI signI letterI digitI; simp only [decide_eq_true_eq, Bool.or_eq_true, Bool.and_eq_true, Bool.not_eq_true', decide_eq_false_iff_not]
          rw [if_neg (by omega), if_neg (by omega), if_neg (by omega), if_neg (by omega), if_neg (by omega), if_pos (by omega)]
        clear hbl
        go_enter Tryd.func53, Tryd.ntmps53
        go_wp2
        go_ret
        exact ⟨ret_int HC.out.symm, rfl⟩
      all_goals
        have HC : Hid (clsI r = 2) := by
          unfold Hid clsI signI letterI digitI; simp only [decide_eq_true_eq, Bool.or_eq_true, Bool.and_eq_true, Bool.not_eq_true', decide_eq_false_iff_not]
          rw [if_neg (by omega), if_neg (by omega), if_neg (by omega), if_neg (by omega), if_pos (by omega)]
        clear hbl
        try (have y3 : (r != 215) = true := by simp [x3])
        try (have y4 : (r != 247) = true := by simp [x4])
        try clear x3 x4
        go_enter Tryd.func53, Tryd.ntmps53
        go_wp2
        go_ret
        exact ⟨ret_int HC.out.symm, rfl⟩
    · have HC : Hid (clsI r = if signI r = true then 4 else 0) := by
        unfold Hid clsI
        rw [if_neg (by omega), if_neg (by omega), if_neg (by omega)]
        have hl : letterI r = false := by
          simp only [letterI, Bool.or_eq_false_iff, Bool.and_eq_false_iff, decide_eq_false_iff_not, Bool.not_eq_false', decide_eq_true_eq]; omega
        have hg : digitI r = false := by simp only [digitI, decide_eq_false_iff_not]; omega
        rw [hl, hg]
        simp
      have hcs : (r < 48) ∨ (58 ≤ r ∧ r ≤ 64) ∨ (91 ≤ r ∧ r ≤ 96) ∨ (123 ≤ r ∧ r ≤ 191) ∨ (215 ≤ r ∧ r ≤ 215 ∧ (r != 215) = false) ∨ (247 ≤ r ∧ r ≤ 247 ∧ (r != 215) = true ∧ (r != 247) = false) ∨ 592 ≤ r := by
        by_cases h1 : r = 215
        · subst h1; decide
        · by_cases h2 : r = 247
          · subst h2; decide
          · omega
      clear hd hbl
      rcases hcs with x | ⟨x, y⟩ | ⟨x, y⟩ | ⟨x, y⟩ | ⟨x, y, z⟩ | ⟨x, y, z, z2⟩ | x
      all_goals
        go_enter Tryd.func53, Tryd.ntmps53
        go_wp2
        go_loop [4] (fun i => ∃ k : Nat, k ≤ 18 ∧ i = .int .i64 k ∧ Hid (∀ j, j < k → sgI j ≠ r)) (fun i => 18 - (intOf i).toNat)
        case atStart => exact ⟨0, by omega, rfl, fun j hj => absurd hj (by omega)⟩
        case round =>
          obtain ⟨k, hk, rfl, HJ⟩ := hrel
          by_cases hlt : k < 18
          · have hix := sg_index k hlt
            obtain ⟨hc0, hc1⟩ := sgI_bound ⟨k, hlt⟩
            simp only at hc0 hc1
            by_cases hcr : sgI k = r
            · have HF : Hid (clsI r = 4) := by unfold Hid; rw [HC.out, if_pos ((signI_iff r).2 ⟨⟨k, hlt⟩, hcr⟩)]
              have hb : (sgI k == r) = true := by simp [hcr]
              have HR := Lib.hid hcr
              clear hcr
              go_wp2
              go_ret
              exact ⟨ret_int HF.out.symm, rfl⟩
            · have hb : (sgI k == r) = false := by simp [hcr]
              have HR := Lib.hid hcr
              clear hcr
              go_wp2
              go_round
              case rel =>
                refine ⟨k + 1, by omega, by go_num, fun j hj => ?_⟩
                by_cases he : j = k
                · rw [he]; exact HR.out
                · exact HJ.out j (by omega)
              case measure => simp [intOf]; omega
          · have HF : Hid (clsI r = 0) := by
              unfold Hid; rw [HC.out, if_neg]
              intro h
              obtain ⟨q, hq⟩ := (signI_iff r).1 h
              exact HJ.out q.val (by have := q.isLt; omega) hq
            obtain rfl : k = 18 := by omega
            go_wp2
            go_ret
            exact ⟨ret_int HF.out.symm, rfl⟩


/-- The rune at the head and its width; nothing at a bad byte. -/
def runeR (l : List UInt8) : Nat × Nat := if badC ((dec l).1, l.take (dec l).2) = true then (0, 0) else dec l

def contF : Nat → List UInt8 → Nat → Option Nat
  | 0, _, v => some v
  | _ + 1, [], _ => none
  | m + 1, c :: t, v => if c.toNat < 128 ∨ 192 ≤ c.toNat then none else contF m t (64 * v + c.toNat - 128)

/-- Bad values of a rune of so many bytes. -/
def outR (least v : Nat) : Prop := v < least ∨ 1114111 < v ∨ (55296 ≤ v ∧ v ≤ 57343)
instance (least v : Nat) : Decidable (outR least v) := by unfold outR; infer_instance
def finR (n least v0 : Nat) (t : List UInt8) : Nat × Nat :=
  if t.length + 1 < n then (0, 0) else match contF (n - 1) t v0 with
  | none => (0, 0)
  | some v => if outR least v then (0, 0) else (v, n)

theorem runeR_bad (l : List UInt8) (h : dec l = (65533, 1)) : runeR l = (0, 0) := by
  unfold runeR
  rw [h, if_pos]
  unfold badC
  simp only [decide_true, Bool.true_and, Bool.not_eq_true', decide_eq_false_iff_not]
  intro e
  have := congrArg List.length e
  rw [List.length_take] at this
  simp at this
  omega
theorem runeR_good (l : List UInt8) (h : (dec l).1 ≠ 65533) : runeR l = dec l := by
  unfold runeR
  rw [if_neg]
  unfold badC
  simp [h]

theorem valid_iff (v : Nat) : Utf8.valid (v : Int) = true ↔ v < 55296 ∨ (57344 ≤ v ∧ v ≤ 1114111) := by
  unfold Utf8.valid
  simp only [Bool.or_eq_true, Bool.and_eq_true, decide_eq_true_eq]
  omega

theorem runeR_eq (b : UInt8) (t : List UInt8) : runeR (b :: t) =
    if b.toNat < 128 then (b.toNat, 1) else if 192 ≤ b.toNat ∧ b.toNat < 224 then finR 2 128 (b.toNat - 192) t
    else if 224 ≤ b.toNat ∧ b.toNat < 240 then finR 3 2048 (b.toNat - 224) t
    else if 240 ≤ b.toNat ∧ b.toNat < 248 then finR 4 65536 (b.toNat - 240) t else (0, 0) := by
  have hb := b.toNat_lt
  by_cases h0 : b.toNat < 128
  · rw [if_pos h0]
    have e := dec_ascii b t h0
    rw [runeR_good _ (by rw [e]; show b.toNat ≠ 65533; omega), e]
  rw [if_neg h0]
  have hd := dec_def (b :: t)
  simp only [List.getD_cons_zero, List.getD_cons_succ, List.length_cons] at hd
  rw [if_neg h0] at hd
  by_cases h2 : 192 ≤ b.toNat ∧ b.toNat < 224
  · rw [if_pos h2]
    unfold finR
    match t with
    | [] =>
      rw [if_pos (by simp)]
      apply runeR_bad
      rw [hd, if_neg (by simp), if_neg (by simp), if_neg (by simp)]
    | c :: t =>
      have hc := c.toNat_lt
      rw [if_neg (by simp)]
      simp only [List.getD_cons_zero, List.length_cons] at hd
      simp only [contF, Nat.add_one_sub_one]
      by_cases hc2 : c.toNat < 128 ∨ 192 ≤ c.toNat
      · rw [if_pos hc2]
        apply runeR_bad
        rw [hd, if_neg (by omega), if_neg (by omega), if_neg (by omega)]
      · rw [if_neg hc2]
        simp only
        rw [if_pos (by omega)] at hd
        by_cases hv : outR 128 (64 * (b.toNat - 192) + c.toNat - 128)
        · rw [if_pos hv]
          apply runeR_bad
          rw [hd, if_neg (by unfold outR at hv; omega)]
        · rw [if_neg hv]
          rw [if_pos (by unfold outR at hv; omega)] at hd
          have e : dec (b :: c :: t) = (64 * (b.toNat - 192) + c.toNat - 128, 2) := by rw [hd, show b.toNat % 32 * 64 + c.toNat % 64 = 64 * (b.toNat - 192) + c.toNat - 128 from by omega]
          rw [runeR_good _ (by rw [e]; simp only; omega), e]
  rw [if_neg h2]
  by_cases h3 : 224 ≤ b.toNat ∧ b.toNat < 240
  · rw [if_pos h3]
    unfold finR
    match t with
    | [] =>
      rw [if_pos (by simp)]
      apply runeR_bad
      rw [hd, if_neg (by simp), if_neg (by simp), if_neg (by simp)]
    | [c] =>
      rw [if_pos (by simp)]
      apply runeR_bad
      rw [hd, if_neg (by omega), if_neg (by simp), if_neg (by simp)]
    | c :: d :: t =>
      have hc := c.toNat_lt
      have hdd := d.toNat_lt
      rw [if_neg (by simp)]
      simp only [List.getD_cons_zero, List.getD_cons_succ, List.length_cons] at hd
      rw [if_neg (by omega)] at hd
      simp only [contF, Nat.add_one_sub_one]
      by_cases hc2 : c.toNat < 128 ∨ 192 ≤ c.toNat
      · rw [if_pos hc2]
        apply runeR_bad
        rw [hd, if_neg (by omega), if_neg (by omega)]
      · rw [if_neg hc2]
        by_cases hd2 : d.toNat < 128 ∨ 192 ≤ d.toNat
        · rw [if_pos hd2]
          apply runeR_bad
          rw [hd, if_neg (by omega), if_neg (by omega)]
        · rw [if_neg hd2]
          simp only
          rw [if_pos (by omega)] at hd
          have ev : b.toNat % 16 * 4096 + c.toNat % 64 * 64 + d.toNat % 64 = 64 * (64 * (b.toNat - 224) + c.toNat - 128) + d.toNat - 128 := by omega
          rw [ev] at hd; simp only [valid_iff] at hd
          by_cases hv : outR 2048 (64 * (64 * (b.toNat - 224) + c.toNat - 128) + d.toNat - 128)
          · rw [if_pos hv]
            apply runeR_bad
            rw [hd, if_neg (by unfold outR at hv; omega)]
          · rw [if_neg hv]
            rw [if_pos (by unfold outR at hv; omega)] at hd
            by_cases hf : 64 * (64 * (b.toNat - 224) + c.toNat - 128) + d.toNat - 128 = 65533
            · have e1 : b.toNat = 239 := by omega
              have e2 : c.toNat = 191 := by omega
              have e3 : d.toNat = 189 := by omega
              have f1 : b = 239 := UInt8.toNat_inj.1 e1
              have f2 : c = 191 := UInt8.toNat_inj.1 e2
              have f3 : d = 189 := UInt8.toNat_inj.1 e3
              unfold runeR
              rw [hd, if_neg]
              unfold badC
              simp [f1, f2, f3]
            · rw [runeR_good _ (by rw [hd]; exact hf), hd]
  rw [if_neg h3]
  by_cases h4 : 240 ≤ b.toNat ∧ b.toNat < 248
  · rw [if_pos h4]
    unfold finR
    match t with
    | [] =>
      rw [if_pos (by simp)]
      apply runeR_bad
      rw [hd, if_neg (by simp), if_neg (by simp), if_neg (by simp)]
    | [c] =>
      rw [if_pos (by simp)]
      apply runeR_bad
      rw [hd, if_neg (by omega), if_neg (by simp), if_neg (by simp)]
    | [c, d] =>
      rw [if_pos (by simp)]
      apply runeR_bad
      rw [hd, if_neg (by omega), if_neg (by omega), if_neg (by simp)]
    | c :: d :: g :: t =>
      have hc := c.toNat_lt
      have hdd := d.toNat_lt
      have hg := g.toNat_lt
      rw [if_neg (by simp)]
      simp only [List.getD_cons_zero, List.getD_cons_succ, List.length_cons] at hd
      rw [if_neg (by omega), if_neg (by omega)] at hd
      simp only [contF, Nat.add_one_sub_one]
      by_cases hc2 : c.toNat < 128 ∨ 192 ≤ c.toNat
      · rw [if_pos hc2]
        apply runeR_bad
        rw [hd, if_neg (by omega)]
      · rw [if_neg hc2]
        by_cases hd2 : d.toNat < 128 ∨ 192 ≤ d.toNat
        · rw [if_pos hd2]
          apply runeR_bad
          rw [hd, if_neg (by omega)]
        · rw [if_neg hd2]
          by_cases hg2 : g.toNat < 128 ∨ 192 ≤ g.toNat
          · rw [if_pos hg2]
            apply runeR_bad
            rw [hd, if_neg (by omega)]
          · rw [if_neg hg2]
            simp only
            rw [if_pos (by omega)] at hd
            have ev : b.toNat % 8 * 262144 + c.toNat % 64 * 4096 + d.toNat % 64 * 64 + g.toNat % 64 = 64 * (64 * (64 * (b.toNat - 240) + c.toNat - 128) + d.toNat - 128) + g.toNat - 128 := by omega
            rw [ev] at hd; simp only [valid_iff] at hd
            by_cases hv : outR 65536 (64 * (64 * (64 * (b.toNat - 240) + c.toNat - 128) + d.toNat - 128) + g.toNat - 128)
            · rw [if_pos hv]
              apply runeR_bad
              rw [hd, if_neg (by unfold outR at hv; omega)]
            · rw [if_neg hv]
              rw [if_pos (by unfold outR at hv; omega)] at hd
              rw [runeR_good _ (by rw [hd]; unfold outR at hv; simp only; omega), hd]
  rw [if_neg h4]
  apply runeR_bad
  rw [hd, if_neg (by omega), if_neg (by omega), if_neg (by omega)]


theorem ret_two {a b c d : Int} (h1 : a = b) (h2 : c = d) : Ending.returned (.tuple #[.int .i64 a, .int .i64 c]) = .returned (.tuple #[.int .i64 b, .int .i64 d]) := by rw [h1, h2]

theorem pow_bound (k v : Nat) (hk1 : 1 ≤ k) (hk3 : k ≤ 3) (h : v < 32 * 64 ^ (k - 1)) : v ≤ 131071 := by
  rcases (show k = 1 ∨ k = 2 ∨ k = 3 from by omega) with rfl | rfl | rfl <;> simp at h <;> omega
theorem pow_next (k v c : Nat) (hk1 : 1 ≤ k) (hc : c < 192) (h : v < 32 * 64 ^ (k - 1)) : 64 * v + c - 128 < 32 * 64 ^ (k + 1 - 1) := by
  obtain ⟨m, rfl⟩ : ∃ m, k = m + 1 := ⟨k - 1, by omega⟩
  simp only [Nat.add_sub_cancel] at h ⊢
  rw [Nat.pow_succ]
  omega

/-- What stands behind the first byte of a rune of n bytes, as a walk through it has it. -/
def RuneRel (s : ByteArray) (i n v0 : Nat) (b k : Value) : Prop :=
  ∃ (j v : Nat), b = .int .i64 v ∧ k = .int .i64 j ∧ 1 ≤ j ∧ j ≤ n ∧ v < 32 * 64 ^ (j - 1) ∧ contF (n - j) (s.data.toList.drop (i + j)) v = contF (n - 1) (s.data.toList.drop (i + 1)) v0

set_option maxRecDepth 100000 in
set_option maxHeartbeats 8000000 in
theorem refRune_2 (s : ByteArray) (i : Nat) (w : World) (hi : i < s.size) (hs : s.size ≤ 20000) (q : Nat) (hq1 : 192 ≤ q) (hq2 : q < 224) (X : Nat × Nat)
    (hix : ∀ W, (Instr.index 9 (.string s) (.int .i64 (i : Int))).run Tryd.prog W = .ok (.int .u8 (q : Int)) W)
    (HL : Hid (s.data.toList.length = s.size)) (HE : Hid (X = finR 2 128 (q - 192) (s.data.toList.drop (i + 1)))) :
    Calls Tryd.prog 71 #[.string s, .int .i64 i] w fun e w' => e = .returned (.tuple #[.int .i64 (X.1 : Nat), .int .i64 (X.2 : Nat)]) ∧ w = w' := by
  have hlen1 : (s.data.toList.drop (i + 1)).length + 1 = s.size - i := by rw [List.length_drop, HL.out]; omega
  unfold finR at HE
  rw [hlen1] at HE
  clear hlen1
  by_cases hsh : s.size - i < 2
  · have HF : Hid (X = (0, 0)) := by unfold Hid; rw [HE.out, if_pos hsh]
    clear HE
    have hsh' : s.size < i + 2 := by omega
    clear hsh
    go_enter Tryd.func71, Tryd.ntmps71
    go_wp2
    go_ret2
    exact ⟨by rw [HF.out]; rfl, rfl⟩
  · have hsh' : i + 2 ≤ s.size := by omega
    have t0 : decide ((q : Int) < 128) = false := by simp; omega
    have t1 : decide (192 ≤ (q : Int)) = true := by simp; omega
    have t2 : decide ((q : Int) < 224) = true := by simp; omega
    have t3 : decide ((s.size : Int) - (i : Int) < 2) = false := by simp; omega
    rw [if_neg hsh] at HE
    clear hsh
    go_enter Tryd.func71, Tryd.ntmps71
    go_wp2
    clear hix
    go_loop [6, 9] (fun b k => RuneRel s i 2 (q - 192) b k) (fun _ k => 2 - (intOf k).toNat)
    case atStart => exact ⟨1, q - 192, congrArg (Value.int .i64) (by omega), rfl, by omega, by omega, by simp; omega, rfl⟩
    case round =>
      obtain ⟨j, v, rfl, rfl, hj1, hj2, hv, hI⟩ := hrel
      have HI := Lib.hid hI
      have HV := Lib.hid hv
      clear hI hv
      by_cases hlt : j < 2
      · have hix2 : ∀ W, (Instr.index 9 (.string s) (.int .i64 ((i : Int) + j))).run Tryd.prog W = .ok (.int .u8 ((s.data.toList.getD (i + j) 0).toNat : Int)) W := fun W => by
          have h := str_index s (i + j) (by omega) W
          rw [Int.natCast_add] at h
          exact h
        have HC : Hid (s.data.toList.drop (i + j) = s.data.toList.getD (i + j) 0 :: s.data.toList.drop (i + (j + 1))) := by
          unfold Hid
          rw [List.drop_eq_getElem_cons (by rw [HL.out]; omega), List.getD_eq_getElem?_getD, List.getElem?_eq_getElem (by rw [HL.out]; omega)]; rfl
        generalize s.data.toList.getD (i + j) 0 = c at *
        have hcl := c.toNat_lt
        have hvb := pow_bound j v hj1 (by omega) HV.out
        have HN : Hid (2 - j = (2 - (j + 1)) + 1) := by unfold Hid; omega
        by_cases hbad : c.toNat < 128 ∨ 192 ≤ c.toNat
        · have HF : Hid (X = (0, 0)) := by
            unfold Hid; rw [HE.out, ← HI.out, HN.out, HC.out]; simp only [contF]; rw [if_pos hbad]
          clear HN HC HI HE
          generalize c.toNat = g at *
          rcases (show g < 128 ∨ (128 ≤ g ∧ 192 ≤ g) from by omega) with h | ⟨h, h'⟩
          all_goals
            clear hbad
            go_wp2
            go_ret2
            exact ⟨by rw [HF.out]; rfl, rfl⟩
        · have HI2 : Hid (contF (2 - (j + 1)) (s.data.toList.drop (i + (j + 1))) (64 * v + c.toNat - 128) = contF (2 - 1) (s.data.toList.drop (i + 1)) (q - 192)) := by
            unfold Hid; rw [← HI.out, HN.out, HC.out]; simp only [contF]; rw [if_neg hbad]
          have HV2 := Lib.hid (pow_next j v c.toNat hj1 (by omega) HV.out)
          have hc1 : 128 ≤ c.toNat := by omega
          have hc2 : c.toNat < 192 := by omega
          clear hbad HN HC
          generalize c.toNat = g at *
          go_wp2
          go_round
          case rel => exact ⟨j + 1, 64 * v + g - 128, congrArg (Value.int .i64) (by omega), by go_num, by omega, by omega, HV2.out, HI2.out⟩
          case measure => simp [intOf]; omega
      · obtain rfl : j = 2 := by omega
        have hE2 : X = if outR 128 v then (0, 0) else (v, 2) := by
          rw [HE.out, ← HI.out]; rfl
        have hvb : v < 32 * 64 ^ (2 - 1) := HV.out
        simp only [Nat.reduceSub, Nat.reducePow, Nat.reduceMul] at hvb
        by_cases ho : outR 128 v
        · rw [if_pos ho] at hE2
          have HF := Lib.hid hE2
          clear hE2 HE HI HV
          unfold outR at ho
          rcases (show v < 128 ∨ (128 ≤ v ∧ 1114111 < v) ∨ (128 ≤ v ∧ v ≤ 1114111 ∧ 55296 ≤ v ∧ v ≤ 57343) from by omega) with h | ⟨h, h'⟩ | ⟨h, h', x, y⟩
          all_goals
            clear ho
            go_wp2
            all_goals go_ret2
            all_goals exact ⟨by rw [HF.out]; rfl, rfl⟩
        · rw [if_neg ho] at hE2
          have HF := Lib.hid hE2
          clear hE2 HE HI HV
          unfold outR at ho
          rcases (show (128 ≤ v ∧ v ≤ 1114111 ∧ v < 55296) ∨ (128 ≤ v ∧ v ≤ 1114111 ∧ 55296 ≤ v ∧ 57343 < v) from by omega) with ⟨h, h', x⟩ | ⟨h, h', x, y⟩
          all_goals
            clear ho
            go_wp2
            all_goals go_ret2
            all_goals exact ⟨by rw [HF.out]; rfl, rfl⟩

set_option maxRecDepth 100000 in
set_option maxHeartbeats 8000000 in
theorem refRune_3 (s : ByteArray) (i : Nat) (w : World) (hi : i < s.size) (hs : s.size ≤ 20000) (q : Nat) (hq1 : 224 ≤ q) (hq2 : q < 240) (X : Nat × Nat)
    (hix : ∀ W, (Instr.index 9 (.string s) (.int .i64 (i : Int))).run Tryd.prog W = .ok (.int .u8 (q : Int)) W)
    (HL : Hid (s.data.toList.length = s.size)) (HE : Hid (X = finR 3 2048 (q - 224) (s.data.toList.drop (i + 1)))) :
    Calls Tryd.prog 71 #[.string s, .int .i64 i] w fun e w' => e = .returned (.tuple #[.int .i64 (X.1 : Nat), .int .i64 (X.2 : Nat)]) ∧ w = w' := by
  have hlen1 : (s.data.toList.drop (i + 1)).length + 1 = s.size - i := by rw [List.length_drop, HL.out]; omega
  unfold finR at HE
  rw [hlen1] at HE
  clear hlen1
  by_cases hsh : s.size - i < 3
  · have HF : Hid (X = (0, 0)) := by unfold Hid; rw [HE.out, if_pos hsh]
    clear HE
    have hsh' : s.size < i + 3 := by omega
    clear hsh
    go_enter Tryd.func71, Tryd.ntmps71
    go_wp2
    go_ret2
    exact ⟨by rw [HF.out]; rfl, rfl⟩
  · have hsh' : i + 3 ≤ s.size := by omega
    have t0 : decide ((q : Int) < 128) = false := by simp; omega
    have t1 : decide (192 ≤ (q : Int)) = true := by simp; omega
    have t2 : decide ((q : Int) < 224) = false := by simp; omega
    have t3 : decide (224 ≤ (q : Int)) = true := by simp; omega
    have t4 : decide ((q : Int) < 240) = true := by simp; omega
    have t5 : decide ((s.size : Int) - (i : Int) < 3) = false := by simp; omega
    rw [if_neg hsh] at HE
    clear hsh
    go_enter Tryd.func71, Tryd.ntmps71
    go_wp2
    clear hix
    go_loop [6, 9] (fun b k => RuneRel s i 3 (q - 224) b k) (fun _ k => 3 - (intOf k).toNat)
    case atStart => exact ⟨1, q - 224, congrArg (Value.int .i64) (by omega), rfl, by omega, by omega, by simp; omega, rfl⟩
    case round =>
      obtain ⟨j, v, rfl, rfl, hj1, hj2, hv, hI⟩ := hrel
      have HI := Lib.hid hI
      have HV := Lib.hid hv
      clear hI hv
      by_cases hlt : j < 3
      · have hix2 : ∀ W, (Instr.index 9 (.string s) (.int .i64 ((i : Int) + j))).run Tryd.prog W = .ok (.int .u8 ((s.data.toList.getD (i + j) 0).toNat : Int)) W := fun W => by
          have h := str_index s (i + j) (by omega) W
          rw [Int.natCast_add] at h
          exact h
        have HC : Hid (s.data.toList.drop (i + j) = s.data.toList.getD (i + j) 0 :: s.data.toList.drop (i + (j + 1))) := by
          unfold Hid
          rw [List.drop_eq_getElem_cons (by rw [HL.out]; omega), List.getD_eq_getElem?_getD, List.getElem?_eq_getElem (by rw [HL.out]; omega)]; rfl
        generalize s.data.toList.getD (i + j) 0 = c at *
        have hcl := c.toNat_lt
        have hvb := pow_bound j v hj1 (by omega) HV.out
        have HN : Hid (3 - j = (3 - (j + 1)) + 1) := by unfold Hid; omega
        by_cases hbad : c.toNat < 128 ∨ 192 ≤ c.toNat
        · have HF : Hid (X = (0, 0)) := by
            unfold Hid; rw [HE.out, ← HI.out, HN.out, HC.out]; simp only [contF]; rw [if_pos hbad]
          clear HN HC HI HE
          generalize c.toNat = g at *
          rcases (show g < 128 ∨ (128 ≤ g ∧ 192 ≤ g) from by omega) with h | ⟨h, h'⟩
          all_goals
            clear hbad
            go_wp2
            go_ret2
            exact ⟨by rw [HF.out]; rfl, rfl⟩
        · have HI2 : Hid (contF (3 - (j + 1)) (s.data.toList.drop (i + (j + 1))) (64 * v + c.toNat - 128) = contF (3 - 1) (s.data.toList.drop (i + 1)) (q - 224)) := by
            unfold Hid; rw [← HI.out, HN.out, HC.out]; simp only [contF]; rw [if_neg hbad]
          have HV2 := Lib.hid (pow_next j v c.toNat hj1 (by omega) HV.out)
          have hc1 : 128 ≤ c.toNat := by omega
          have hc2 : c.toNat < 192 := by omega
          clear hbad HN HC
          generalize c.toNat = g at *
          go_wp2
          go_round
          case rel => exact ⟨j + 1, 64 * v + g - 128, congrArg (Value.int .i64) (by omega), by go_num, by omega, by omega, HV2.out, HI2.out⟩
          case measure => simp [intOf]; omega
      · obtain rfl : j = 3 := by omega
        have hE2 : X = if outR 2048 v then (0, 0) else (v, 3) := by
          rw [HE.out, ← HI.out]; rfl
        have hvb : v < 32 * 64 ^ (3 - 1) := HV.out
        simp only [Nat.reduceSub, Nat.reducePow, Nat.reduceMul] at hvb
        by_cases ho : outR 2048 v
        · rw [if_pos ho] at hE2
          have HF := Lib.hid hE2
          clear hE2 HE HI HV
          unfold outR at ho
          rcases (show v < 2048 ∨ (2048 ≤ v ∧ 1114111 < v) ∨ (2048 ≤ v ∧ v ≤ 1114111 ∧ 55296 ≤ v ∧ v ≤ 57343) from by omega) with h | ⟨h, h'⟩ | ⟨h, h', x, y⟩
          all_goals
            clear ho
            go_wp2
            all_goals go_ret2
            all_goals exact ⟨by rw [HF.out]; rfl, rfl⟩
        · rw [if_neg ho] at hE2
          have HF := Lib.hid hE2
          clear hE2 HE HI HV
          unfold outR at ho
          rcases (show (2048 ≤ v ∧ v ≤ 1114111 ∧ v < 55296) ∨ (2048 ≤ v ∧ v ≤ 1114111 ∧ 55296 ≤ v ∧ 57343 < v) from by omega) with ⟨h, h', x⟩ | ⟨h, h', x, y⟩
          all_goals
            clear ho
            go_wp2
            all_goals go_ret2
            all_goals exact ⟨by rw [HF.out]; rfl, rfl⟩

set_option maxRecDepth 100000 in
set_option maxHeartbeats 8000000 in
theorem refRune_4 (s : ByteArray) (i : Nat) (w : World) (hi : i < s.size) (hs : s.size ≤ 20000) (q : Nat) (hq1 : 240 ≤ q) (hq2 : q < 248) (X : Nat × Nat)
    (hix : ∀ W, (Instr.index 9 (.string s) (.int .i64 (i : Int))).run Tryd.prog W = .ok (.int .u8 (q : Int)) W)
    (HL : Hid (s.data.toList.length = s.size)) (HE : Hid (X = finR 4 65536 (q - 240) (s.data.toList.drop (i + 1)))) :
    Calls Tryd.prog 71 #[.string s, .int .i64 i] w fun e w' => e = .returned (.tuple #[.int .i64 (X.1 : Nat), .int .i64 (X.2 : Nat)]) ∧ w = w' := by
  have hlen1 : (s.data.toList.drop (i + 1)).length + 1 = s.size - i := by rw [List.length_drop, HL.out]; omega
  unfold finR at HE
  rw [hlen1] at HE
  clear hlen1
  by_cases hsh : s.size - i < 4
  · have HF : Hid (X = (0, 0)) := by unfold Hid; rw [HE.out, if_pos hsh]
    clear HE
    have hsh' : s.size < i + 4 := by omega
    clear hsh
    go_enter Tryd.func71, Tryd.ntmps71
    go_wp2
    go_ret2
    exact ⟨by rw [HF.out]; rfl, rfl⟩
  · have hsh' : i + 4 ≤ s.size := by omega
    have t0 : decide ((q : Int) < 128) = false := by simp; omega
    have t1 : decide (192 ≤ (q : Int)) = true := by simp; omega
    have t2 : decide ((q : Int) < 224) = false := by simp; omega
    have t3 : decide (224 ≤ (q : Int)) = true := by simp; omega
    have t4 : decide ((q : Int) < 240) = false := by simp; omega
    have t5 : decide (240 ≤ (q : Int)) = true := by simp; omega
    have t6 : decide ((q : Int) < 248) = true := by simp; omega
    have t7 : decide ((s.size : Int) - (i : Int) < 4) = false := by simp; omega
    rw [if_neg hsh] at HE
    clear hsh
    go_enter Tryd.func71, Tryd.ntmps71
    go_wp2
    clear hix
    go_loop [6, 9] (fun b k => RuneRel s i 4 (q - 240) b k) (fun _ k => 4 - (intOf k).toNat)
    case atStart => exact ⟨1, q - 240, congrArg (Value.int .i64) (by omega), rfl, by omega, by omega, by simp; omega, rfl⟩
    case round =>
      obtain ⟨j, v, rfl, rfl, hj1, hj2, hv, hI⟩ := hrel
      have HI := Lib.hid hI
      have HV := Lib.hid hv
      clear hI hv
      by_cases hlt : j < 4
      · have hix2 : ∀ W, (Instr.index 9 (.string s) (.int .i64 ((i : Int) + j))).run Tryd.prog W = .ok (.int .u8 ((s.data.toList.getD (i + j) 0).toNat : Int)) W := fun W => by
          have h := str_index s (i + j) (by omega) W
          rw [Int.natCast_add] at h
          exact h
        have HC : Hid (s.data.toList.drop (i + j) = s.data.toList.getD (i + j) 0 :: s.data.toList.drop (i + (j + 1))) := by
          unfold Hid
          rw [List.drop_eq_getElem_cons (by rw [HL.out]; omega), List.getD_eq_getElem?_getD, List.getElem?_eq_getElem (by rw [HL.out]; omega)]; rfl
        generalize s.data.toList.getD (i + j) 0 = c at *
        have hcl := c.toNat_lt
        have hvb := pow_bound j v hj1 (by omega) HV.out
        have HN : Hid (4 - j = (4 - (j + 1)) + 1) := by unfold Hid; omega
        by_cases hbad : c.toNat < 128 ∨ 192 ≤ c.toNat
        · have HF : Hid (X = (0, 0)) := by
            unfold Hid; rw [HE.out, ← HI.out, HN.out, HC.out]; simp only [contF]; rw [if_pos hbad]
          clear HN HC HI HE
          generalize c.toNat = g at *
          rcases (show g < 128 ∨ (128 ≤ g ∧ 192 ≤ g) from by omega) with h | ⟨h, h'⟩
          all_goals
            clear hbad
            go_wp2
            go_ret2
            exact ⟨by rw [HF.out]; rfl, rfl⟩
        · have HI2 : Hid (contF (4 - (j + 1)) (s.data.toList.drop (i + (j + 1))) (64 * v + c.toNat - 128) = contF (4 - 1) (s.data.toList.drop (i + 1)) (q - 240)) := by
            unfold Hid; rw [← HI.out, HN.out, HC.out]; simp only [contF]; rw [if_neg hbad]
          have HV2 := Lib.hid (pow_next j v c.toNat hj1 (by omega) HV.out)
          have hc1 : 128 ≤ c.toNat := by omega
          have hc2 : c.toNat < 192 := by omega
          clear hbad HN HC
          generalize c.toNat = g at *
          go_wp2
          go_round
          case rel => exact ⟨j + 1, 64 * v + g - 128, congrArg (Value.int .i64) (by omega), by go_num, by omega, by omega, HV2.out, HI2.out⟩
          case measure => simp [intOf]; omega
      · obtain rfl : j = 4 := by omega
        have hE2 : X = if outR 65536 v then (0, 0) else (v, 4) := by
          rw [HE.out, ← HI.out]; rfl
        have hvb : v < 32 * 64 ^ (4 - 1) := HV.out
        simp only [Nat.reduceSub, Nat.reducePow, Nat.reduceMul] at hvb
        by_cases ho : outR 65536 v
        · rw [if_pos ho] at hE2
          have HF := Lib.hid hE2
          clear hE2 HE HI HV
          unfold outR at ho
          rcases (show v < 65536 ∨ (65536 ≤ v ∧ 1114111 < v) ∨ (65536 ≤ v ∧ v ≤ 1114111 ∧ 55296 ≤ v ∧ v ≤ 57343) from by omega) with h | ⟨h, h'⟩ | ⟨h, h', x, y⟩
          all_goals
            clear ho
            go_wp2
            all_goals go_ret2
            all_goals exact ⟨by rw [HF.out]; rfl, rfl⟩
        · rw [if_neg ho] at hE2
          have HF := Lib.hid hE2
          clear hE2 HE HI HV
          unfold outR at ho
          rcases (show (65536 ≤ v ∧ v ≤ 1114111 ∧ v < 55296) ∨ (65536 ≤ v ∧ v ≤ 1114111 ∧ 55296 ≤ v ∧ 57343 < v) from by omega) with ⟨h, h', x⟩ | ⟨h, h', x, y⟩
          all_goals
            clear ho
            go_wp2
            all_goals go_ret2
            all_goals exact ⟨by rw [HF.out]; rfl, rfl⟩

set_option maxRecDepth 100000 in
set_option maxHeartbeats 8000000 in
theorem refRune_any (s : ByteArray) (i : Nat) (w : World) (hi : i < s.size) (hs : s.size ≤ 20000) :
    Calls Tryd.prog 71 #[.string s, .int .i64 i] w fun e w' => e = .returned (.tuple #[.int .i64 ((runeR (s.data.toList.drop i)).1 : Nat), .int .i64 ((runeR (s.data.toList.drop i)).2 : Nat)]) ∧ w = w' := by
  have hll : s.data.toList.length = s.size := Array.length_toList
  have hix := str_index s i hi
  have hdr : s.data.toList.drop i = s.data.toList.getD i 0 :: s.data.toList.drop (i + 1) := by
    rw [List.drop_eq_getElem_cons (by omega), List.getD_eq_getElem?_getD, List.getElem?_eq_getElem (by omega)]; rfl
  have hR := runeR_eq (s.data.toList.getD i 0) (s.data.toList.drop (i + 1))
  rw [← hdr] at hR
  clear hdr
  generalize runeR (s.data.toList.drop i) = X at *
  generalize s.data.toList.getD i 0 = b at *
  have hbl := b.toNat_lt
  have HR := Lib.hid hR
  have HL := Lib.hid hll
  clear hR hll
  by_cases h0 : b.toNat < 128
  · have HE : Hid (X = (b.toNat, 1)) := by unfold Hid; rw [HR.out, if_pos h0]
    clear HR
    generalize b.toNat = q at *
    go_enter Tryd.func71, Tryd.ntmps71
    go_wp2
    go_ret2
    exact ⟨by rw [HE.out]; rfl, rfl⟩
  by_cases h2 : 192 ≤ b.toNat ∧ b.toNat < 224
  · exact refRune_2 s i w hi hs b.toNat h2.1 h2.2 X hix HL (by unfold Hid; rw [HR.out, if_neg h0, if_pos h2])
  by_cases h3 : 224 ≤ b.toNat ∧ b.toNat < 240
  · exact refRune_3 s i w hi hs b.toNat h3.1 h3.2 X hix HL (by unfold Hid; rw [HR.out, if_neg h0, if_neg h2, if_pos h3])
  by_cases h4 : 240 ≤ b.toNat ∧ b.toNat < 248
  · exact refRune_4 s i w hi hs b.toNat h4.1 h4.2 X hix HL (by unfold Hid; rw [HR.out, if_neg h0, if_neg h2, if_neg h3, if_pos h4])
  have HE : Hid (X = (0, 0)) := by unfold Hid; rw [HR.out, if_neg h0, if_neg h2, if_neg h3, if_neg h4]
  clear HR
  generalize b.toNat = q at *
  rcases (show (128 ≤ q ∧ q < 192) ∨ 248 ≤ q from by omega) with ⟨h, h'⟩ | h
  all_goals
    clear h0 h2 h3 h4
    go_enter Tryd.func71, Tryd.ntmps71
    go_wp2
    go_ret2
    exact ⟨by rw [HE.out]; rfl, rfl⟩


/-- The runes up to the first bad byte, where each begins, and whether there is none. -/
def runesGo : List (Nat × List UInt8) → Nat → List Nat × List Nat × Bool
  | [], p => ([], [p], true)
  | c :: cs, p => if badC c = true then ([], [], false) else (c.1 :: (runesGo cs (p + c.2.length)).1, p :: (runesGo cs (p + c.2.length)).2.1, (runesGo cs (p + c.2.length)).2.2)
def intsC (l : List Nat) : List Value := l.map fun (n : Nat) => Value.int .i64 (n : Int)
theorem intsC_append (a b : List Nat) : intsC (a ++ b) = intsC a ++ intsC b := by simp [intsC]

def RunesPost (l : List UInt8) (s : ByteArray) (w : World) (e : Ending) (w' : World) : Prop :=
  ∃ A1 n1 c1 A2 n2 c2, e = .returned (.tuple #[.agg #[.string s, .slice A1 n1 c1, .slice A2 n2 c2], .bool (runesGo (rn l) 0).2.2]) ∧
    w'.ownsRow w.heap.size 3 1 (.slice A1 n1 c1) (runesGo (rn l) 0).1.length (intsC (runesGo (rn l) 0).1) ∧
    w'.ownsRow w.heap.size 3 1 (.slice A2 n2 c2) (runesGo (rn l) 0).2.1.length (intsC (runesGo (rn l) 0).2.1) ∧ Below w.heap.size w w'

/-- What the two lists of runes and places are at a place, and what is still to come. -/
def RunesInv (s : ByteArray) (pos : Nat) (rs ats : List Nat) : Prop :=
  runesGo (rn s.data.toList) 0 = (rs ++ (runesGo (Lx.at_ s pos) pos).1, ats ++ (runesGo (Lx.at_ s pos) pos).2.1, (runesGo (Lx.at_ s pos) pos).2.2)

def RunesRel (s : ByteArray) (w : World) (i : Value) (wr : World) : Prop :=
  ∃ (pos : Nat) (rs ats : List Nat) (A1 : Option Addr) (c1 : Nat) (A2 : Option Addr) (c2 : Nat), i = .int .i64 pos ∧
    Box wr w.heap.size 89 #[.string ⟨#[]⟩, .slice none 0 0, .slice none 0 0] ∧
    Box wr (w.heap.size + 1) 89 #[.string s, .slice A1 rs.length c1, .slice A2 ats.length c2] ∧
    wr.ownsRow (w.heap.size + 2) 3 1 (.slice A1 rs.length c1) rs.length (intsC rs) ∧ wr.ownsRow (w.heap.size + 2) 3 1 (.slice A2 ats.length c2) ats.length (intsC ats) ∧
    ((Value.slice A1 rs.length c1).ownBlock = none ∨ (Value.slice A1 rs.length c1).ownBlock ≠ (Value.slice A2 ats.length c2).ownBlock) ∧
    Below w.heap.size w wr ∧ w.heap.size + 2 ≤ wr.heap.size ∧ pos ≤ s.size ∧ rs.length ≤ pos ∧ ats.length ≤ pos ∧ RunesInv s pos rs ats

theorem info_int : (Tryd.prog.info? 3).map (fun i => (i.zero, i.size, i.bytes)) = some (some (.int .i64 0), 1, 8) := by kernel_rfl
theorem Box.three {w : World} {g : Nat} {t : TypeId} {a b c : Value} (h : Box w g t #[a, b, c]) :
    w.cell? ⟨g, 0, none⟩ = some a ∧ w.cell? ⟨g, 1, none⟩ = some b ∧ w.cell? ⟨g, 2, none⟩ = some c ∧
    w.frozen? ⟨g, 0, none⟩ = false ∧ w.frozen? ⟨g, 1, none⟩ = false ∧ w.frozen? ⟨g, 2, none⟩ = false :=
  ⟨h.cell 0, h.cell 1, h.cell 2, h.frozen 0, h.frozen 1, h.frozen 2⟩
theorem own_ne {w : World} {base : Nat} {e : TypeId} {size : Nat} {v : Value} {n : Nat} {xs : List Value} (h : w.ownsRow base e size v n xs) {g : Nat} (hg : g < base) : some g ≠ v.ownBlock := by
  intro e
  have := (h.lt _ e.symm).1
  omega
theorem intsC_one (n : Nat) : ∀ u ∈ intsC [n], u.oneCell' = true := by
  intro u hu
  simp [intsC] at hu
  subst hu
  rfl

theorem runeR_at (s : ByteArray) (pos : Nat) : runeR (s.data.toList.drop pos) = if badC ((Utf8.decode s pos).1, (s.data.toList.drop pos).take (Utf8.decode s pos).2) = true then (0, 0) else Utf8.decode s pos := by
  unfold runeR; rw [decode_drop]

theorem own_set3 {w : World} {base B : Nat} {e : TypeId} {size : Nat} {v : Value} {n : Nat} {xs : List Value} (h : w.ownsRow base e size v n xs) (hB : B < base) (x0 x1 x2 : Value) :
    (((w.setCell ⟨B, 0, none⟩ x0).setCell ⟨B, 1, none⟩ x1).setCell ⟨B, 2, none⟩ x2).ownsRow base e size v n xs :=
  ownsRow_setCell_below (ownsRow_setCell_below (ownsRow_setCell_below h (a := ⟨B, 0, none⟩) hB x0) (a := ⟨B, 1, none⟩) hB x1) (a := ⟨B, 2, none⟩) hB x2
theorem below_set3 {B g : Nat} {a w : World} (h : Below B a w) (hg : B ≤ g) (x0 x1 x2 : Value) :
    Below B a (((w.setCell ⟨g, 0, none⟩ x0).setCell ⟨g, 1, none⟩ x1).setCell ⟨g, 2, none⟩ x2) :=
  ((h.setCell (p := ⟨g, 0, none⟩) hg x0).setCell (p := ⟨g, 1, none⟩) hg x1).setCell (p := ⟨g, 2, none⟩) hg x2

set_option maxHeartbeats 8000000 in
theorem Runes_any (s : ByteArray) (w : World) (hs : s.size ≤ 20000) :
    Calls Tryd.prog 52 #[.string s] w (RunesPost s.data.toList s w) := by
  obtain ⟨inf, hinf, hz0, hz1, hz2⟩ := info_parts info_int
  go_enter Tryd.func52, Tryd.ntmps52
  go_wp2
  go_loopw [5] (RunesRel s w) (fun i _ => s.size - (intOf i).toNat)
  case atStart =>
    refine ⟨0, [], [], none, 0, none, 0, rfl, ?_, ?_, World.ownsRow_nil _ _ _ _, World.ownsRow_nil _ _ _ _, Or.inl rfl, ((Below.refl _ w).alloc (Nat.le_refl _) _).alloc (by simp) _, by simp, by omega, by simp, by simp, ?_⟩
    · exact (Box.new w _ _).below ((Below.refl (w.heap.size + 1) _).alloc (by simp) _) (by omega)
    · have := Box.new (w.alloc (.cells #[.string ⟨#[]⟩, .slice none 0 0, .slice none 0 0] 89)) 89 #[.string s, .slice none 0 0, .slice none 0 0]
      simpa using this
    · unfold RunesInv Lx.at_; simp
  case round =>
    obtain ⟨pos, rs, ats, A1, c1, A2, c2, rfl, hx0, hx1, ho1, ho2, hdis, hbw, hsz, hpl, hl1, hl2, hinv⟩ := hrel
    have HI := Lib.hid hinv
    clear hinv
    obtain ⟨p0, p1, p2, f0, f1, f2⟩ := hx0.three
    obtain ⟨q0, q1, q2, y0, y1, y2⟩ := hx1.three
    by_cases hp : pos < s.size
    · have hwd := width_le s pos hp
      have HN := Lib.hid (at_next s pos hp)
      have HT := Lib.hid (take_len s pos hp)
      have HR := Lib.hid (runeR_at s pos)
      generalize hd : Utf8.decode s pos = d at *
      have Hd := Lib.hid hd; clear hd
      obtain ⟨r, wd⟩ := d
      rcases hb : badC (r, (s.data.toList.drop pos).take wd) with _ | _
      · have HR2 : Hid (runeR (s.data.toList.drop pos) = (r, wd)) := by unfold Hid; rw [HR.out, hb]; simp
        have HI2 : Hid (RunesInv s (pos + wd) (rs ++ [r]) (ats ++ [pos])) := by
          have h := HI.out
          unfold RunesInv at h
          rw [HN.out] at h
          simp only [runesGo, hb, HT.out] at h
          unfold Hid RunesInv
          rw [h]
          simp
        clear HI HR HN HT hb
        have bz : ((wd : Int) == 0) = false := beq_eq_false_iff_ne.2 (by omega)
        go_wp2_with fail
        refine (refRune_any s pos _ hp hs).mono ?_
        rintro e w' ⟨rfl, rfl⟩
        rw [HR2.out]
        simp only
        go_wp2_with (at_builtin; refine wpList_append_lies _ rfl _ _ 87 rfl (w.heap.size + 2) 3 inf (.int .i64 0) 1 8 Tryd.underlying87 hinf hz0 hz1 hz2 rfl (by decide) _ _ _ rfl (ho1.alloc _) ⟨wr.heap.size, 0, none⟩ 1 1 (intsC [r]) rfl rfl ?c1 ?c2 ?c3 ?c4 ?c5 ?c6 (wr.heap.size + 1) ?c7 ?_)
        case c1 => exact new_cells0 wr _ (intsC [r])
        case c2 => exact intsC_one r
        case c3 => decide
        case c4 => unfold maxLen; omega
        case c5 => omega
        case c6 => simp; omega
        case c7 => simp
        intro g1 cap1 w1 h1 hg1 hor1 hlt1
        have hx0' := (hx0.alloc (.cells #[.int .i64 (r : Int)] 3)).grown hg1 (own_ne ho1 (by omega))
        have hx1' := (hx1.alloc (.cells #[.int .i64 (r : Int)] 3)).grown hg1 (own_ne ho1 (by omega))
        have ho2' := (ho2.alloc (.cells #[.int .i64 (r : Int)] 3)).kept hg1 (by
          rcases hdis with h | h
          · rw [h]
            cases hq : (Value.slice A2 ats.length c2).ownBlock with
            | none => exact Or.inl rfl
            | some g => exact Or.inr (by simp)
          · exact Or.inr (Ne.symm h))
        have hne1 : (Value.slice A2 ats.length c2).ownBlock ≠ some g1 := by
          intro e
          rcases hor1 with h | h
          · rcases hdis with hd | hd
            · rw [hd] at h; cases h
            · exact hd (h.trans e.symm)
          · have := (ho2.lt _ e).2; omega
        have hg1b : w.heap.size + 2 ≤ g1 := by
          have := (h1.lt g1 rfl).1; exact this
        have hbw1 : Below w.heap.size w w1 := (hbw.alloc (by omega) _).grown hg1 (by simp; omega) (fun k hk => by have := (ho1.lt _ hk).1; omega)
        have hsz1 : w.heap.size + 2 ≤ w1.heap.size := by omega
        clear hx0 hx1 ho1 ho2 hbw hg1 p0 p1 p2 f0 f1 f2 q0 q1 q2 y0 y1 y2 hdis
        obtain ⟨p0, p1, p2, f0, f1, f2⟩ := hx0'.three
        obtain ⟨q0, q1, q2, e0, e1, e2⟩ := hx1'.three
        have hx0s := hx0'.far (p := ⟨w.heap.size + 1, 1, none⟩) (by simp) (.slice (some ⟨g1, 0, none⟩) (rs.length + 1) cap1)
        have hx1s : Box (w1.setCell ⟨w.heap.size + 1, 1, none⟩ (.slice (some ⟨g1, 0, none⟩) (rs.length + 1) cap1)) (w.heap.size + 1) 89 #[.string s, .slice (some ⟨g1, 0, none⟩) (rs.length + 1) cap1, .slice A2 ats.length c2] := hx1'.set_ 1 (.slice (some ⟨g1, 0, none⟩) (rs.length + 1) cap1)
        have h1s := ownsRow_setCell_below h1 (a := ⟨w.heap.size + 1, 1, none⟩) (by simp) (.slice (some ⟨g1, 0, none⟩) (rs.length + 1) cap1)
        have ho2s := ownsRow_setCell_below ho2' (a := ⟨w.heap.size + 1, 1, none⟩) (by simp) (.slice (some ⟨g1, 0, none⟩) (rs.length + 1) cap1)
        have hbw1s := hbw1.setCell (p := ⟨w.heap.size + 1, 1, none⟩) (by simp) (.slice (some ⟨g1, 0, none⟩) (rs.length + 1) cap1)
        have hszs : (w1.setCell ⟨w.heap.size + 1, 1, none⟩ (.slice (some ⟨g1, 0, none⟩) (rs.length + 1) cap1)).heap.size = w1.heap.size := by simp [World.setCell]
        clear hx0' hx1' h1 ho2' hbw1
        go_wp2_with (at_builtin; refine wpList_append_lies _ rfl _ _ 87 rfl (w.heap.size + 2) 3 inf (.int .i64 0) 1 8 Tryd.underlying87 hinf hz0 hz1 hz2 rfl (by decide) _ _ _ rfl (ho2s.alloc _) ⟨w1.heap.size, 0, none⟩ 1 1 (intsC [pos]) rfl rfl ?d1 ?d2 ?d3 ?d4 ?d5 ?d6 (w1.heap.size + 1) ?d7 ?_)
        case d1 =>
          have h := new_cells0 (w1.setCell ⟨w.heap.size + 1, 1, none⟩ (.slice (some ⟨g1, 0, none⟩) (rs.length + 1) cap1)) 3 (intsC [pos])
          rw [hszs] at h
          exact h
        case d2 => exact intsC_one pos
        case d3 => decide
        case d4 => unfold maxLen; omega
        case d5 => omega
        case d6 => simp; omega
        case d7 => simp
        intro g2 cap2 w2 h2 hg2 hor2 hlt2
        have hx0'' := (hx0s.alloc (.cells #[.int .i64 (pos : Int)] 3)).grown hg2 (own_ne ho2s (by omega))
        have hx1'' := (hx1s.alloc (.cells #[.int .i64 (pos : Int)] 3)).grown hg2 (own_ne ho2s (by omega))
        have h1'' := (h1s.alloc (.cells #[.int .i64 (pos : Int)] 3)).kept hg2 (Or.inr (fun e => hne1 e.symm))
        have hne2 : some g1 ≠ some g2 := by
          intro e
          rcases hor2 with h | h
          · exact hne1 (h.trans e.symm)
          · injection e with e; omega
        have hbw2 : Below w.heap.size w w2 := (hbw1s.alloc (by omega) _).grown hg2 (by simp; omega) (fun k hk => by have := (ho2s.lt _ hk).1; omega)
        have hsz2 : w.heap.size + 2 ≤ w2.heap.size := by have := (h2.lt g2 rfl).1; omega
        clear hx0s hx1s h1s ho2s hbw1s hg2 p0 p1 p2 f0 f1 f2 q0 q1 q2 e0 e1 e2 hor1 hor2 hszs hne1
        obtain ⟨q0, q1, q2, e0, e1, e2⟩ := hx1''.three
        have hx0f := hx0''.far (p := ⟨w.heap.size + 1, 2, none⟩) (by simp) (.slice (some ⟨g2, 0, none⟩) (ats.length + 1) cap2)
        have hx1f : Box (w2.setCell ⟨w.heap.size + 1, 2, none⟩ (.slice (some ⟨g2, 0, none⟩) (ats.length + 1) cap2)) (w.heap.size + 1) 89 #[.string s, .slice (some ⟨g1, 0, none⟩) (rs.length + 1) cap1, .slice (some ⟨g2, 0, none⟩) (ats.length + 1) cap2] := hx1''.set_ 2 (.slice (some ⟨g2, 0, none⟩) (ats.length + 1) cap2)
        have h1f := ownsRow_setCell_below h1'' (a := ⟨w.heap.size + 1, 2, none⟩) (by simp) (.slice (some ⟨g2, 0, none⟩) (ats.length + 1) cap2)
        have h2f := ownsRow_setCell_below h2 (a := ⟨w.heap.size + 1, 2, none⟩) (by simp) (.slice (some ⟨g2, 0, none⟩) (ats.length + 1) cap2)
        have hbwf := hbw2.setCell (p := ⟨w.heap.size + 1, 2, none⟩) (by simp) (.slice (some ⟨g2, 0, none⟩) (ats.length + 1) cap2)
        have hszf : w.heap.size + 2 ≤ (w2.setCell ⟨w.heap.size + 1, 2, none⟩ (.slice (some ⟨g2, 0, none⟩) (ats.length + 1) cap2)).heap.size := by simpa [World.setCell] using hsz2
        rw [← intsC_append] at h1f h2f
        have HA := Lib.hid hx0f
        have HB := Lib.hid hx1f
        have HC := Lib.hid h1f
        have HD := Lib.hid h2f
        have HE := Lib.hid hne2
        clear hx0'' hx1'' h1'' h2 hbw2 hx0f hx1f h1f h2f hne2
        go_wp2_with fail
        go_roundw
        case rel =>
          have hlr : (rs ++ [r]).length = rs.length + 1 := by simp
          have hla : (ats ++ [pos]).length = ats.length + 1 := by simp
          exact ⟨pos + wd, rs ++ [r], ats ++ [pos], some ⟨g1, 0, none⟩, cap1, some ⟨g2, 0, none⟩, cap2, by go_num, HA.out, by rw [hlr, hla]; exact HB.out, by rw [hlr]; exact HC.out, by rw [hla]; exact HD.out, Or.inr (by rw [hlr, hla]; exact HE.out), hbwf, hszf, by omega, by omega, by omega, HI2.out⟩
        case measure => simp [intOf]; omega
      · have HR2 : Hid (runeR (s.data.toList.drop pos) = (0, 0)) := by unfold Hid; rw [HR.out, hb]; simp
        have HX : Hid (runesGo (rn s.data.toList) 0 = (rs, ats, false)) := by
          have h := HI.out
          unfold RunesInv at h
          rw [HN.out] at h
          simp only [runesGo, hb, if_true, List.append_nil] at h
          exact h
        clear HI HR HN HT hb
        go_wp2_with fail
        refine (refRune_any s pos _ hp hs).mono ?_
        rintro e w' ⟨rfl, rfl⟩
        rw [HR2.out]
        simp only
        go_wp2_with fail
        refine bodyPost_ret (v := .tuple #[.agg #[.string s, .slice A1 rs.length c1, .slice A2 ats.length c2], .bool false]) (by simp [results, Tryd.results52, go_sem, p0, p1, p2]) rfl ?_
        refine ⟨A1, rs.length, c1, A2, ats.length, c2, ?_, ?_, ?_, below_set3 hbw (Nat.le_refl _) _ _ _⟩
        · rw [HX.out]
        · rw [HX.out]; exact ownsRow_less (own_set3 ho1 (by omega) _ _ _) (by omega)
        · rw [HX.out]; exact ownsRow_less (own_set3 ho2 (by omega) _ _ _) (by omega)
    · have HX : Hid (runesGo (rn s.data.toList) 0 = (rs, ats ++ [pos], true)) := by
        have h := HI.out
        unfold RunesInv at h
        rw [at_end s pos hp] at h
        simp only [runesGo, List.append_nil] at h
        exact h
      obtain rfl : pos = s.size := by omega
      clear HI
      go_wp2_with (at_builtin; refine wpList_append_lies _ rfl _ _ 87 rfl (w.heap.size + 2) 3 inf (.int .i64 0) 1 8 Tryd.underlying87 hinf hz0 hz1 hz2 rfl (by decide) _ _ _ rfl (ho2.alloc _) ⟨wr.heap.size, 0, none⟩ 1 1 (intsC [s.size]) rfl rfl ?e1 ?e2 ?e3 ?e4 ?e5 ?e6 (wr.heap.size + 1) ?e7 ?_)
      case e1 => exact new_cells0 wr _ (intsC [s.size])
      case e2 => exact intsC_one s.size
      case e3 => decide
      case e4 => unfold maxLen; omega
      case e5 => omega
      case e6 => simp; omega
      case e7 => simp
      intro g2 cap2 w2 h2 hg2 hor2 hlt2
      have hx0' := (hx0.alloc (.cells #[.int .i64 (s.size : Int)] 3)).grown hg2 (own_ne ho2 (by omega))
      have hx1' := (hx1.alloc (.cells #[.int .i64 (s.size : Int)] 3)).grown hg2 (own_ne ho2 (by omega))
      have ho1' := (ho1.alloc (.cells #[.int .i64 (s.size : Int)] 3)).kept hg2 hdis
      have hbw2 : Below w.heap.size w w2 := (hbw.alloc (by omega) _).grown hg2 (by simp; omega) (fun k hk => by have := (ho2.lt _ hk).1; omega)
      clear hx0 hx1 ho1 ho2 hbw hg2 p0 p1 p2 f0 f1 f2 q0 q1 q2 y0 y1 y2 hor2 hdis
      obtain ⟨p0, p1, p2, f0, f1, f2⟩ := hx0'.three
      obtain ⟨q0, q1, q2, e0, e1, e2⟩ := hx1'.three
      clear hx0' hx1'
      rw [← intsC_append] at h2
      have h2f := ownsRow_setCell_below h2 (a := ⟨w.heap.size + 1, 2, none⟩) (by simp) (.slice (some ⟨g2, 0, none⟩) (ats.length + 1) cap2)
      have h1f := ownsRow_setCell_below ho1' (a := ⟨w.heap.size + 1, 2, none⟩) (by simp) (.slice (some ⟨g2, 0, none⟩) (ats.length + 1) cap2)
      have hbwf := hbw2.setCell (p := ⟨w.heap.size + 1, 2, none⟩) (by simp) (.slice (some ⟨g2, 0, none⟩) (ats.length + 1) cap2)
      clear h2 ho1' hbw2
      have HA := Lib.hid h1f
      have HB := Lib.hid h2f
      clear h1f h2f
      go_wp2_with fail
      refine bodyPost_ret (v := .tuple #[.agg #[.string s, .slice A1 rs.length c1, .slice (some ⟨g2, 0, none⟩) (ats.length + 1) cap2], .bool true]) (by simp [results, Tryd.results52, go_sem, p0, p1, p2]) rfl ?_
      refine ⟨A1, rs.length, c1, some ⟨g2, 0, none⟩, ats.length + 1, cap2, ?_, ?_, ?_, below_set3 hbwf (Nat.le_refl _) _ _ _⟩
      · rw [HX.out]
      · rw [HX.out]; exact ownsRow_less (own_set3 HA.out (by omega) _ _ _) (by omega)
      · rw [HX.out]; exact ownsRow_less (own_set3 (by rw [List.length_append]; exact HB.out) (by omega) _ _ _) (by omega)


def isWI (r : Int) : Bool := letterI r || digitI r
theorem cls_two (r : Int) : clsI r = 2 ↔ letterI r = true := by
  unfold clsI signI letterI digitI
  simp only [decide_eq_true_eq, Bool.or_eq_true, Bool.and_eq_true, Bool.not_eq_true', decide_eq_false_iff_not]
  repeat' split
  all_goals omega
theorem cls_three (r : Int) : clsI r = 3 ↔ digitI r = true := by
  unfold clsI signI letterI digitI
  simp only [decide_eq_true_eq, Bool.or_eq_true, Bool.and_eq_true, Bool.not_eq_true', decide_eq_false_iff_not]
  repeat' split
  all_goals omega

theorem wordy_any (r : Int) (w : World) :
    Calls Tryd.prog 54 #[.int .i64 r] w fun e w' => e = .returned (.bool (isWI r)) ∧ w = w' := by
  have hl := cls_two r
  have hd := cls_three r
  by_cases h2 : clsI r = 2
  · have HX : Hid (isWI r = true) := by unfold Hid isWI; rw [hl.1 h2]; rfl
    have b2 : (clsI r == 2) = true := by simp [h2]
    clear hl hd h2
    go_enter Tryd.func54, Tryd.ntmps54
    go_wp2_with (go_at_call 53; refine (refClass_any _ _).mono ?_; rintro e w' ⟨rfl, rfl⟩)
    go_ret
    exact ⟨ret_bool HX.out.symm, rfl⟩
  · have b2 : (clsI r == 2) = false := by simp [h2]
    have hl' : letterI r = false := by cases h : letterI r with | false => rfl | true => exact absurd (hl.2 h) h2
    by_cases h3 : clsI r = 3
    · have HX : Hid (isWI r = true) := by unfold Hid isWI; rw [hd.1 h3]; simp
      have b3 : (clsI r == 3) = true := by simp [h3]
      clear hl hd h2 h3 hl'
      go_enter Tryd.func54, Tryd.ntmps54
      go_wp2_with (go_at_call 53; refine (refClass_any _ _).mono ?_; rintro e w' ⟨rfl, rfl⟩)
      go_ret
      exact ⟨ret_bool HX.out.symm, rfl⟩
    · have hd' : digitI r = false := by cases h : digitI r with | false => rfl | true => exact absurd (hd.2 h) h3
      have HX : Hid (isWI r = false) := by unfold Hid isWI; rw [hl', hd']; rfl
      have b3 : (clsI r == 3) = false := by simp [h3]
      clear hl hd h2 h3 hl' hd'
      go_enter Tryd.func54, Tryd.ntmps54
      go_wp2_with (go_at_call 53; refine (refClass_any _ _).mono ?_; rintro e w' ⟨rfl, rfl⟩)
      go_ret
      exact ⟨ret_bool HX.out.symm, rfl⟩

theorem runesGo_true (cs : List (Nat × List UInt8)) : ∀ p, (runesGo cs p).2.2 = true → (runesGo cs p).1 = cs.map (·.1) ∧ ∀ c ∈ cs, badC c = false := by
  induction cs with
  | nil => intro p _; simp [runesGo]
  | cons c cs ih =>
    intro p h
    unfold runesGo at h ⊢
    by_cases hb : badC c = true
    · rw [if_pos hb] at h; cases h
    · rw [if_neg hb] at h ⊢
      obtain ⟨h1, h2⟩ := ih _ h
      exact ⟨by simp [h1], fun x hx => by rcases List.mem_cons.1 hx with rfl | hx; simpa using hb; exact h2 x hx⟩
theorem runesGo_false (cs : List (Nat × List UInt8)) : ∀ p, (runesGo cs p).2.2 = false → ∃ c ∈ cs, badC c = true := by
  induction cs with
  | nil => intro p h; simp [runesGo] at h
  | cons c cs ih =>
    intro p h
    unfold runesGo at h
    by_cases hb : badC c = true
    · exact ⟨c, by simp, hb⟩
    · rw [if_neg hb] at h
      obtain ⟨x, hx, hxb⟩ := ih _ h
      exact ⟨x, by simp [hx], hxb⟩
theorem bad_not (c : Nat × List UInt8) (h : badC c = true) : c.1 = 65533 := by
  unfold badC at h
  simp at h
  exact h.1
theorem nameGo_iff (cs : List (Nat × List UInt8)) : ∀ k, k ≤ 12 → (nameGo k cs = true ↔ k + cs.length ≤ 12 ∧ 0 < k + cs.length ∧ (∀ c ∈ cs, isWI c.1 = true) ∧ (k = 0 → ∀ c, cs.head? = some c → letterI c.1 = true)) := by
  induction cs with
  | nil => intro k hk; simp [nameGo]; omega
  | cons c cs ih =>
    intro k hk
    unfold nameGo
    by_cases h : k = 12 ∨ (letterI c.1 = false ∧ (k = 0 ∨ digitI c.1 = false))
    · rw [if_pos h]
      simp only [Bool.false_eq_true, false_iff]
      rintro ⟨h1, _, h3, h4⟩
      rcases h with h | ⟨hl, h | hd⟩
      · simp at h1; omega
      · have := h4 h c rfl; rw [hl] at this; cases this
      · have := h3 c (by simp); unfold isWI at this; rw [hl, hd] at this; cases this
    · rw [if_neg h, ih (k + 1) (by omega)]
      have hk : k ≠ 12 := fun e => h (Or.inl e)
      constructor
      · rintro ⟨h1, _, h3, _⟩
        refine ⟨by simp; omega, by simp; omega, ?_, ?_⟩
        · intro x hx
          rcases List.mem_cons.1 hx with rfl | hx
          · unfold isWI
            cases hl : letterI x.1 with
            | true => rfl
            | false =>
              cases hd : digitI x.1 with
              | true => rfl
              | false => exact absurd (Or.inr ⟨hl, Or.inr hd⟩) h
          · exact h3 x hx
        · intro hk0 x hx
          simp at hx; subst hx
          cases hl : letterI c.1 with
          | true => rfl
          | false => exact absurd (Or.inr ⟨hl, Or.inl hk0⟩) h
      · rintro ⟨h1, _, h3, _⟩
        simp at h1
        exact ⟨by omega, by omega, fun x hx => h3 x (by simp [hx]), fun h0 => by omega⟩
/-- A name, as the document says it of the runes. -/
def nameRefB (X : List Nat × List Nat × Bool) : Bool := X.2.2 && decide (0 < X.1.length) && decide (X.1.length ≤ 12) && letterI ((X.1.getD 0 0 : Nat) : Int) && X.1.all fun r => isWI (r : Int)
theorem nameRef_eq (l : List UInt8) : nameRefB (runesGo (rn l) 0) = nameB l := by
  rw [Bool.eq_iff_iff]
  unfold nameB
  rw [nameGo_iff _ 0 (by omega)]
  unfold nameRefB
  simp only [Bool.and_eq_true, decide_eq_true_eq, List.all_eq_true]
  cases ho : (runesGo (rn l) 0).2.2 with
  | false =>
    obtain ⟨c, hc, hb⟩ := runesGo_false _ _ ho
    simp only [Bool.false_eq_true, false_and, false_iff]
    rintro ⟨_, _, h, _⟩
    have := h c hc
    rw [bad_not c hb] at this
    revert this
    decide
  | true =>
    obtain ⟨h1, h2⟩ := runesGo_true _ _ ho
    rw [h1]
    simp only [List.length_map, List.mem_map, forall_exists_index, and_imp, forall_apply_eq_imp_iff₂, true_and, Nat.zero_add]
    constructor
    · rintro ⟨⟨⟨a, b⟩, c⟩, d⟩
      refine ⟨b, a, d, fun _ x hx => ?_⟩
      have : (List.map (·.1) (rn l)).getD 0 0 = x.1 := by
        rw [List.getD_eq_getElem?_getD, ← List.head?_eq_getElem?, List.head?_map, hx]; rfl
      rw [this] at c
      exact c
    · rintro ⟨b, a, d, e⟩
      refine ⟨⟨⟨a, b⟩, ?_⟩, d⟩
      have hne : rn l ≠ [] := List.length_pos_iff.1 a
      obtain ⟨x, xs, hx⟩ := List.exists_cons_of_ne_nil hne
      have := e trivial x (by rw [hx]; rfl)
      rw [hx]
      exact this

/-- What a walk wants of a row of numbers. -/
theorem own_ints {w : World} {base n c : Nat} {A : Option Addr} {R : List Nat} {e : TypeId} (h : w.ownsRow base e 1 (.slice A n c) R.length (intsC R)) :
    n = R.length ∧ R.length ≤ c ∧ ∀ (k : Nat) (_hk : k < R.length), ∃ g, A = some ⟨g, 0, none⟩ ∧ g < w.heap.size ∧ ∀ j (_hj : j < R.length), w.cell? ⟨g, j, none⟩ = some (.int .i64 ((R.getD j 0 : Nat) : Int)) := by
  refine ⟨?_, ?_, fun k hk => ?_⟩
  · obtain ⟨A', c', e'⟩ := ownsRow_slice h
    injection e'
  · rcases h.2 with ⟨e', hn⟩ | ⟨g, cap, cur, hv, _, _, hle, _⟩
    · rw [hn]; exact Nat.zero_le _
    · injection hv with _ _ hc
      omega
  · obtain ⟨g, cap, hv, _, hlt⟩ := h.form (by omega)
    rw [hv] at h
    injection hv with hA
    refine ⟨g, hA, hlt, fun j hj => ?_⟩
    rw [h.cellAt j (by omega)]
    unfold intsC
    rw [List.getElem?_map, List.getElem?_eq_getElem hj, List.getD_eq_getElem?_getD, List.getElem?_eq_getElem hj]
    rfl
theorem runesGo_len (cs : List (Nat × List UInt8)) (hc : ∀ c ∈ cs, 1 ≤ c.2.length) : ∀ p, (runesGo cs p).1.length ≤ (flat cs).length := by
  induction cs with
  | nil => intro p; simp [runesGo]
  | cons c cs ih =>
    intro p
    unfold runesGo
    have h1 := ih (fun x hx => hc x (by simp [hx])) (p + c.2.length)
    have h2 := hc c (by simp)
    have h3 : (flat (c :: cs)).length = c.2.length + (flat cs).length := by simp [flat]
    split
    · simp
    · simp; omega
theorem runes_le (l : List UInt8) : (runesGo (rn l) 0).1.length ≤ l.length := by
  have := runesGo_len (rn l) (rn_one l) 0
  rwa [flat_rn] at this
theorem runesGo_bound (l : List UInt8) : ∀ r ∈ (runesGo (rn l) 0).1, r ≤ 2147483647 := by
  have h1 : ∀ c ∈ rn l, c.1 ≤ 2147483647 := by
    induction l using rn_ind with
    | h0 => intro c hc; simp [rn_nil] at hc
    | h1 l hl ih =>
      rw [rn_cons l hl]
      intro c hc
      rcases List.mem_cons.1 hc with rfl | hc
      · exact dec_le l
      · exact ih c hc
  have h2 : ∀ (cs : List (Nat × List UInt8)), (∀ c ∈ cs, c.1 ≤ 2147483647) → ∀ p, ∀ r ∈ (runesGo cs p).1, r ≤ 2147483647 := by
    intro cs
    induction cs with
    | nil => intro _ p r hr; simp [runesGo] at hr
    | cons c cs ih =>
      intro h p r hr
      unfold runesGo at hr
      split at hr
      · simp at hr
      · rcases List.mem_cons.1 hr with rfl | hr
        · exact h c (by simp)
        · exact ih (fun x hx => h x (by simp [hx])) _ r hr
  exact h2 _ h1 0

set_option maxHeartbeats 4000000 in
theorem refName_any (s : ByteArray) (w : World) (hs : s.size ≤ 20000) :
    Calls Tryd.prog 38 #[.string s] w fun e w' => e = .returned (.bool (nameB s.data.toList)) ∧ Below w.heap.size w w' := by
  have HM := Lib.hid (nameRef_eq s.data.toList)
  have hle : (runesGo (rn s.data.toList) 0).1.length ≤ s.size := by
    have := runes_le s.data.toList; rwa [show s.data.toList.length = s.size from Array.length_toList] at this
  have HBd := Lib.hid (runesGo_bound s.data.toList)
  go_enter Tryd.func38, Tryd.ntmps38
  go_wp2_with fail
  refine (Runes_any s w hs).mono ?_
  rintro e w1 ⟨A1, n1, k1, A2, n2, k2, rfl, ho1, _, hb1⟩
  obtain ⟨hn, hcp, hrow⟩ := own_ints ho1
  clear ho1
  subst hn
  generalize hX : runesGo (rn s.data.toList) 0 = X at *
  have HX := Lib.hid hX
  clear hX
  obtain ⟨R, T, ok⟩ := X
  simp only at *
  have hbf : Below w.heap.size w (w1.alloc (.cells #[.string s, .slice A1 R.length k1, .slice A2 n2 k2] 89)) := hb1.alloc hb1.size _
  cases ok with
  | false =>
    have HF : Hid (nameB s.data.toList = false) := by unfold Hid; rw [← HM.out]; rfl
    go_wp2_with fail
    go_ret
    exact ⟨ret_bool HF.out.symm, hbf⟩
  | true =>
    by_cases h0 : R.length = 0
    · have HF : Hid (nameB s.data.toList = false) := by unfold Hid; rw [← HM.out]; simp [nameRefB, h0]
      have b0 : ((R.length : Int) == 0) = true := beq_iff_eq.2 (by omega)
      clear h0
      go_wp2_with fail
      go_ret
      exact ⟨ret_bool HF.out.symm, hbf⟩
    · have b0 : ((R.length : Int) == 0) = false := beq_eq_false_iff_ne.2 (by omega)
      by_cases h12 : 12 < R.length
      · have HF : Hid (nameB s.data.toList = false) := by unfold Hid; rw [← HM.out]; simp [nameRefB]; omega
        have b1 : decide ((12 : Int) < R.length) = true := by simp; omega
        go_wp2_with fail
        go_ret
        exact ⟨ret_bool HF.out.symm, hbf⟩
      · have b1 : decide ((12 : Int) < R.length) = false := by simp; omega
        obtain ⟨g, rfl, hgl, hcell⟩ := hrow 0 (by omega)
        clear hrow
        have hcell' : ∀ j (hj : j < R.length), (w1.alloc (.cells #[.string s, .slice (some ⟨g, 0, none⟩) R.length k1, .slice A2 n2 k2] 89)).cell? ⟨g, j, none⟩ = some (.int .i64 ((R.getD j 0 : Nat) : Int)) := fun j hj => by
          rw [World.cell?_alloc_lt _ _ _ hgl]; exact hcell j hj
        clear hcell
        have HC := Lib.hid hcell'
        have hc0 := hcell' 0 (by omega)
        clear hcell'
        by_cases hL : letterI ((R.getD 0 0 : Nat) : Int) = true
        · have bL : (clsI ((R.getD 0 0 : Nat) : Int) != 2) = false := by rw [(cls_two _).2 hL]; rfl
          have HL := Lib.hid hL
          clear hL
          generalize hr0 : R.getD 0 0 = r0 at *
          have HR0 := Lib.hid hr0
          clear hr0
          go_wp2_with (go_at_call 53; refine (refClass_any _ _).mono ?_; rintro e w' ⟨rfl, rfl⟩)
          clear hc0
          go_loop [5] (fun i => ∃ k : Nat, k ≤ R.length ∧ i = .int .i64 k ∧ Hid (∀ j, j < k → isWI ((R.getD j 0 : Nat) : Int) = true)) (fun i => R.length - (intOf i).toNat)
          case atStart => exact ⟨0, by omega, rfl, fun j hj => absurd hj (by omega)⟩
          case round =>
            obtain ⟨k, hk, rfl, HJ⟩ := hrel
            by_cases hlt : k < R.length
            · have hc := HC.out k hlt
              have HR : Hid (R.getD k 0 ∈ R) := by
                unfold Hid; rw [List.getD_eq_getElem?_getD, List.getElem?_eq_getElem hlt]; exact List.getElem_mem hlt
              rcases hw : isWI ((R.getD k 0 : Nat) : Int) with _ | _
              · have HF : Hid (nameB s.data.toList = false) := by
                  unfold Hid; rw [← HM.out]
                  cases hq : nameRefB (R, T, true) with
                  | false => rfl
                  | true =>
                    unfold nameRefB at hq
                    simp only [Bool.and_eq_true, List.all_eq_true] at hq
                    have := hq.2 _ HR.out
                    rw [hw] at this
                    cases this
                generalize R.getD k 0 = rk at *
                go_wp2_with (go_at_call 54; refine (wordy_any _ _).mono ?_; rintro e w' ⟨rfl, rfl⟩)
                go_ret
                exact ⟨ret_bool HF.out.symm, hbf⟩
              · have HW : Hid (∀ j, j < k + 1 → isWI ((R.getD j 0 : Nat) : Int) = true) := by
                  intro j hj
                  by_cases he : j = k
                  · rw [he]; exact hw
                  · exact HJ.out j (by omega)
                generalize R.getD k 0 = rk at *
                go_wp2_with (go_at_call 54; refine (wordy_any _ _).mono ?_; rintro e w' ⟨rfl, rfl⟩)
                go_round
                case rel => exact ⟨k + 1, by omega, by go_num, HW.out⟩
                case measure => simp [intOf]; omega
            · have HF : Hid (nameB s.data.toList = true) := by
                unfold Hid; rw [← HM.out]
                unfold nameRefB
                simp only [Bool.and_eq_true, List.all_eq_true, decide_eq_true_eq, true_and]
                refine ⟨⟨⟨by omega, by omega⟩, by rw [HR0.out]; exact HL.out⟩, fun r hr => ?_⟩
                obtain ⟨j, hj, rfl⟩ := List.getElem_of_mem hr
                have := HJ.out j (by omega)
                rw [List.getD_eq_getElem?_getD, List.getElem?_eq_getElem hj] at this
                exact this
              go_wp2_with fail
              go_ret
              exact ⟨ret_bool HF.out.symm, hbf⟩
        · have hL' : letterI ((R.getD 0 0 : Nat) : Int) = false := by simpa using hL
          have HF : Hid (nameB s.data.toList = false) := by
            unfold Hid; rw [← HM.out]; unfold nameRefB; simp only [hL', Bool.and_false, Bool.false_and]
          have bL : (clsI ((R.getD 0 0 : Nat) : Int) != 2) = true := by
            rw [bne_iff_ne]; exact fun h => hL ((cls_two _).1 h)
          clear hL hL'
          generalize R.getD 0 0 = r0 at *
          go_wp2_with (go_at_call 53; refine (refClass_any _ _).mono ?_; rintro e w' ⟨rfl, rfl⟩)
          go_ret
          exact ⟨ret_bool HF.out.symm, hbf⟩

end Go.Proofs.YtohljihndoodfaaDoor.Lx
