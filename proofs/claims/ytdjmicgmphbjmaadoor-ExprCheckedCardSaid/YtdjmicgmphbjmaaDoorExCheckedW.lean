/-
  ExprChecked: the law's own function checked, and the walk.
-/
import Derived.Test.YtdjmicgmphbjmaaDoorExL0
import Derived.Laws.BitsLemmas
import Derived.Deep.RegionHeld3
namespace Go.Proofs.YtdjmicgmphbjmaaDoor.Ep
open Go.RowKit Lx

theorem and32 (n : Int) : bits .and .i64 n 4294967295 = n % 4294967296 := by
  have h1 : (BitVec.ofInt 64 4294967295).toNat = 2 ^ 32 - 1 := by decide
  have key : (BitVec.ofInt 64 n &&& BitVec.ofInt 64 4294967295).toNat = (n % ((2 ^ 64 : Nat) : Int)).toNat % 2 ^ 32 := by
    rw [BitVec.toNat_and, BitVec.toNat_ofInt, h1, Nat.and_two_pow_sub_one_eq_mod]
  show IntKind.i64.wrap ((BitVec.ofInt 64 n &&& BitVec.ofInt 64 4294967295).toNat : Nat) = n % 4294967296
  rw [key, IntKind.wrap_i64]
  omega
/-- Does it leave 64 bits? -/
def beyB (op a b : Int) : Bool := !decide ((twoZ op a b).2 = 0)
theorem bey_chk (z : Int) : (!decide ((chk z).2 = 0)) = !decide (-9223372036854775808 ≤ z ∧ z ≤ 9223372036854775807) := by
  by_cases h : -9223372036854775808 ≤ z ∧ z ≤ 9223372036854775807
  · rw [chk_in h]; simp [h]
  · rw [chk_out h]; simp [h]

set_option maxHeartbeats 1000000 in
theorem checked_any (op a b : Int) (w : World) (ha0 : -9223372036854775808 ≤ a) (ha1 : a ≤ 9223372036854775807) (hb0 : -9223372036854775808 ≤ b) (hb1 : b ≤ 9223372036854775807) (h : op = 4 ∨ op = 5) :
    Calls Tryd.prog 20 #[.int .i64 op, .int .i64 a, .int .i64 b] w fun e w' => e = .returned (.bool (beyB op a b)) ∧ w = w' := by
  rcases h with rfl | rfl
  · go_enter Tryd.func20, Tryd.ntmps20
    go_wp2
    all_goals go_ret
    all_goals refine ⟨ret_bool ?_, rfl⟩
    all_goals (unfold beyB; rw [show twoZ 4 a b = chk (a + b) from rfl, bey_chk]; simp only [and32, wrap64] at *; rw [Bool.eq_iff_iff]; simp only [Bool.or_eq_true, decide_eq_true_eq, Bool.not_eq_true', decide_eq_false_iff_not, true_iff]; omega)
  · go_enter Tryd.func20, Tryd.ntmps20
    go_wp2
    all_goals go_ret
    all_goals refine ⟨ret_bool ?_, rfl⟩
    all_goals (unfold beyB; rw [show twoZ 5 a b = chk (a - b) from rfl, bey_chk]; simp only [and32, wrap64] at *; rw [Bool.eq_iff_iff]; simp only [Bool.or_eq_true, decide_eq_true_eq, Bool.not_eq_true', decide_eq_false_iff_not, true_iff]; omega)

def prC (op : Int) : Ex := .mk op 0 [] [.mk 1 0 [99] [], .mk 1 0 [98] []]
theorem prC_eval (op c b : Int) (h : op = 4 ∨ op = 5) : evalE [([99], c), ([98], b)] (prC op) = twoZ op c b := by
  have hm : mayB (prC op) = true := by rcases h with rfl | rfl <;> decide +kernel
  unfold evalE
  rw [if_pos hm]
  unfold prC
  rw [valE_2 _ _ _ _ _ _ (pr_k op (by omega)), valE_0 _ _ _ _ _ rfl, valE_0 _ _ _ _ _ rfl]
  rfl
theorem prC_nums (op : Int) : numsE (prC op) := by simp [prC, numsE, numsL]

theorem Ops.drew {w : World} (h : Ops w) : Ops w.drew := ⟨h.blk⟩
theorem env_second {w : World} {s t : List UInt8} {n m : Int} {g : Nat} (h : EnvV w [(s, n), (t, m)] (.slice (some ⟨g, 0, none⟩) 2 2)) : w.cell? ⟨g, 2, none⟩ = some (.string ⟨t.toArray⟩) ∧ w.cell? ⟨g, 3, none⟩ = some (.int .i64 m) := by
  obtain ⟨a, cap, e, -, hk⟩ := h.form
  obtain ⟨g', off, rfl, -, hA⟩ := hk (by simp)
  injection e with e
  injection e with e
  injection e with e1 e2
  subst e1 e2
  exact hA 1 (by simp)

set_option maxRecDepth 100000 in
set_option maxHeartbeats 8000000 in
theorem checkedLaw_any (a b : Int) (w : World) (ha0 : -9223372036854775808 ≤ a) (ha1 : a ≤ 9223372036854775807) (hb0 : -9223372036854775808 ≤ b) (hb1 : b ≤ 9223372036854775807) (hTab : Tab w) (hO : Ops w) :
    Calls Tryd.prog 7 #[.int .i64 a, .int .i64 b] w fun e w' => e = .returned (.bool true) ∧ Below w.heap.size w w' := by
  go_enter Tryd.func7, Tryd.ntmps7
  go_wp2_with fail
  refine (awake_any _ hO hTab).mono ?_
  rintro e w1 ⟨rfl, hb1'⟩
  have hO1 := hO.below hb1' hO.lt
  have HE := Lib.hid (env_two w1 [97] [98] a b ⟨ha0, ha1⟩ ⟨hb0, hb1⟩)
  have HBE : Hid (Below w.heap.size w (w1.alloc (.cells #[.string ⟨#[97]⟩, .int .i64 a, .string ⟨#[98]⟩, .int .i64 b] 42))) := hb1'.alloc hb1'.size _
  have hs1 := hb1'.size
  clear hb1'
  go_wp2
  go_loopw [7] (fun x wr => ∃ op : Nat, 4 ≤ op ∧ op ≤ 6 ∧ x = .int .i64 op ∧ Below w.heap.size w wr ∧ w1.heap.size < wr.heap.size ∧ Ops wr ∧ EnvV wr [([97], a), ([98], b)] (.slice (some ⟨w1.heap.size, 0, none⟩) 2 2)) (fun x _ => 6 - (intOf x).toNat)
  case atStart => exact ⟨4, by omega, by omega, rfl, HBE.out, by simp, hO1.alloc _, HE.out⟩
  case round =>
    obtain ⟨op, h4, h6, rfl, hbr, hsr, hOr, hEr⟩ := hrel
    by_cases hlt : op ≤ 5
    · have hcase : op = 4 ∨ op = 5 := by omega
      clear hlt h4 h6
      rcases hcase with rfl | rfl
      · have hrow := (Box.new wr 24 #[.int .i64 1, .int .i64 0, .string ⟨#[97]⟩, .slice none 0 0, .int .i64 1, .int .i64 0, .string ⟨#[98]⟩, .slice none 0 0]).alloc (.cells #[.int .i64 4, .int .i64 0, .string ⟨#[]⟩, .slice (some ⟨wr.heap.size, 0, none⟩) 2 2] 24)
        have hT := tree_two (S := fun _ => True) (k := .mk 1 0 [97] []) (l := .mk 1 0 [98] []) (ka := none) (la := none) (kc := 0) (lc := 0) hrow (tree_leaf _ _ _ _ _) (tree_leaf _ _ _ _ _) trivial 4
        have hb2 : Below wr.heap.size wr ((wr.alloc (.cells #[.int .i64 1, .int .i64 0, .string ⟨#[97]⟩, .slice none 0 0, .int .i64 1, .int .i64 0, .string ⟨#[98]⟩, .slice none 0 0] 24)).alloc (.cells #[.int .i64 4, .int .i64 0, .string ⟨#[]⟩, .slice (some ⟨wr.heap.size, 0, none⟩) 2 2] 24)) := ((Below.refl _ _).alloc (Nat.le_refl _) _).alloc (by simp) _
        have HB2 := Lib.hid hb2
        clear hb2
        go_wp2_with fail
        refine (pair_eval 4 a b (by omega) _ _ _ _ ((hOr.alloc _).alloc _) hT (hEr.below HB2.out (Nat.le_refl _))).mono ?_
        rintro e w2 ⟨rfl, hb3⟩
        have hbw2 := HB2.out.trans (hb3.mono (by simp; omega))
        have hE2 := hEr.below hbw2 (Nat.le_refl _)
        have hO2 := hOr.below hbw2 hOr.lt
        have hb02 := hbr.trans (hbw2.mono hbr.size)
        have hs2 : w1.heap.size < w2.heap.size := by have := hbw2.size; omega
        obtain ⟨c2, c3⟩ := env_second hE2
        clear hrow hT HB2 hb3 hbw2
        go_wp2_with fail
        refine (checked_any 4 a b _ ha0 ha1 hb0 hb1 (by omega)).mono ?_
        rintro e w3 ⟨rfl, rfl⟩
        by_cases hz : -9223372036854775808 ≤ a + b ∧ a + b ≤ 9223372036854775807
        · have e1 : twoZ 4 a b = (a + b, 0) := chk_in hz
          have e2 : beyB 4 a b = false := by unfold beyB; rw [e1]; rfl
          have HQ : Hid (twoZ 5 (a + b) b = (a, 0)) := by
            unfold Hid
            show chk _ = _
            rw [show a + b - b = a by omega, chk_in ⟨ha0, ha1⟩]
          rw [e1, e2]
          clear e1 e2
          have hrow2 := (Box.new w2 24 #[.int .i64 1, .int .i64 0, .string ⟨#[99]⟩, .slice none 0 0, .int .i64 1, .int .i64 0, .string ⟨#[98]⟩, .slice none 0 0]).alloc (.cells #[.int .i64 5, .int .i64 0, .string ⟨#[]⟩, .slice (some ⟨w2.heap.size, 0, none⟩) 2 2] 24)
          have hT2 := (tree_two (S := fun _ => True) (k := .mk 1 0 [99] []) (l := .mk 1 0 [98] []) (ka := none) (la := none) (kc := 0) (lc := 0) hrow2 (tree_leaf _ _ _ _ _) (tree_leaf _ _ _ _ _) trivial 5)
          have HT := Lib.hid (TreeV.alloc (TreeV.drew hT2) (.cells #[.string ⟨#[99]⟩, .int .i64 (a + b), .string ⟨#[98]⟩, .int .i64 b] 42))
          have HO : Hid (Ops ((((w2.alloc (.cells #[.int .i64 1, .int .i64 0, .string ⟨#[99]⟩, .slice none 0 0, .int .i64 1, .int .i64 0, .string ⟨#[98]⟩, .slice none 0 0] 24)).alloc (.cells #[.int .i64 5, .int .i64 0, .string ⟨#[]⟩, .slice (some ⟨w2.heap.size, 0, none⟩) 2 2] 24)).drew).alloc (.cells #[.string ⟨#[99]⟩, .int .i64 (a + b), .string ⟨#[98]⟩, .int .i64 b] 42))) := Ops.alloc (Ops.drew ((hO2.alloc _).alloc _)) _
          have HV : Hid (EnvV ((((w2.alloc (.cells #[.int .i64 1, .int .i64 0, .string ⟨#[99]⟩, .slice none 0 0, .int .i64 1, .int .i64 0, .string ⟨#[98]⟩, .slice none 0 0] 24)).alloc (.cells #[.int .i64 5, .int .i64 0, .string ⟨#[]⟩, .slice (some ⟨w2.heap.size, 0, none⟩) 2 2] 24)).drew).alloc (.cells #[.string ⟨#[99]⟩, .int .i64 (a + b), .string ⟨#[98]⟩, .int .i64 b] 42)) [([99], a + b), ([98], b)] (.slice (some ⟨w2.heap.size + 1 + 1, 0, none⟩) 2 2)) := by
            have := env_two (((w2.alloc (.cells #[.int .i64 1, .int .i64 0, .string ⟨#[99]⟩, .slice none 0 0, .int .i64 1, .int .i64 0, .string ⟨#[98]⟩, .slice none 0 0] 24)).alloc (.cells #[.int .i64 5, .int .i64 0, .string ⟨#[]⟩, .slice (some ⟨w2.heap.size, 0, none⟩) 2 2] 24)).drew) [99] [98] (a + b) b (by omega) ⟨hb0, hb1⟩
            unfold Hid
            simpa using this
          have HBB : Hid (Below w2.heap.size w2 ((((w2.alloc (.cells #[.int .i64 1, .int .i64 0, .string ⟨#[99]⟩, .slice none 0 0, .int .i64 1, .int .i64 0, .string ⟨#[98]⟩, .slice none 0 0] 24)).alloc (.cells #[.int .i64 5, .int .i64 0, .string ⟨#[]⟩, .slice (some ⟨w2.heap.size, 0, none⟩) 2 2] 24)).drew).alloc (.cells #[.string ⟨#[99]⟩, .int .i64 (a + b), .string ⟨#[98]⟩, .int .i64 b] 42))) := (((Below.refl _ _).alloc (Nat.le_refl _) _).alloc (by simp) _).drew.alloc (by simp; omega) _
          have HP := Lib.hid (prC_eval 5 (a + b) b (by omega))
          clear hrow2 hT2
          go_wp2_with fail
          go_region_with (go_at_call 13; refine (Eval_any (prC 5) (fun _ => True) _ _ [([99], a + b), ([98], b)] _ (by exact HO.out) (by exact HT.out) (by exact HV.out) (prC_nums _)).mono ?_; rw [HP.out]; rintro e w4 ⟨rfl, hb4⟩; have hb04 := hb02.trans ((HBB.out.trans (hb4.mono (by simp; omega))).mono hb02.size); have hE4 := hE2.below (HBB.out.trans (hb4.mono (by simp; omega))) (Nat.le_refl _); have hO4 := hO2.below (HBB.out.trans (hb4.mono (by simp; omega))) hO2.lt; have hs4 : w1.heap.size < w4.heap.size := by have := (HBB.out.trans (hb4.mono (by simp; omega))).size; omega)
          all_goals (rw [HQ.out]; go_wp2; go_roundw)
          all_goals first | (case rel => exact ⟨5, by omega, by omega, by go_num, hb04, hs4, hO4, hE4⟩) | (case measure => simp [intOf])
        · have e1 : twoZ 4 a b = (0, 22) := chk_out hz
          have e2 : beyB 4 a b = true := by unfold beyB; rw [e1]; rfl
          rw [e1, e2]
          clear e1 e2 hz
          have hrow2 := (Box.new w2 24 #[.int .i64 1, .int .i64 0, .string ⟨#[99]⟩, .slice none 0 0, .int .i64 1, .int .i64 0, .string ⟨#[98]⟩, .slice none 0 0]).alloc (.cells #[.int .i64 5, .int .i64 0, .string ⟨#[]⟩, .slice (some ⟨w2.heap.size, 0, none⟩) 2 2] 24)
          have hT2 := (tree_two (S := fun _ => True) (k := .mk 1 0 [99] []) (l := .mk 1 0 [98] []) (ka := none) (la := none) (kc := 0) (lc := 0) hrow2 (tree_leaf _ _ _ _ _) (tree_leaf _ _ _ _ _) trivial 5)
          have HT := Lib.hid (TreeV.alloc (TreeV.drew hT2) (.cells #[.string ⟨#[99]⟩, .int .i64 (0), .string ⟨#[98]⟩, .int .i64 b] 42))
          have HO : Hid (Ops ((((w2.alloc (.cells #[.int .i64 1, .int .i64 0, .string ⟨#[99]⟩, .slice none 0 0, .int .i64 1, .int .i64 0, .string ⟨#[98]⟩, .slice none 0 0] 24)).alloc (.cells #[.int .i64 5, .int .i64 0, .string ⟨#[]⟩, .slice (some ⟨w2.heap.size, 0, none⟩) 2 2] 24)).drew).alloc (.cells #[.string ⟨#[99]⟩, .int .i64 (0), .string ⟨#[98]⟩, .int .i64 b] 42))) := Ops.alloc (Ops.drew ((hO2.alloc _).alloc _)) _
          have HV : Hid (EnvV ((((w2.alloc (.cells #[.int .i64 1, .int .i64 0, .string ⟨#[99]⟩, .slice none 0 0, .int .i64 1, .int .i64 0, .string ⟨#[98]⟩, .slice none 0 0] 24)).alloc (.cells #[.int .i64 5, .int .i64 0, .string ⟨#[]⟩, .slice (some ⟨w2.heap.size, 0, none⟩) 2 2] 24)).drew).alloc (.cells #[.string ⟨#[99]⟩, .int .i64 (0), .string ⟨#[98]⟩, .int .i64 b] 42)) [([99], 0), ([98], b)] (.slice (some ⟨w2.heap.size + 1 + 1, 0, none⟩) 2 2)) := by
            have := env_two (((w2.alloc (.cells #[.int .i64 1, .int .i64 0, .string ⟨#[99]⟩, .slice none 0 0, .int .i64 1, .int .i64 0, .string ⟨#[98]⟩, .slice none 0 0] 24)).alloc (.cells #[.int .i64 5, .int .i64 0, .string ⟨#[]⟩, .slice (some ⟨w2.heap.size, 0, none⟩) 2 2] 24)).drew) [99] [98] (0) b (by omega) ⟨hb0, hb1⟩
            unfold Hid
            simpa using this
          have HBB : Hid (Below w2.heap.size w2 ((((w2.alloc (.cells #[.int .i64 1, .int .i64 0, .string ⟨#[99]⟩, .slice none 0 0, .int .i64 1, .int .i64 0, .string ⟨#[98]⟩, .slice none 0 0] 24)).alloc (.cells #[.int .i64 5, .int .i64 0, .string ⟨#[]⟩, .slice (some ⟨w2.heap.size, 0, none⟩) 2 2] 24)).drew).alloc (.cells #[.string ⟨#[99]⟩, .int .i64 (0), .string ⟨#[98]⟩, .int .i64 b] 42))) := (((Below.refl _ _).alloc (Nat.le_refl _) _).alloc (by simp) _).drew.alloc (by simp; omega) _
          have HP := Lib.hid (prC_eval 5 (0) b (by omega))
          clear hrow2 hT2
          go_wp2_with fail
          go_region_with (go_at_call 13; refine (Eval_any (prC 5) (fun _ => True) _ _ [([99], 0), ([98], b)] _ (by exact HO.out) (by exact HT.out) (by exact HV.out) (prC_nums _)).mono ?_; rw [HP.out]; rintro e w4 ⟨rfl, hb4⟩; have hb04 := hb02.trans ((HBB.out.trans (hb4.mono (by simp; omega))).mono hb02.size); have hE4 := hE2.below (HBB.out.trans (hb4.mono (by simp; omega))) (Nat.le_refl _); have hO4 := hO2.below (HBB.out.trans (hb4.mono (by simp; omega))) hO2.lt; have hs4 : w1.heap.size < w4.heap.size := by have := (HBB.out.trans (hb4.mono (by simp; omega))).size; omega)
          all_goals (go_wp2; go_roundw)
          all_goals first | (case rel => exact ⟨5, by omega, by omega, by go_num, hb04, hs4, hO4, hE4⟩) | (case measure => simp [intOf])
      · have hrow := (Box.new wr 24 #[.int .i64 1, .int .i64 0, .string ⟨#[97]⟩, .slice none 0 0, .int .i64 1, .int .i64 0, .string ⟨#[98]⟩, .slice none 0 0]).alloc (.cells #[.int .i64 5, .int .i64 0, .string ⟨#[]⟩, .slice (some ⟨wr.heap.size, 0, none⟩) 2 2] 24)
        have hT := tree_two (S := fun _ => True) (k := .mk 1 0 [97] []) (l := .mk 1 0 [98] []) (ka := none) (la := none) (kc := 0) (lc := 0) hrow (tree_leaf _ _ _ _ _) (tree_leaf _ _ _ _ _) trivial 5
        have hb2 : Below wr.heap.size wr ((wr.alloc (.cells #[.int .i64 1, .int .i64 0, .string ⟨#[97]⟩, .slice none 0 0, .int .i64 1, .int .i64 0, .string ⟨#[98]⟩, .slice none 0 0] 24)).alloc (.cells #[.int .i64 5, .int .i64 0, .string ⟨#[]⟩, .slice (some ⟨wr.heap.size, 0, none⟩) 2 2] 24)) := ((Below.refl _ _).alloc (Nat.le_refl _) _).alloc (by simp) _
        have HB2 := Lib.hid hb2
        clear hb2
        go_wp2_with fail
        refine (pair_eval 5 a b (by omega) _ _ _ _ ((hOr.alloc _).alloc _) hT (hEr.below HB2.out (Nat.le_refl _))).mono ?_
        rintro e w2 ⟨rfl, hb3⟩
        have hbw2 := HB2.out.trans (hb3.mono (by simp; omega))
        have hE2 := hEr.below hbw2 (Nat.le_refl _)
        have hO2 := hOr.below hbw2 hOr.lt
        have hb02 := hbr.trans (hbw2.mono hbr.size)
        have hs2 : w1.heap.size < w2.heap.size := by have := hbw2.size; omega
        obtain ⟨c2, c3⟩ := env_second hE2
        clear hrow hT HB2 hb3 hbw2
        go_wp2_with fail
        refine (checked_any 5 a b _ ha0 ha1 hb0 hb1 (by omega)).mono ?_
        rintro e w3 ⟨rfl, rfl⟩
        by_cases hz : -9223372036854775808 ≤ a - b ∧ a - b ≤ 9223372036854775807
        · have e1 : twoZ 5 a b = (a - b, 0) := chk_in hz
          have e2 : beyB 5 a b = false := by unfold beyB; rw [e1]; rfl
          have HQ : Hid (twoZ 4 (a - b) b = (a, 0)) := by
            unfold Hid
            show chk _ = _
            rw [show a - b + b = a by omega, chk_in ⟨ha0, ha1⟩]
          rw [e1, e2]
          clear e1 e2
          have hrow2 := (Box.new w2 24 #[.int .i64 1, .int .i64 0, .string ⟨#[99]⟩, .slice none 0 0, .int .i64 1, .int .i64 0, .string ⟨#[98]⟩, .slice none 0 0]).alloc (.cells #[.int .i64 4, .int .i64 0, .string ⟨#[]⟩, .slice (some ⟨w2.heap.size, 0, none⟩) 2 2] 24)
          have hT2 := (tree_two (S := fun _ => True) (k := .mk 1 0 [99] []) (l := .mk 1 0 [98] []) (ka := none) (la := none) (kc := 0) (lc := 0) hrow2 (tree_leaf _ _ _ _ _) (tree_leaf _ _ _ _ _) trivial 4)
          have HT := Lib.hid (TreeV.alloc (TreeV.drew hT2) (.cells #[.string ⟨#[99]⟩, .int .i64 (a - b), .string ⟨#[98]⟩, .int .i64 b] 42))
          have HO : Hid (Ops ((((w2.alloc (.cells #[.int .i64 1, .int .i64 0, .string ⟨#[99]⟩, .slice none 0 0, .int .i64 1, .int .i64 0, .string ⟨#[98]⟩, .slice none 0 0] 24)).alloc (.cells #[.int .i64 4, .int .i64 0, .string ⟨#[]⟩, .slice (some ⟨w2.heap.size, 0, none⟩) 2 2] 24)).drew).alloc (.cells #[.string ⟨#[99]⟩, .int .i64 (a - b), .string ⟨#[98]⟩, .int .i64 b] 42))) := Ops.alloc (Ops.drew ((hO2.alloc _).alloc _)) _
          have HV : Hid (EnvV ((((w2.alloc (.cells #[.int .i64 1, .int .i64 0, .string ⟨#[99]⟩, .slice none 0 0, .int .i64 1, .int .i64 0, .string ⟨#[98]⟩, .slice none 0 0] 24)).alloc (.cells #[.int .i64 4, .int .i64 0, .string ⟨#[]⟩, .slice (some ⟨w2.heap.size, 0, none⟩) 2 2] 24)).drew).alloc (.cells #[.string ⟨#[99]⟩, .int .i64 (a - b), .string ⟨#[98]⟩, .int .i64 b] 42)) [([99], a - b), ([98], b)] (.slice (some ⟨w2.heap.size + 1 + 1, 0, none⟩) 2 2)) := by
            have := env_two (((w2.alloc (.cells #[.int .i64 1, .int .i64 0, .string ⟨#[99]⟩, .slice none 0 0, .int .i64 1, .int .i64 0, .string ⟨#[98]⟩, .slice none 0 0] 24)).alloc (.cells #[.int .i64 4, .int .i64 0, .string ⟨#[]⟩, .slice (some ⟨w2.heap.size, 0, none⟩) 2 2] 24)).drew) [99] [98] (a - b) b (by omega) ⟨hb0, hb1⟩
            unfold Hid
            simpa using this
          have HBB : Hid (Below w2.heap.size w2 ((((w2.alloc (.cells #[.int .i64 1, .int .i64 0, .string ⟨#[99]⟩, .slice none 0 0, .int .i64 1, .int .i64 0, .string ⟨#[98]⟩, .slice none 0 0] 24)).alloc (.cells #[.int .i64 4, .int .i64 0, .string ⟨#[]⟩, .slice (some ⟨w2.heap.size, 0, none⟩) 2 2] 24)).drew).alloc (.cells #[.string ⟨#[99]⟩, .int .i64 (a - b), .string ⟨#[98]⟩, .int .i64 b] 42))) := (((Below.refl _ _).alloc (Nat.le_refl _) _).alloc (by simp) _).drew.alloc (by simp; omega) _
          have HP := Lib.hid (prC_eval 4 (a - b) b (by omega))
          clear hrow2 hT2
          go_wp2_with fail
          go_region_with (go_at_call 13; refine (Eval_any (prC 4) (fun _ => True) _ _ [([99], a - b), ([98], b)] _ (by exact HO.out) (by exact HT.out) (by exact HV.out) (prC_nums _)).mono ?_; rw [HP.out]; rintro e w4 ⟨rfl, hb4⟩; have hb04 := hb02.trans ((HBB.out.trans (hb4.mono (by simp; omega))).mono hb02.size); have hE4 := hE2.below (HBB.out.trans (hb4.mono (by simp; omega))) (Nat.le_refl _); have hO4 := hO2.below (HBB.out.trans (hb4.mono (by simp; omega))) hO2.lt; have hs4 : w1.heap.size < w4.heap.size := by have := (HBB.out.trans (hb4.mono (by simp; omega))).size; omega)
          all_goals (rw [HQ.out]; go_wp2; go_roundw)
          all_goals first | (case rel => exact ⟨6, by omega, by omega, by go_num, hb04, hs4, hO4, hE4⟩) | (case measure => simp [intOf])
        · have e1 : twoZ 5 a b = (0, 22) := chk_out hz
          have e2 : beyB 5 a b = true := by unfold beyB; rw [e1]; rfl
          rw [e1, e2]
          clear e1 e2 hz
          have hrow2 := (Box.new w2 24 #[.int .i64 1, .int .i64 0, .string ⟨#[99]⟩, .slice none 0 0, .int .i64 1, .int .i64 0, .string ⟨#[98]⟩, .slice none 0 0]).alloc (.cells #[.int .i64 4, .int .i64 0, .string ⟨#[]⟩, .slice (some ⟨w2.heap.size, 0, none⟩) 2 2] 24)
          have hT2 := (tree_two (S := fun _ => True) (k := .mk 1 0 [99] []) (l := .mk 1 0 [98] []) (ka := none) (la := none) (kc := 0) (lc := 0) hrow2 (tree_leaf _ _ _ _ _) (tree_leaf _ _ _ _ _) trivial 4)
          have HT := Lib.hid (TreeV.alloc (TreeV.drew hT2) (.cells #[.string ⟨#[99]⟩, .int .i64 (0), .string ⟨#[98]⟩, .int .i64 b] 42))
          have HO : Hid (Ops ((((w2.alloc (.cells #[.int .i64 1, .int .i64 0, .string ⟨#[99]⟩, .slice none 0 0, .int .i64 1, .int .i64 0, .string ⟨#[98]⟩, .slice none 0 0] 24)).alloc (.cells #[.int .i64 4, .int .i64 0, .string ⟨#[]⟩, .slice (some ⟨w2.heap.size, 0, none⟩) 2 2] 24)).drew).alloc (.cells #[.string ⟨#[99]⟩, .int .i64 (0), .string ⟨#[98]⟩, .int .i64 b] 42))) := Ops.alloc (Ops.drew ((hO2.alloc _).alloc _)) _
          have HV : Hid (EnvV ((((w2.alloc (.cells #[.int .i64 1, .int .i64 0, .string ⟨#[99]⟩, .slice none 0 0, .int .i64 1, .int .i64 0, .string ⟨#[98]⟩, .slice none 0 0] 24)).alloc (.cells #[.int .i64 4, .int .i64 0, .string ⟨#[]⟩, .slice (some ⟨w2.heap.size, 0, none⟩) 2 2] 24)).drew).alloc (.cells #[.string ⟨#[99]⟩, .int .i64 (0), .string ⟨#[98]⟩, .int .i64 b] 42)) [([99], 0), ([98], b)] (.slice (some ⟨w2.heap.size + 1 + 1, 0, none⟩) 2 2)) := by
            have := env_two (((w2.alloc (.cells #[.int .i64 1, .int .i64 0, .string ⟨#[99]⟩, .slice none 0 0, .int .i64 1, .int .i64 0, .string ⟨#[98]⟩, .slice none 0 0] 24)).alloc (.cells #[.int .i64 4, .int .i64 0, .string ⟨#[]⟩, .slice (some ⟨w2.heap.size, 0, none⟩) 2 2] 24)).drew) [99] [98] (0) b (by omega) ⟨hb0, hb1⟩
            unfold Hid
            simpa using this
          have HBB : Hid (Below w2.heap.size w2 ((((w2.alloc (.cells #[.int .i64 1, .int .i64 0, .string ⟨#[99]⟩, .slice none 0 0, .int .i64 1, .int .i64 0, .string ⟨#[98]⟩, .slice none 0 0] 24)).alloc (.cells #[.int .i64 4, .int .i64 0, .string ⟨#[]⟩, .slice (some ⟨w2.heap.size, 0, none⟩) 2 2] 24)).drew).alloc (.cells #[.string ⟨#[99]⟩, .int .i64 (0), .string ⟨#[98]⟩, .int .i64 b] 42))) := (((Below.refl _ _).alloc (Nat.le_refl _) _).alloc (by simp) _).drew.alloc (by simp; omega) _
          have HP := Lib.hid (prC_eval 4 (0) b (by omega))
          clear hrow2 hT2
          go_wp2_with fail
          go_region_with (go_at_call 13; refine (Eval_any (prC 4) (fun _ => True) _ _ [([99], 0), ([98], b)] _ (by exact HO.out) (by exact HT.out) (by exact HV.out) (prC_nums _)).mono ?_; rw [HP.out]; rintro e w4 ⟨rfl, hb4⟩; have hb04 := hb02.trans ((HBB.out.trans (hb4.mono (by simp; omega))).mono hb02.size); have hE4 := hE2.below (HBB.out.trans (hb4.mono (by simp; omega))) (Nat.le_refl _); have hO4 := hO2.below (HBB.out.trans (hb4.mono (by simp; omega))) hO2.lt; have hs4 : w1.heap.size < w4.heap.size := by have := (HBB.out.trans (hb4.mono (by simp; omega))).size; omega)
          all_goals (go_wp2; go_roundw)
          all_goals first | (case rel => exact ⟨6, by omega, by omega, by go_num, hb04, hs4, hO4, hE4⟩) | (case measure => simp [intOf])
    · go_wp2
      go_ret
      exact ⟨rfl, hbr⟩
end Go.Proofs.YtdjmicgmphbjmaaDoor.Ep
