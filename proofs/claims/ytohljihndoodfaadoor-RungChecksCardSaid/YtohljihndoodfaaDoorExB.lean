/-
  Contracts of expr.find, leafValue, one, two, value, May, Eval.
-/
import Derived.Test.YtohljihndoodfaaDoorExF
import Derived.Test.YtohljihndoodfaaDoorExA
namespace Go.Proofs.YtohljihndoodfaaDoor.Ep
open Go.RowKit Lx

set_option maxHeartbeats 400000 in
theorem one_any (op a : Int) (w : World) (h0 : -9223372036854775808 ≤ a) (h1 : a ≤ 9223372036854775807) :
    Calls Tryd.prog 43 #[.int .i64 op, .int .i64 a] w fun e w' => e = .returned (.tuple #[.int .i64 (oneZ op a).1, .int .i64 (oneZ op a).2]) ∧ w = w' := by
  by_cases h : op = 2
  · have HX : Hid (oneZ op a = chk (-a)) := by unfold Hid oneZ; rw [if_pos h]
    have d : (op == 2) = true := by simpa using h
    clear h
    go_enter Tryd.func43, Tryd.ntmps43
    go_wp2_with (go_at_call 60; refine (negative_any _ _ h0 h1).mono ?_; rintro e w' ⟨rfl, rfl⟩)
    go_ret2
    exact ⟨ret_two HX.out.symm, rfl⟩
  · have HX : Hid (oneZ op a = (tru (a == 0), 0)) := by
      unfold Hid oneZ; rw [if_neg h]; rfl
    have d : (op == 2) = false := by simpa using h
    clear h
    go_enter Tryd.func43, Tryd.ntmps43
    go_wp2_with (go_at_call 61; refine (truth_any _ _).mono ?_; rintro e w' ⟨rfl, rfl⟩)
    go_ret2
    exact ⟨ret_two HX.out.symm, rfl⟩

set_option maxHeartbeats 1000000 in
theorem two_any (op a b : Int) (w : World) (h0 : -9223372036854775808 ≤ a) (h1 : a ≤ 9223372036854775807) (k0 : -9223372036854775808 ≤ b) (k1 : b ≤ 9223372036854775807) :
    Calls Tryd.prog 44 #[.int .i64 op, .int .i64 a, .int .i64 b] w fun e w' => e = .returned (.tuple #[.int .i64 (twoZ op a b).1, .int .i64 (twoZ op a b).2]) ∧ w = w' := by
  have HX : Hid (twoZ op a b = if op = 4 then chk (a + b) else if op = 5 then chk (a - b) else if op = 6 then chk (a * b) else if op = 7 then quoZ a b else if op = 8 then remZ a b else (tru (holdsZ op a b), 0)) := rfl
  go_enter Tryd.func44, Tryd.ntmps44
  go_wp2_with (first
    | (go_at_call 62; refine (sum_any _ _ _ h0 h1 k0 k1).mono ?_; rintro e w' ⟨rfl, rfl⟩)
    | (go_at_call 63; refine (difference_any _ _ _ h0 h1 k0 k1).mono ?_; rintro e w' ⟨rfl, rfl⟩)
    | (go_at_call 64; refine (product_any _ _ _ h0 h1 k0 k1).mono ?_; rintro e w' ⟨rfl, rfl⟩)
    | (go_at_call 65; refine (quotient_any _ _ _ h0 h1).mono ?_; rintro e w' ⟨rfl, rfl⟩)
    | (go_at_call 66; refine (remainder_any _ _ _ h0 h1).mono ?_; rintro e w' ⟨rfl, rfl⟩)
    | (go_at_call 67; refine (holds_any _ _ _ _).mono ?_; rintro e w' ⟨rfl, rfl⟩)
    | (go_at_call 61; refine (truth_any _ _).mono ?_; rintro e w' ⟨rfl, rfl⟩))
  all_goals go_ret2
  all_goals refine ⟨ret_two ?_, rfl⟩
  all_goals (simp only [beq_iff_eq, beq_eq_false_iff_ne, ne_eq] at *; rw [HX.out]; simp [*])

def leafZ (env : List (List UInt8 × Int)) (op n : Int) (nm : List UInt8) : Int × Int := if op = 0 then (n, 0) else match findC env nm with | some z => (z, 0) | none => (0, 21)
/-- A list of cells in memory. -/
def EnvAt (w : World) (g off : Nat) (env : List (List UInt8 × Int)) : Prop :=
  ∀ k (h : k < env.length), w.cell? ⟨g, off + k * 2, none⟩ = some (.string ⟨(env[k]).1.toArray⟩) ∧ w.cell? ⟨g, off + k * 2 + 1, none⟩ = some (.int .i64 (env[k]).2)
/-- A slice is a list of cells. -/
structure EnvV (w : World) (env : List (List UInt8 × Int)) (v : Value) : Prop where
  form : ∃ a cap, v = .slice a env.length cap ∧ env.length ≤ cap ∧ (env ≠ [] → ∃ g off, a = some ⟨g, off, none⟩ ∧ g < w.heap.size ∧ EnvAt w g off env)
  nums : ∀ c ∈ env, -9223372036854775808 ≤ c.2 ∧ c.2 ≤ 9223372036854775807
  len : env.length ≤ 1000000
theorem EnvV.below {w w' : World} {env : List (List UInt8 × Int)} {v : Value} (h : EnvV w env v) {B : Nat} (hb : Below B w w') (hB : w.heap.size ≤ B) : EnvV w' env v := by
  obtain ⟨a, cap, e, hc, hk⟩ := h.form
  refine ⟨⟨a, cap, e, hc, fun hne => ?_⟩, h.nums, h.len⟩
  obtain ⟨g, off, ha, hg, hA⟩ := hk hne
  refine ⟨g, off, ha, Nat.lt_of_lt_of_le hg hb.size, fun k hk => ?_⟩
  rw [hb.cell (p := ⟨g, _, none⟩) (Nat.lt_of_lt_of_le hg hB), hb.cell (p := ⟨g, _, none⟩) (Nat.lt_of_lt_of_le hg hB)]
  exact hA k hk

theorem findC_skip (env : List (List UInt8 × Int)) (s : List UInt8) (k : Nat) (h : k < env.length) : findC (env.drop k) s = if (env[k]).1 = s then some (env[k]).2 else findC (env.drop (k + 1)) s := by
  rw [List.drop_eq_getElem_cons h]
  obtain ⟨a, b⟩ := env[k]
  rfl
def findE (o : Option Int) : Ending := .returned (.tuple #[.int .i64 (o.getD 0), .bool o.isSome])

set_option maxHeartbeats 1000000 in
theorem find_any (env : List (List UInt8 × Int)) (s : List UInt8) (v : Value) (w : World) (hE : EnvV w env v) :
    Calls Tryd.prog 59 #[v, .string ⟨s.toArray⟩] w fun e w' => e = .returned (.tuple #[.int .i64 ((findC env s).getD 0), .bool (findC env s).isSome]) ∧ Below w.heap.size w w' := by
  obtain ⟨a, cap, rfl, hcap, hk⟩ := hE.form
  have hl := hE.len
  have HK := Lib.hid hk
  clear hk hE
  generalize hX : findC env s = X
  have HX := Lib.hid hX
  clear hX
  generalize hL : env.length = len at *
  have HL := Lib.hid hL
  clear hL
  go_enter Tryd.func59, Tryd.ntmps59
  go_wp2
  go_loopw [10] (fun i wr => ∃ k : Nat, k ≤ len ∧ i = .int .i64 k ∧ Hid (findC (env.drop k) s = X) ∧ Below w.heap.size w wr) (fun i _ => len - (intOf i).toNat)
  case atStart => exact ⟨0, by omega, rfl, HX, Below.refl _ _⟩
  case round =>
    obtain ⟨k, hkl, rfl, HS, hbr⟩ := hrel
    by_cases hlt : k < len
    · have hki : k < env.length := by rw [HL.out]; exact hlt
      have hne : env ≠ [] := by intro e; rw [e] at hki; simp at hki
      obtain ⟨g, off, rfl, hg, hA⟩ := HK.out hne
      obtain ⟨c0, c1⟩ := hA k hki
      have HF := Lib.hid (findC_skip env s k hki)
      rw [← hbr.cell (p := ⟨g, _, none⟩) hg] at c0 c1
      have hgr : g < wr.heap.size := Nat.lt_of_lt_of_le hg hbr.size
      clear hA
      generalize env[k] = c at *
      obtain ⟨nm, z⟩ := c
      simp only at *
      by_cases hq : nm = s
      · have HX2 : Hid (X = some z) := by unfold Hid; rw [← HS.out, HF.out, if_pos hq]
        have d : (nm == s) = true := by simpa using hq
        clear hq
        go_wp2
        go_ret2
        refine ⟨?_, hbr.alloc hbr.size _⟩
        rw [HX2.out]; rfl
      · have HX2 : Hid (findC (env.drop (k + 1)) s = X) := by unfold Hid; rw [← HS.out, HF.out, if_neg hq]
        have d : (nm == s) = false := by simpa using hq
        clear hq
        go_wp2
        go_roundw
        case rel => exact ⟨k + 1, by omega, by go_num, HX2, hbr.alloc hbr.size _⟩
        case measure => simp [intOf]; omega
    · have HX2 : Hid (X = none) := by
        unfold Hid; rw [← HS.out, List.drop_eq_nil_of_le (by rw [HL.out]; omega)]; rfl
      go_wp2
      go_ret2
      refine ⟨?_, hbr⟩
      rw [HX2.out]; rfl

set_option maxHeartbeats 1000000 in
theorem leafValue_any (op n : Int) (nm : List UInt8) (a : Option Addr) (len cap : Nat) (env : List (List UInt8 × Int)) (v : Value) (w : World) (hE : EnvV w env v) :
    Calls Tryd.prog 42 #[exV op n nm a len cap, v] w fun e w' => e = .returned (.tuple #[.int .i64 (leafZ env op n nm).1, .int .i64 (leafZ env op n nm).2]) ∧ Below w.heap.size w w' := by
  obtain ⟨ea, ecap, rfl, hcap, hk⟩ := hE.form
  clear hcap hk
  unfold exV
  by_cases h : op = 0
  · have HX : Hid ((n, 0) = leafZ env op n nm) := by unfold Hid leafZ; rw [if_pos h]
    have d : (op == 0) = true := by simpa using h
    clear h
    go_enter Tryd.func42, Tryd.ntmps42
    go_wp2
    go_ret2
    exact ⟨ret_two HX.out, (Below.refl _ _).alloc (Nat.le_refl _) _⟩
  · have d : (op == 0) = false := by simpa using h
    have HX : Hid (leafZ env op n nm = match findC env nm with | some z => (z, 0) | none => (0, 21)) := by unfold Hid leafZ; rw [if_neg h]
    clear h
    go_enter Tryd.func42, Tryd.ntmps42
    go_wp2_with fail
    refine (find_any env nm _ _ (hE.below ((Below.refl _ _).alloc (Nat.le_refl _) _) (Nat.le_refl _))).mono ?_
    rintro e w1 ⟨rfl, hb⟩
    cases hF : findC env nm with
    | none =>
      have HY : Hid ((0, 21) = leafZ env op n nm) := by unfold Hid; rw [HX.out, hF]
      clear hF HX
      go_wp2
      go_ret2
      exact ⟨ret_two HY.out, ((Below.refl _ _).alloc (Nat.le_refl _) _).trans (hb.mono (by simp))⟩
    | some z =>
      have HY : Hid ((z, 0) = leafZ env op n nm) := by unfold Hid; rw [HX.out, hF]
      clear hF HX
      go_wp2
      go_ret2
      exact ⟨ret_two HY.out, ((Below.refl _ _).alloc (Nat.le_refl _) _).trans (hb.mono (by simp))⟩
end Go.Proofs.YtohljihndoodfaaDoor.Ep
