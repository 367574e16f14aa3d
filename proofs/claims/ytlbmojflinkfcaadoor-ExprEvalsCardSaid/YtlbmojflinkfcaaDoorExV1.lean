/-
  The document's Line and Wrapped; the document's Weight, and what it says of names.
-/
import Derived.Test.YtlbmojflinkfcaaDoorExBk
import Derived.Test.YtlbmojflinkfcaaDoorLexR5
namespace Go.Proofs.YtlbmojflinkfcaaDoor.Ep
open Go.RowKit Lx

def KeepP (v : Value) (w : World) (e : Ending) (w' : World) : Prop := e = .returned v ∧ w = w'
def BelowP (v : Value) (w : World) (e : Ending) (w' : World) : Prop := e = .returned v ∧ Below w.heap.size w w'

set_option maxRecDepth 100000 in
set_option maxHeartbeats 2000000 in
theorem line_all (op : Int) (h : inT op = true) (w : World) : Calls Tryd.prog 71 #[.int .i64 op] w (KeepP (.int .i64 (opL op + 1)) w) := by
  have h' := (inT_iff op).1 h
  have : op = 0 ∨ op = 1 ∨ op = 2 ∨ op = 3 ∨ op = 4 ∨ op = 5 ∨ op = 6 ∨ op = 7 ∨ op = 8 ∨ op = 9 ∨ op = 10 ∨ op = 11 ∨ op = 12 ∨ op = 13 ∨ op = 14 ∨ op = 15 ∨ op = 16 := by omega
  clear h h'
  rcases this with rfl | rfl | rfl | rfl | rfl | rfl | rfl | rfl | rfl | rfl | rfl | rfl | rfl | rfl | rfl | rfl | rfl
  all_goals (go_enter Tryd.func71, Tryd.ntmps71; go_wp2; go_ret; exact ⟨ret_int (by decide), rfl⟩)

set_option maxRecDepth 100000 in
set_option maxHeartbeats 4000000 in
theorem wrapped_all (op n kid : Int) (nm : ByteArray) (g off len cap i : Nat) (w : World) (ho : inT op = true) (hk : inT kid = true) (hc : w.cell? ⟨g, off + i * 4, none⟩ = some (.int .i64 kid)) (hi : i < len) (_hi1 : i ≤ 1) (h5 : opL op = 5 → i = 0) (_hlc : len ≤ cap) (_hl2 : len ≤ 2) :
    Calls Tryd.prog 52 #[.agg #[.int .i64 op, .int .i64 n, .string nm, .slice (some ⟨g, off, none⟩) len cap], .int .i64 (i : Int)] w (BelowP (.bool (enclB op kid i)) w) := by
  have hlg : g < w.heap.size := by
    rcases Nat.lt_or_ge g w.heap.size with h1 | h1
    · exact h1
    · simp [World.cell?, Array.getElem?_eq_none h1] at hc
  have HL1 := Lib.hid (fun w => line_all op ho w)
  have HL2 := Lib.hid (fun w => line_all kid hk w)
  have hc2 : (w.alloc (.cells #[.int .i64 op, .int .i64 n, .string nm, .slice (some ⟨g, off, none⟩) len cap] 24)).cell? ⟨g, off + i * 4, none⟩ = some (.int .i64 kid) := by
    rw [Below.cell ((Below.refl _ w).alloc (Nat.le_refl _) _) hlg]
    exact hc
  have HE : Hid (enclB op kid i = (decide (opL kid < opL op) || (decide (opL kid = opL op) && (decide (i = 1) || decide (opL op = 2))))) := by
    unfold Hid enclB
    rw [hk]
    rfl
  have hb := opL_bd op.toNat (by have := (inT_iff _).1 ho; omega)
  rw [Int.toNat_of_nonneg ((inT_iff _).1 ho).1] at hb
  have hi0 : (0 : Int) ≤ (i : Int) := Int.natCast_nonneg _
  have hil : (i : Int) < (len : Int) := by omega
  clear ho hk hc
  generalize opL op = a at *
  generalize opL kid = b at *
  go_enter Tryd.func52, Tryd.ntmps52
  go_wp2_with fail
  refine (HL1.out _).mono ?_
  rintro e w' ⟨rfl, rfl⟩
  go_wp2_with fail
  refine (HL2.out _).mono ?_
  rintro e w' ⟨rfl, rfl⟩
  clear HL1 HL2 hc2
  by_cases hlt : b < a
  · have d1 : decide (b + 1 < a + 1) = true := by simp; omega
    have HR : Hid (enclB op kid i = true) := by rw [HE.out]; simp [hlt]; exact Lib.hid trivial
    go_wp2
    all_goals first | (exfalso; omega) | skip
    go_ret
    exact ⟨ret_bool HR.out.symm, (Below.refl _ _).alloc (Nat.le_refl _) _⟩
  · have d1 : decide (b + 1 < a + 1) = false := by simp; omega
    by_cases heq : b = a
    · subst heq
      have d2 : (b + 1 == b + 1) = true := by simp
      by_cases h6 : b = 5
      · have d3 : (b + 1 != 6) = false := by simp; omega
        have hi2 := h5 h6
        have HR : Hid (enclB op kid i = false) := by rw [HE.out]; simp [hi2, h6]; exact Lib.hid trivial
        go_wp2
        all_goals first | (exfalso; omega) | skip
        go_ret
        exact ⟨ret_bool HR.out.symm, (Below.refl _ _).alloc (Nat.le_refl _) _⟩
      · have d3 : (b + 1 != 6) = true := by simp; omega
        by_cases hi2 : i = 1
        · have d4 : ((i : Int) == 1) = true := by simp; omega
          have HR : Hid (enclB op kid i = true) := by rw [HE.out]; simp [hi2]; exact Lib.hid trivial
          go_wp2
          all_goals first | (exfalso; omega) | skip
          go_ret
          exact ⟨ret_bool HR.out.symm, (Below.refl _ _).alloc (Nat.le_refl _) _⟩
        · have d4 : ((i : Int) == 1) = false := beq_eq_false_iff_ne.2 (by omega)
          have d5 : (i == 1) = false := beq_eq_false_iff_ne.2 hi2
          by_cases h3 : b = 2
          · have d6 : (b + 1 == 3) = true := by simp; omega
            have HR : Hid (enclB op kid i = true) := by rw [HE.out]; simp [h3]; exact Lib.hid trivial
            go_wp2
            all_goals first | (exfalso; omega) | skip
            go_ret
            exact ⟨ret_bool HR.out.symm, (Below.refl _ _).alloc (Nat.le_refl _) _⟩
          · have d6 : (b + 1 == 3) = false := beq_eq_false_iff_ne.2 (by omega)
            have HR : Hid (enclB op kid i = false) := by rw [HE.out]; simp [hi2, h3]; exact Lib.hid trivial
            go_wp2
            all_goals first | (exfalso; omega) | skip
            go_ret
            exact ⟨ret_bool HR.out.symm, (Below.refl _ _).alloc (Nat.le_refl _) _⟩
    · have d2 : (b + 1 == a + 1) = false := beq_eq_false_iff_ne.2 (by omega)
      have HR : Hid (enclB op kid i = false) := by rw [HE.out]; simp [heq]; exact Lib.hid (by omega)
      go_wp2
      all_goals first | (exfalso; omega) | skip
      go_ret
      exact ⟨ret_bool HR.out.symm, (Below.refl _ _).alloc (Nat.le_refl _) _⟩

/-! ### names that are short -/
mutual
def shortE : Ex → Prop
  | .mk _ _ nm ks => nm.length ≤ 200 ∧ shortL ks
def shortL : List Ex → Prop
  | [] => True
  | k :: ks => shortE k ∧ shortL ks
end
theorem shortL_all : ∀ (ks : List Ex), shortL ks ↔ ∀ k ∈ ks, shortE k
  | [] => by simp [shortL]
  | k :: ks => by rw [shortL, shortL_all ks]; simp
end Go.Proofs.YtlbmojflinkfcaaDoor.Ep
