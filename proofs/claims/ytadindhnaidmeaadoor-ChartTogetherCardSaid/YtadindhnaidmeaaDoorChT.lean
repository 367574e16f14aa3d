/-
  Plainly: what states are together does not hang on their order or number; two lists that are the same together are that.
-/
import Derived.Test.YtadindhnaidmeaaDoorChM
namespace Go.Proofs.YtadindhnaidmeaaDoor.Ch

def chunkB (k : Nat) : Bool := (List.range 256).all fun i => (256 * k + i == 0) || ((List.range 12).all fun r => decide (togP (256 * k + i) = (r : Int)) == condR (256 * k + i) r) && exB (togP (256 * k + i)) && (decide ((256 * k + i) &&& 726 = 0) || actB (togP (256 * k + i)))
theorem chunks : (List.range 16).all chunkB = true := by decide +kernel
theorem tog_all {n : Nat} (hn : n < 4096) (h0 : n ≠ 0) : (∀ r : Nat, r < 12 → (togP n = (r : Int) ↔ condR n r = true)) ∧ exB (togP n) = true ∧ (n &&& 726 ≠ 0 → actB (togP n) = true) := by
  have h1 := List.all_eq_true.1 chunks (n / 256) (by simp; omega)
  unfold chunkB at h1
  have h2 := List.all_eq_true.1 h1 (n % 256) (by simp; omega)
  rw [show 256 * (n / 256) + n % 256 = n by omega] at h2
  have e0 : (n == 0) = false := by simpa using h0
  rw [e0, Bool.false_or, Bool.and_eq_true, Bool.and_eq_true] at h2
  obtain ⟨⟨h3, h4⟩, h5⟩ := h2
  refine ⟨fun r hr => ?_, h4, fun ha => ?_⟩
  · have := List.all_eq_true.1 h3 r (by simp; omega)
    rw [beq_iff_eq] at this
    rw [← this, decide_eq_true_iff]
  · rw [Bool.or_eq_true, decide_eq_true_iff] at h5
    rcases h5 with h5 | h5
    · exact absurd h5 ha
    · exact h5
theorem exB_nat {s : Int} (h : exB s = true) : ∃ r : Nat, r < 12 ∧ s = (r : Int) := by
  unfold exB at h
  simp at h
  exact ⟨s.toNat, by omega, by omega⟩
theorem and_or {n m o : Nat} (h1 : n &&& o = 0) (h2 : m &&& o = 0) : (n ||| m) &&& o = 0 := by
  rw [Nat.and_or_distrib_right, h1, h2]; rfl
theorem or_ne {n m o : Nat} (h : n &&& o ≠ 0) : (n ||| m) &&& o ≠ 0 := by
  intro h0
  apply h
  rw [Nat.and_or_distrib_right] at h0
  exact (Nat.or_eq_zero_iff.1 h0).1
theorem cond_or {n m r : Nat} (h1 : condR n r = true) (h2 : condR m r = true) : condR (n ||| m) r = true := by
  unfold condR at *
  rw [Bool.and_eq_true, decide_eq_true_iff] at *
  obtain ⟨a1, b1⟩ := h1
  obtain ⟨a2, _⟩ := h2
  refine ⟨and_or a1 a2, ?_⟩
  rw [Bool.or_eq_true, Bool.and_eq_true, decide_eq_true_iff] at *
  rcases b1 with b1 | ⟨b1, b2⟩
  · left; rw [Nat.testBit_or, b1]; rfl
  · right
    exact ⟨by rw [Nat.testBit_or, b1]; rfl, or_ne b2⟩
theorem tog_or {n m : Nat} (hn : n < 4096) (hm : m < 4096) (n0 : n ≠ 0) (m0 : m ≠ 0) (h : togP m = togP n) : togP (n ||| m) = togP n := by
  obtain ⟨a1, a2, -⟩ := tog_all hn n0
  obtain ⟨b1, -, -⟩ := tog_all hm m0
  obtain ⟨c1, -, -⟩ := tog_all (n := n ||| m) (Nat.or_lt_two_pow (n := 12) hn hm) (by intro h0; exact n0 (Nat.or_eq_zero_iff.1 h0).1)
  obtain ⟨r, hr, he⟩ := exB_nat a2
  rw [he]
  exact (c1 r hr).2 (cond_or ((a1 r hr).1 he) ((b1 r hr).1 (h.trans he)))
theorem setF_ne {l : List Int} (h : 0 < l.length) : setF l 0 ≠ 0 := by
  intro h0
  obtain ⟨s, hs⟩ := List.exists_mem_of_length_pos h
  have : (setF l 0).testBit (normS s) = true := by
    rw [setF_bit, Nat.zero_testBit, Bool.false_or, List.any_eq_true]
    exact ⟨s, hs, by simp⟩
  rw [h0, Nat.zero_testBit] at this
  cases this
theorem roll_both {l m : List Int} (hl : 0 < l.length) (hm : 0 < m.length) (h : rollP m = rollP l) : rollP (l ++ m) = rollP l := by
  unfold rollP at *
  rw [setF_append, setF_or]
  exact tog_or (setF_lt l 0 (by omega)) (setF_lt m 0 (by omega)) (setF_ne hl) (setF_ne hm) h
theorem roll_in {l : List Int} (hl : 0 < l.length) : exB (rollP l) = true := (tog_all (setF_lt l 0 (by omega)) (setF_ne hl)).2.1
theorem norm_of {s : Int} (h : exB s = true) : (normS s : Int) = s := by
  unfold normS
  rw [if_pos h]
  unfold exB at h
  simp at h
  omega
theorem roll_act {l : List Int} (hl : 0 < l.length) (hin : ∀ x ∈ l, exB x = true) (h : ∃ x ∈ l, actB x = true) : actB (rollP l) = true := by
  refine (tog_all (setF_lt l 0 (by omega)) (setF_ne hl)).2.2 ?_
  obtain ⟨s, hs, ha⟩ := h
  intro h0
  have h1 : (setF l 0).testBit (normS s) = true := by
    rw [setF_bit, Nat.zero_testBit, Bool.false_or, List.any_eq_true]
    exact ⟨s, hs, by simp⟩
  have h2 : (726).testBit (normS s) = true := by
    unfold actB hasB at ha
    rw [hin s hs, Bool.true_and] at ha
    have e : s.toNat = normS s := by unfold normS; rw [if_pos (hin s hs)]
    rwa [e] at ha
  have : (setF l 0 &&& 726).testBit (normS s) = true := by rw [Nat.testBit_and, h1, h2]; rfl
  rw [h0, Nat.zero_testBit] at this
  cases this
theorem roll_same {l m : List Int} (h : setF l 0 = setF m 0) : rollP l = rollP m := by unfold rollP; rw [h]
theorem or_self_ (a b : Nat) : (a ||| b) ||| b = a ||| b := by rw [Nat.or_assoc, Nat.or_self]
theorem set_turn (T d : List Int) (x : Int) (h : setF T 0 = setF d 0) : setF (T ++ [x] ++ [x]) 0 = setF (x :: d) 0 := by
  rw [setF_append, setF_append, setF, setF, setF, setF, setF, setF_or d, h, or_self_, Nat.zero_or, Nat.or_comm]
theorem one_roll {x : Int} (h : exB x = true) : rollP [x] = x ∧ rollP [x, x] = x := by
  obtain ⟨r, hr, rfl⟩ := exB_nat h
  have : ∀ k : Fin 12, rollP [(k.val : Int)] = (k.val : Int) ∧ rollP [(k.val : Int), (k.val : Int)] = (k.val : Int) := by decide +kernel
  exact this ⟨r, hr⟩
end Go.Proofs.YtadindhnaidmeaaDoor.Ch
