/-
  The plain log of layer 5, third part: what is on the disk behind record, settle and Commit, wherever they are cut off. No Go here.
-/
import Derived.Test.YtkklplccngdalaaWlN
namespace Go.Proofs.Ytkklplccngdalaa.Dk

section
variable {n : Nat} {l : List GI} {M : List (List UInt8)} {d : Dsk} {ws : List WI}
theorem puts_on (h : okW d.L.length ws) (ho : d.on = true) : (puts d ws).on = true ↔ (d.left < 0 ∨ (ws.length : Int) ≤ d.left) := by
  rw [puts_spec ws d h ho]
  simp only [decide_eq_true_eq]
  unfold cutK
  split <;> omega
theorem puts_all (h : okW d.L.length ws) (ho : d.on = true) (hon : (puts d ws).on = true) : puts d ws = ⟨setAll d.L ws, true, if d.left < 0 then d.left else d.left - ws.length, d.wr + ws.length⟩ := by
  have h1 := puts_spec ws d h ho
  have h2 : cutK d.left ws.length = ws.length := by
    rw [h1] at hon
    simpa using hon
  rw [h2, List.take_length] at h1
  simpa using h1
theorem puts_part (h : okW d.L.length ws) (ho : d.on = true) (hon : (puts d ws).on = false) : ∃ k, k < ws.length ∧ (puts d ws).L = setAll d.L (ws.take k) := by
  have h1 := puts_spec ws d h ho
  refine ⟨cutK d.left ws.length, ?_, by rw [h1]⟩
  rw [h1] at hon
  simp only [decide_eq_false_iff_not] at hon
  have : cutK d.left ws.length ≤ ws.length := by unfold cutK; split <;> omega
  omega
theorem take_last {α : Type} {A : List α} {x : α} {k : Nat} (hk : k < (A ++ [x]).length) : (A ++ [x]).take k = A.take k := by
  rw [List.length_append, List.length_singleton] at hk
  rw [List.take_append_of_le_length (by omega)]

theorem rec_inv (hL : d.L.length = n) (hS : St n d.L M) (hn : 4 ≤ n) (h2048 : n ≤ 2048) (hg : okG (room n) l) (hl : 0 < l.length) (ho : d.on = true) :
    ((puts d (recW n l)).on = true → Pend n (puts d (recW n l)).L (behind M l) l) ∧ ((puts d (recW n l)).on = false → St n (puts d (recW n l)).L M) := by
  have hok : okW d.L.length (recW n l) := by rw [hL]; exact recW_ok hn hg
  have hr := room_lt (n := n)
  refine ⟨fun h => ?_, fun h => ?_⟩
  · rw [puts_all hok ho h]
    exact hS.recd hn (by omega) hg hl
  · obtain ⟨k, hk, e⟩ := puts_part hok ho h
    rw [e]
    unfold recW at hk ⊢
    rw [take_last hk]
    exact hS.part hg fun x hx => List.mem_append.1 (List.mem_of_mem_take hx)
theorem set_inv (hL : d.L.length = n) (hP : Pend n d.L M l) (hn : 4 ≤ n) (ho : d.on = true) :
    ((puts d (setW n l)).on = true → St n (puts d (setW n l)).L M) ∧ ((puts d (setW n l)).on = false → Pend n (puts d (setW n l)).L M l) := by
  have hok : okW d.L.length (setW n l) := by rw [hL]; exact setW_ok hn hP.2.2.1
  refine ⟨fun h => ?_, fun h => ?_⟩
  · rw [puts_all hok ho h]
    exact hP.done hn
  · obtain ⟨k, hk, e⟩ := puts_part hok ho h
    rw [e]
    unfold setW at hk ⊢
    rw [take_last hk]
    exact hP.part fun x hx => List.mem_of_mem_take hx
theorem comW_ok (hn : 4 ≤ n) (hg : okG (room n) l) : okW n (comW n l) := by
  unfold comW
  split
  · exact fun x hx => by simp at hx
  · exact okW_append (recW_ok hn hg) (setW_ok hn hg)
theorem puts_len' : ∀ (ws : List WI) (d : Dsk), (puts d ws).L.length = d.L.length
  | [], _ => rfl
  | x :: r, d => by
    show (puts (d.write (x.1 : Int) x.2) r).L.length = _
    rw [puts_len' r, write_len]
/-- A whole Commit. -/
theorem com_inv (hL : d.L.length = n) (hS : St n d.L M) (hn : 4 ≤ n) (h2048 : n ≤ 2048) (hg : okG (room n) l) (ho : d.on = true) :
    ((puts d (comW n l)).on = true → St n (puts d (comW n l)).L (behind M l)) ∧
    ((puts d (comW n l)).on = false → 0 ≤ d.left ∧ 0 < l.length ∧ if (l.length + nIx l + 1 : Nat) ≤ d.left then Inv n (puts d (comW n l)).L (behind M l) else Inv n (puts d (comW n l)).L M) := by
  by_cases hl : l = []
  · subst hl
    have e : puts d (comW n []) = d := rfl
    rw [e]
    exact ⟨fun _ => hS, fun h => absurd h (by rw [ho]; simp)⟩
  · have hl0 : 0 < l.length := List.length_pos_iff.2 hl
    have e : comW n l = recW n l ++ setW n l := if_neg hl
    rw [e, puts_append]
    have h1 := rec_inv hL hS hn h2048 hg hl0 ho
    have hokr : okW d.L.length (recW n l) := by rw [hL]; exact recW_ok hn hg
    have hon := puts_on hokr ho
    rw [recW_len] at hon
    cases hD : (puts d (recW n l)).on
    · rw [puts_off _ _ hD]
      refine ⟨fun h => absurd h (by rw [hD]; simp), fun _ => ?_⟩
      have hn1 : ¬ (d.left < 0 ∨ ((l.length + nIx l + 1 : Nat) : Int) ≤ d.left) := fun h => by
        have := hon.2 h
        rw [hD] at this
        cases this
      rw [if_neg (fun h => hn1 (.inr h))]
      exact ⟨by omega, hl0, .inl (h1.2 hD)⟩
    · have hP := h1.1 hD
      have hL2 : (puts d (recW n l)).L.length = n := by rw [puts_len', hL]
      have h2 := set_inv hL2 hP hn hD
      refine ⟨fun h => h2.1 h, fun h => ?_⟩
      have hoks : okW (puts d (recW n l)).L.length (setW n l) := by rw [hL2]; exact setW_ok hn hg
      have hon2 := puts_on hoks hD
      have hall := puts_all hokr ho hD
      have hlf : (puts d (recW n l)).left = if d.left < 0 then d.left else d.left - ((recW n l).length : Nat) := by rw [hall]
      have h0 : 0 ≤ d.left := by
        rcases Int.lt_or_le d.left 0 with hneg | h0
        · have : (puts (puts d (recW n l)) (setW n l)).on = true := hon2.2 (.inl (by rw [hlf, if_pos hneg]; exact hneg))
          rw [h] at this
          cases this
        · exact h0
      have hle : ((l.length + nIx l + 1 : Nat) : Int) ≤ d.left := by
        rcases hon.1 hD with h3 | h3
        · omega
        · exact h3
      rw [if_pos hle]
      exact ⟨h0, hl0, .inr ⟨l, h2.2 h⟩⟩
theorem comW_len (hl : 0 < l.length) : (comW n l).length = 2 * l.length + nIx l + 2 := by
  have : l ≠ [] := fun h => by rw [h] at hl; simp at hl
  unfold comW
  rw [if_neg this, List.length_append, recW_len, setW_len]
  omega
end
end Go.Proofs.Ytkklplccngdalaa.Dk
