/-
  Plainly: a rung with InNot behind its code has the contrary outcome; a row of instructions of one's own.
-/
import Derived.Test.YtohljihndoodfaaDoorRgBh
import Derived.Test.YtohljihndoodfaaDoorRgRisesW
namespace Go.Proofs.YtohljihndoodfaaDoor.Rg
open Go.RowKit Lx Ep

/-- The rung that the law lays behind the others. -/
def turnY (x : Ru) : Ru := ⟨3, [112], x.code, x.ca, x.cc⟩
def notI : In := ⟨9, [], .mk 0 0 [] [], none, 0⟩
def turnZ (x : Ru) (a : Option Addr) (c : Nat) : Ru := ⟨3, [112], x.code ++ [notI], a, c⟩

theorem eff_len {op : Int} (h0 : 0 ≤ op) (h1 : op < 10) (b : Bool) (s : List Bool) (hd : takesP op ≤ s.length) : ((effP op b s).length : Int) = s.length + (1 - takesP op) := by
  have : op = 0 ∨ op = 1 ∨ op = 2 ∨ op = 3 ∨ op = 4 ∨ op = 5 ∨ op = 6 ∨ op = 7 ∨ op = 8 ∨ op = 9 := by omega
  rcases this with rfl | rfl | rfl | rfl | rfl | rfl | rfl | rfl | rfl | rfl
  all_goals
    rcases s with _ | ⟨t, _ | ⟨u, r⟩⟩
    all_goals first
      | (exfalso; revert hd; decide)
      | (simp [effP, takesP, operT9] <;> omega)
      | (exfalso; simp [takesP, operT9] at hd)
theorem stack_len {N : List Nm} {tag : Nm → Bool} {bits : List Bool} {env : List (Nm × Int)} : ∀ (l : List In) (d : Int) (s : List Bool), codeGo N tag d l = 0 → (s.length : Int) = d → (stackP N bits env s l).length = 1
  | [], d, s, h, hs => by
    unfold codeGo at h
    split at h
    · unfold stackP; simp; omega
    · cases h
  | i :: r, d, s, h, hs => by
    unfold codeGo at h
    split at h
    · rename_i hi
      split at h
      · cases h
      · split at h
        · cases h
        · obtain ⟨o0, o1⟩ := formed_op (insP_formed hi)
          have := stack_len (bits := bits) (env := env) r _ (effP i.op (operandP N bits env i) s) h (by rw [eff_len o0 o1 _ _ (by omega), hs])
          exact this
    · rename_i hi
      exact absurd h hi
theorem not_ins (N : List Nm) (tag : Nm → Bool) : insP N tag notI = 0 := by
  unfold insP
  rw [if_neg (by decide), if_neg (by decide), if_neg (by decide)]
theorem code_not {N : List Nm} {tag : Nm → Bool} : ∀ (l : List In) (d : Int), codeGo N tag d l = 0 → codeGo N tag d (l ++ [notI]) = 0
  | [], d, h => by
    unfold codeGo at h
    split at h
    · rename_i hd
      subst hd
      rw [List.nil_append, codeGo, if_pos (not_ins N tag), if_neg (by decide), if_neg (by decide), codeGo, if_pos (by decide)]
    · cases h
  | i :: r, d, h => by
    rw [List.cons_append]
    unfold codeGo at h ⊢
    split at h
    · rename_i hi
      rw [if_pos hi]
      split at h
      · cases h
      · rename_i h1
        rw [if_neg h1]
        split at h
        · cases h
        · rename_i h2
          rw [if_neg h2]
          exact code_not r _ h
    · rename_i hi
      exact absurd h hi
theorem out_not {N : List Nm} {tag : Nm → Bool} {bits : List Bool} {env : List (Nm × Int)} {l : List In} (h : codeGo N tag 0 l = 0) : outP N bits env (l ++ [notI]) = !outP N bits env l := by
  have hl := stack_len (bits := bits) (env := env) l 0 [] h rfl
  unfold outP
  have e : stackP N bits env [] (l ++ [notI]) = effP 9 (operandP N bits env notI) (stackP N bits env [] l) := by
    unfold stackP
    rw [List.foldl_append]; rfl
  rw [e]
  generalize stackP N bits env [] l = s at *
  rcases s with _ | ⟨t, r⟩
  · simp at hl
  · rfl
theorem goes_turn {l : List Ru} {x : Ru} {a : Option Addr} {c n : Nat} (h : goes (l ++ [turnY x]) n = true) (hx : x.code.length < 12) : goes (l ++ [turnZ x a c]) n = true ∧ codeGo (bitsP l) yes 0 x.code = 0 := by
  have hb1 : bitsP (l ++ [turnY x]) = bitsP l := by
    unfold bitsP rawB
    rw [List.filter_append]
    simp [turnY, isBit]
  have hb2 : bitsP (l ++ [turnZ x a c]) = bitsP l := by
    unfold bitsP rawB
    rw [List.filter_append]
    simp [turnZ, isBit]
  unfold goes at *
  rw [Bool.and_eq_true, decide_eq_true_iff, decide_eq_true_iff] at *
  obtain ⟨h1, h2⟩ := h
  obtain ⟨h12, hok⟩ := check_12 h1
  rw [hb1] at hok h2
  have hy := hok (turnY x) (by simp)
  obtain ⟨-, -, -, hcg⟩ := rung_ok hy
  refine ⟨⟨?_, by rw [hb2]; exact h2⟩, hcg⟩
  unfold checkP
  rw [if_neg (by simp at h12 ⊢; omega), hb2]
  refine firstE_zero fun r hr => ?_
  rcases List.mem_append.1 hr with hr | hr
  · exact hok r (List.mem_append_left _ hr)
  · rw [List.mem_singleton] at hr
    subst hr
    have hcg' : codeGo (bitsP l) yes 0 x.code = 0 := hcg
    show (if (3 : Int) < 0 ∨ (4 : Int) < 3 ∨ nameB [112] = false then 1 else if (3 : Int) ≤ 3 ∧ true = false then 21 else if 12 < (x.code ++ [notI]).length then 2 else codeGo (bitsP l) yes 0 (x.code ++ [notI])) = 0
    rw [if_neg (show ¬ ((3 : Int) < 0 ∨ (4 : Int) < 3 ∨ nameB [112] = false) by decide +kernel), if_neg (by simp), if_neg (by simp; omega)]
    exact code_not _ _ hcg'
/-- What the law asks of the three runs. -/
def TurnOk (s s2 s3 : Sc) : Prop := s2.bits = s.bits ∧ s3.bits = s.bits ∧ (if [112] ∈ s.holds then s2.holds.length = s.holds.length ∧ s3.holds.length = s.holds.length else s2.holds.length + s3.holds.length = 2 * s.holds.length + 1)
theorem hold_run {l : List Ru} {y : Ru} {bits : List Bool} {env : List (Nm × Int)} (h : goes (l ++ [y]) bits.length = true) (hy : y.kd = 3) :
    runP (l ++ [y]) bits env = ⟨(runP l bits env).bits, (if outP (bitsP l) (scanP (bitsP l) env ⟨bits, [], []⟩ l).bits env y.code = true then (runP l bits env).holds else addD (runP l bits env).holds y.nm), (runP l bits env).bars⟩ := by
  obtain ⟨hg2, hb⟩ := goes_of (.inl hy) h
  unfold runP
  rw [if_pos h, if_pos hg2, hb]
  have hs : scanP (bitsP l) env ⟨bits, [], []⟩ (l ++ [y]) = stepP (bitsP l) env (scanP (bitsP l) env ⟨bits, [], []⟩ l) y := by
    unfold scanP
    rw [List.foldl_append]; rfl
  rw [hs]
  generalize scanP (bitsP l) env ⟨bits, [], []⟩ l = s
  unfold stepP
  generalize outP (bitsP l) s.bits env y.code = o
  unfold applyP
  rw [if_neg (by omega), if_neg (by omega), if_neg (by omega), if_pos hy]
  cases o
  · simp [distP, List.foldl_append]
  · simp
theorem turn_run {l : List Ru} {x : Ru} {bits : List Bool} {env : List (Nm × Int)} (a : Option Addr) (c : Nat) (hx : x.code.length < 12) (h : goes (l ++ [turnY x]) bits.length = true) :
    TurnOk (runP l bits env) (runP (l ++ [turnY x]) bits env) (runP (l ++ [turnZ x a c]) bits env) := by
  obtain ⟨hz, hcg⟩ := goes_turn (a := a) (c := c) h hx
  rw [hold_run h rfl, hold_run hz rfl]
  have e : outP (bitsP l) (scanP (bitsP l) env ⟨bits, [], []⟩ l).bits env (turnZ x a c).code = !outP (bitsP l) (scanP (bitsP l) env ⟨bits, [], []⟩ l).bits env (turnY x).code := out_not hcg
  rw [e]
  generalize outP (bitsP l) (scanP (bitsP l) env ⟨bits, [], []⟩ l).bits env (turnY x).code = o
  refine ⟨rfl, rfl, ?_⟩
  show if [112] ∈ _ then _ else _
  split
  · rename_i hm
    have : addD (runP l bits env).holds [112] = (runP l bits env).holds := by unfold addD; rw [if_pos hm]
    cases o <;> simp [turnY, turnZ, this]
  · rename_i hm
    have : addD (runP l bits env).holds [112] = (runP l bits env).holds ++ [[112]] := by unfold addD; rw [if_neg hm]
    cases o <;> simp [turnY, turnZ, this] <;> omega
theorem run_goes {l : List Ru} {bits : List Bool} {env : List (Nm × Int)} (h : goes l bits.length = true) : (runP l bits env).bits.length = bits.length := by
  unfold runP
  rw [if_pos h]
  obtain ⟨h1, _, _⟩ := scan_len (N := bitsP l) (env := env) l ⟨bits, [], []⟩
  exact h1
theorem turn_case {l : List Ru} {x : Ru} {bits : List Bool} {env : List (Nm × Int)} (a : Option Addr) (c : Nat) : 12 ≤ x.code.length ∨ (x.code.length < 12 ∧ (runP (l ++ [turnY x]) bits env).bits.length ≠ bits.length) ∨ (x.code.length < 12 ∧ (runP (l ++ [turnY x]) bits env).bits.length = bits.length ∧ bits.length = 0) ∨
    (x.code.length < 12 ∧ (runP (l ++ [turnY x]) bits env).bits.length = bits.length ∧ bits.length ≠ 0 ∧ TurnOk (runP l bits env) (runP (l ++ [turnY x]) bits env) (runP (l ++ [turnZ x a c]) bits env)) := by
  by_cases h1 : 12 ≤ x.code.length
  · exact .inl h1
  · right
    by_cases h2 : (runP (l ++ [turnY x]) bits env).bits.length = bits.length
    · right
      by_cases h3 : bits.length = 0
      · exact .inl ⟨by omega, h2, h3⟩
      · right
        refine ⟨by omega, h2, h3, turn_run a c (by omega) ?_⟩
        cases hg : goes (l ++ [turnY x]) bits.length
        · exfalso
          unfold runP at h2
          rw [if_neg (by rw [hg]; simp)] at h2
          exact h3 h2.symm
        · rfl
    · exact .inl ⟨by omega, h2⟩
end Go.Proofs.YtohljihndoodfaaDoor.Rg
