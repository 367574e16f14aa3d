/-
  Plainly: without contraries and resets, truer bits hold no phase more.
-/
import Derived.Test.YtohljihndoodfaaDoorRgM
namespace Go.Proofs.YtohljihndoodfaaDoor.Rg
open Lx Ep

/-- Pointwise as true, or more. -/
def leL : List Bool → List Bool → Prop
  | [], [] => True
  | a :: s, b :: t => (a = true → b = true) ∧ leL s t
  | _, _ => False
theorem leL_refl : ∀ s : List Bool, leL s s
  | [] => trivial
  | _ :: s => ⟨id, leL_refl s⟩
theorem leL_len : ∀ {s t : List Bool}, leL s t → s.length = t.length
  | [], [], _ => rfl
  | _ :: s, _ :: t, h => by simp [leL_len h.2]
  | [], _ :: _, h => h.elim
  | _ :: _, [], h => h.elim
theorem leL_get : ∀ {s t : List Bool} (k : Nat), leL s t → (s[k]?).getD false = true → (t[k]?).getD false = true
  | [], [], _, _, h => by simp at h
  | _ :: _, _ :: _, 0, h, e => by simpa using h.1 (by simpa using e)
  | _ :: s, _ :: t, k + 1, h, e => by
    have := leL_get k h.2 (by simpa using e)
    simpa using this
  | [], _ :: _, _, h, _ => h.elim
  | _ :: _, [], _, h, _ => h.elim
theorem leL_set : ∀ {s t : List Bool} (k : Nat) {a b : Bool}, leL s t → (a = true → b = true) → leL (s.set k a) (t.set k b)
  | [], [], _, _, _, _, _ => trivial
  | _ :: _, _ :: _, 0, _, _, h, e => ⟨e, h.2⟩
  | _ :: _, _ :: _, k + 1, _, _, h, e => ⟨h.1, leL_set k h.2 e⟩
  | [], _ :: _, _, _, _, h, _ => h.elim
  | _ :: _, [], _, _, _, h, _ => h.elim
theorem leL_set_true : ∀ {s t : List Bool} (k : Nat), leL s t → leL s (t.set k true)
  | [], [], _, _ => trivial
  | _ :: _, _ :: _, 0, h => ⟨fun _ => rfl, h.2⟩
  | _ :: _, _ :: _, k + 1, h => ⟨h.1, leL_set_true k h.2⟩
  | [], _ :: _, _, h => h.elim
  | _ :: _, [], _, h => h.elim

def plainOp (op : Int) : Prop := op ≠ 1 ∧ op ≠ 4 ∧ op ≠ 6 ∧ op ≠ 9
def plainR (r : Ru) : Prop := r.kd ≠ 2 ∧ ∀ i ∈ r.code, plainOp i.op
theorem eff_mono {op : Int} (hp : plainOp op) (h0 : 0 ≤ op) (h1 : op < 10) {x y : Bool} (hxy : x = true → y = true) {s t : List Bool} (h : leL s t) : leL (effP op x s) (effP op y t) := by
  obtain ⟨p1, p4, p6, p9⟩ := hp
  have hc : op = 0 ∨ op = 2 ∨ op = 3 ∨ op = 5 ∨ op = 7 ∨ op = 8 := by omega
  rcases hc with rfl | rfl | rfl | rfl | rfl | rfl
  · exact ⟨hxy, h⟩
  · exact ⟨hxy, h⟩
  · match s, t, h with
    | [], [], _ => exact trivial
    | a :: s, b :: t, h => exact ⟨by cases a <;> cases b <;> cases x <;> cases y <;> simp_all [leL], h.2⟩
  · match s, t, h with
    | [], [], _ => exact trivial
    | a :: s, b :: t, h => exact ⟨by cases a <;> cases b <;> cases x <;> cases y <;> simp_all [leL], h.2⟩
  · match s, t, h with
    | [], [], _ => exact trivial
    | [a], [b], h => exact trivial
    | a :: c :: s, b :: d :: t, h => exact ⟨by cases a <;> cases b <;> cases c <;> cases d <;> simp_all [leL], h.2.2⟩
    | [_], _ :: _ :: _, h => exact h.2.elim
    | _ :: _ :: _, [_], h => exact h.2.elim
  · match s, t, h with
    | [], [], _ => exact trivial
    | [a], [b], h => exact trivial
    | a :: c :: s, b :: d :: t, h => exact ⟨by cases a <;> cases b <;> cases c <;> cases d <;> simp_all [leL], h.2.2⟩
    | [_], _ :: _ :: _, h => exact h.2.elim
    | _ :: _ :: _, [_], h => exact h.2.elim
theorem operand_mono {N : List Nm} {env : List (Nm × Int)} {i : In} {b c : List Bool} (h : leL b c) (e : operandP N b env i = true) : operandP N c env i = true := by
  unfold operandP at *
  split at e
  · rename_i h1; rw [if_pos h1]; unfold bitAt at *; exact leL_get _ h e
  · rename_i h1; rw [if_neg h1]; exact e
theorem stack_mono {N : List Nm} {env : List (Nm × Int)} {b c : List Bool} (h : leL b c) : ∀ (code : List In) (s t : List Bool), (∀ i ∈ code, plainOp i.op ∧ 0 ≤ i.op ∧ i.op < 10) → leL s t → leL (stackP N b env s code) (stackP N c env t code)
  | [], _, _, _, hs => hs
  | i :: r, s, t, hp, hs => by
    have hi := hp i (by simp)
    exact stack_mono h r _ _ (fun j hj => hp j (List.mem_cons_of_mem _ hj)) (eff_mono hi.1 hi.2.1 hi.2.2 (operand_mono h) hs)
theorem out_mono {N : List Nm} {env : List (Nm × Int)} {b c : List Bool} (h : leL b c) {code : List In} (hp : ∀ i ∈ code, plainOp i.op ∧ 0 ≤ i.op ∧ i.op < 10) (e : outP N b env code = true) : outP N c env code = true := by
  unfold outP at *
  have hs := stack_mono (N := N) (env := env) h code [] [] hp trivial
  generalize stackP N b env [] code = s at *
  generalize stackP N c env [] code = t at *
  match s, t, hs with
  | [], [], _ => simp at e
  | a :: s, b :: t, hs => exact hs.1 e
/-- A scan that is as true or more, and holds and bars no more. -/
def ScLe (s t : Sc) : Prop := leL s.bits t.bits ∧ (∀ x ∈ t.holds, x ∈ s.holds) ∧ (∀ x ∈ t.bars, x ∈ s.bars)
theorem apply_mono {N : List Nm} {s t : Sc} {r : Ru} {o q : Bool} (h : ScLe s t) (hr : r.kd ≠ 2) (e : o = true → q = true) : ScLe (applyP N s r o) (applyP N t r q) := by
  obtain ⟨h1, h2, h3⟩ := h
  unfold applyP
  by_cases k0 : r.kd = 0
  · rw [if_pos k0, if_pos k0]; exact ⟨leL_set _ h1 e, h2, h3⟩
  rw [if_neg k0, if_neg k0]
  by_cases k1 : r.kd = 1
  · rw [if_pos k1, if_pos k1]
    cases o <;> cases q
    · exact ⟨h1, h2, h3⟩
    · exact ⟨leL_set_true _ h1, h2, h3⟩
    · exact absurd (e rfl) (by simp)
    · exact ⟨leL_set _ h1 id, h2, h3⟩
  rw [if_neg k1, if_neg k1, if_neg hr, if_neg hr]
  by_cases k3 : r.kd = 3
  · rw [if_pos k3, if_pos k3]
    cases o <;> cases q
    · refine ⟨h1, fun x hx => ?_, h3⟩
      simp only [Bool.false_eq_true, if_false, List.mem_append] at hx ⊢
      rcases hx with hx | hx
      · exact .inl (h2 x hx)
      · exact .inr hx
    · refine ⟨h1, fun x hx => ?_, h3⟩
      simp only [Bool.false_eq_true, if_false, if_true, List.mem_append] at hx ⊢
      exact .inl (h2 x hx)
    · exact absurd (e rfl) (by simp)
    · exact ⟨h1, h2, h3⟩
  rw [if_neg k3, if_neg k3]
  cases o <;> cases q
  · refine ⟨h1, h2, fun x hx => ?_⟩
    simp only [Bool.false_eq_true, if_false, List.mem_append] at hx ⊢
    rcases hx with hx | hx
    · exact .inl (h3 x hx)
    · exact .inr hx
  · refine ⟨h1, h2, fun x hx => ?_⟩
    simp only [Bool.false_eq_true, if_false, if_true, List.mem_append] at hx ⊢
    exact .inl (h3 x hx)
  · exact absurd (e rfl) (by simp)
  · exact ⟨h1, h2, h3⟩
theorem scan_mono {N : List Nm} {env : List (Nm × Int)} : ∀ (l : List Ru) (s t : Sc), (∀ r ∈ l, plainR r ∧ ∀ i ∈ r.code, 0 ≤ i.op ∧ i.op < 10) → ScLe s t → ScLe (scanP N env s l) (scanP N env t l)
  | [], _, _, _, h => h
  | r :: l, s, t, hp, h => by
    have hr := hp r (by simp)
    exact scan_mono l _ _ (fun x hx => hp x (List.mem_cons_of_mem _ hx)) (apply_mono h hr.1.1 (out_mono h.1 (fun i hi => ⟨hr.1.2 i hi, hr.2 i hi⟩)))
/-- What Run leaves of truer bits. -/
theorem run_mono {l : List Ru} {env : List (Nm × Int)} {b c : List Bool} (hp : ∀ r ∈ l, plainR r) (h : leL b c) : leL (runP l b env).bits (runP l c env).bits ∧ (∀ x ∈ (runP l c env).holds, x ∈ (runP l b env).holds) ∧ (∀ x ∈ (runP l c env).bars, x ∈ (runP l b env).bars) := by
  unfold runP
  rw [← leL_len h]
  by_cases hg : goes l b.length = true
  · rw [if_pos hg, if_pos hg]
    have hck : checkP l yes yes = 0 := by unfold goes at hg; simp at hg; exact hg.1
    have hin : ∀ r ∈ l, ∀ i ∈ r.code, 0 ≤ i.op ∧ i.op < 10 := by
      intro r hr i hi
      unfold checkP at hck
      split at hck
      · cases hck
      · have h1 := firstE_ok hck r hr
        unfold rungP at h1
        split at h1
        · cases h1
        · split at h1
          · cases h1
          · split at h1
            · cases h1
            · exact formed_op (insP_formed (codeGo_ok h1 i hi))
    obtain ⟨m1, m2, m3⟩ := scan_mono (N := bitsP l) (env := env) l ⟨b, [], []⟩ ⟨c, [], []⟩ (fun r hr => ⟨hp r hr, hin r hr⟩) ⟨h, fun x hx => hx, fun x hx => hx⟩
    refine ⟨m1, fun x hx => ?_, fun x hx => ?_⟩
    · rw [distP_mem] at hx ⊢; exact m2 x hx
    · rw [distP_mem] at hx ⊢; exact m3 x hx
  · rw [if_neg hg, if_neg hg]
    exact ⟨trivial, fun x hx => hx, fun x hx => hx⟩
end Go.Proofs.YtohljihndoodfaaDoor.Rg
