/-
  The plain functions of layer 9 (rung): instructions and rungs (with the addresses of what they hold), what Bits, Check and Run come to. No Go here.
-/
import Derived.Test.YtohljihndoodfaaDoorExNp
namespace Go.Proofs.YtohljihndoodfaaDoor.Rg
open Lx Ep

abbrev Nm := List UInt8
/-- An instruction; ea, ec: where its expression's operands lie. -/
structure In where
  op : Int
  nm : Nm
  e : Ex
  ea : Option Addr
  ec : Nat
/-- A rung; ca, cc: where its code lies. -/
structure Ru where
  kd : Int
  nm : Nm
  code : List In
  ca : Option Addr
  cc : Nat

def addD (acc : List Nm) (x : Nm) : List Nm := if x ∈ acc then acc else acc ++ [x]
def distP (l : List Nm) : List Nm := l.foldl addD []
def isBit (k : Int) : Bool := decide (0 ≤ k) && decide (k ≤ 2)
def rawB (l : List Ru) : List Nm := (l.filter fun r => isBit r.kd).map Ru.nm
def bitsP (l : List Ru) : List Nm := distP (rawB l)

/-- What each Op has beside it, takes, puts. -/
def operT9 : List (Int × Int × Int) := [(1, 0, 1), (1, 0, 1), (2, 0, 1), (1, 1, 1), (1, 1, 1), (1, 1, 1), (1, 1, 1), (0, 2, 1), (0, 2, 1), (0, 1, 1)]
def usesP (op : Int) : Int := (operT9.getD op.toNat (0, 0, 0)).1
def takesP (op : Int) : Int := (operT9.getD op.toNat (0, 0, 0)).2.1
def in10 (op : Int) : Bool := decide (0 ≤ op) && decide (op < 10)
def zeroB (e : Ex) : Bool := decide (e.op = 0) && decide (e.n = 0) && decide (e.name = []) && decide (e.kids.length = 0)
def formedI (i : In) : Bool := in10 i.op && (decide (usesP i.op = 1) || decide (i.nm = [])) && (decide (usesP i.op = 2) || zeroB i.e)
def cmpP (tag : Nm → Bool) (e : Ex) : Int := if (namesP e).all tag = true then (if mayB e = true then 0 else 1) else 21
def insP (bits : List Nm) (tag : Nm → Bool) (i : In) : Int :=
  if formedI i = false then 1 else if usesP i.op = 1 then (if i.nm ∈ bits then 0 else 21) else if usesP i.op = 2 then cmpP tag i.e else 0
def codeGo (bits : List Nm) (tag : Nm → Bool) : Int → List In → Int
  | d, [] => if d = 1 then 0 else 1
  | d, i :: r => if insP bits tag i = 0 then (if d < takesP i.op then 1 else if 8 < d + (1 - takesP i.op) then 1 else codeGo bits tag (d + (1 - takesP i.op)) r) else insP bits tag i
def rungP (bits : List Nm) (tag phase : Nm → Bool) (r : Ru) : Int :=
  if r.kd < 0 ∨ 4 < r.kd ∨ nameB r.nm = false then 1 else if 3 ≤ r.kd ∧ phase r.nm = false then 21 else if 12 < r.code.length then 2 else codeGo bits tag 0 r.code
def firstE (f : Ru → Int) : List Ru → Int
  | [] => 0
  | r :: l => if f r = 0 then firstE f l else f r
def checkP (l : List Ru) (tag phase : Nm → Bool) : Int := if 12 < l.length then 2 else firstE (rungP (bitsP l) tag phase) l

/-- The stack behind an instruction, the top one first. -/
def effP (op : Int) (x : Bool) (s : List Bool) : List Bool :=
  if op = 0 ∨ op = 2 then x :: s else if op = 1 then (!x) :: s
  else match s with
    | [] => []
    | t :: r => if op = 3 then (t && x) :: r else if op = 4 then (t && !x) :: r else if op = 5 then (t || x) :: r else if op = 6 then (t || !x) :: r
      else if op = 9 then (!t) :: r
      else match r with
        | [] => []
        | u :: r => if op = 7 then (u && t) :: r else (u || t) :: r
def bitAt (names : List Nm) (bits : List Bool) (nm : Nm) : Bool := (bits[names.idxOf nm]?).getD false
def operandP (names : List Nm) (bits : List Bool) (env : List (Nm × Int)) (i : In) : Bool :=
  if usesP i.op = 1 then bitAt names bits i.nm else if usesP i.op = 2 then !decide ((evalE env i.e).1 = 0) else false
def stackP (names : List Nm) (bits : List Bool) (env : List (Nm × Int)) (s : List Bool) (code : List In) : List Bool := code.foldl (fun s i => effP i.op (operandP names bits env i) s) s
def outP (names : List Nm) (bits : List Bool) (env : List (Nm × Int)) (code : List In) : Bool := (stackP names bits env [] code).headD false
structure Sc where
  bits : List Bool
  holds : List Nm
  bars : List Nm
def applyP (names : List Nm) (s : Sc) (r : Ru) (o : Bool) : Sc :=
  if r.kd = 0 then { s with bits := s.bits.set (names.idxOf r.nm) o }
  else if r.kd = 1 then (if o = true then { s with bits := s.bits.set (names.idxOf r.nm) true } else s)
  else if r.kd = 2 then (if o = true then { s with bits := s.bits.set (names.idxOf r.nm) false } else s)
  else if r.kd = 3 then (if o = true then s else { s with holds := s.holds ++ [r.nm] })
  else (if o = true then s else { s with bars := s.bars ++ [r.nm] })
def stepP (names : List Nm) (env : List (Nm × Int)) (s : Sc) (r : Ru) : Sc := applyP names s r (outP names s.bits env r.code)
def scanP (names : List Nm) (env : List (Nm × Int)) (s : Sc) (l : List Ru) : Sc := l.foldl (stepP names env) s
def yes (_ : Nm) : Bool := true
/-- Does Run answer anything? -/
def goes (l : List Ru) (n : Nat) : Bool := decide (checkP l yes yes = 0) && decide (n = (bitsP l).length)
def runP (l : List Ru) (bits : List Bool) (env : List (Nm × Int)) : Sc :=
  if goes l bits.length = true then (let s := scanP (bitsP l) env ⟨bits, [], []⟩ l; ⟨s.bits, distP s.holds, distP s.bars⟩) else ⟨[], [], []⟩

theorem distP_nodup_aux (l acc : List Nm) (h : acc.Nodup) : (l.foldl addD acc).Nodup := by
  induction l generalizing acc with
  | nil => exact h
  | cons x r ih =>
    refine ih _ ?_
    unfold addD
    split
    · exact h
    · rename_i hx
      exact List.nodup_append.2 ⟨h, by simp, fun a ha b hb => by simp at hb; subst hb; exact fun e => hx (e ▸ ha)⟩
theorem distP_mem_aux (x : Nm) (l acc : List Nm) : x ∈ l.foldl addD acc ↔ x ∈ acc ∨ x ∈ l := by
  induction l generalizing acc with
  | nil => simp
  | cons y r ih =>
    rw [List.foldl_cons, ih]
    unfold addD
    split
    · rename_i hy
      constructor
      · rintro (h | h)
        · exact .inl h
        · exact .inr (List.mem_cons_of_mem _ h)
      · rintro (h | h)
        · exact .inl h
        · rcases List.mem_cons.1 h with rfl | h
          · exact .inl hy
          · exact .inr h
    · simp [or_assoc]
theorem distP_mem (x : Nm) (l : List Nm) : x ∈ distP l ↔ x ∈ l := by rw [distP, distP_mem_aux]; simp
theorem distP_len_aux (l acc : List Nm) : (l.foldl addD acc).length ≤ acc.length + l.length := by
  induction l generalizing acc with
  | nil => simp
  | cons y r ih =>
    rw [List.foldl_cons]
    refine Nat.le_trans (ih _) ?_
    unfold addD
    split <;> simp <;> omega
theorem distP_len (l : List Nm) : (distP l).length ≤ l.length := by have := distP_len_aux l []; simpa [distP] using this
theorem rawB_len (l : List Ru) : (rawB l).length ≤ l.length := by unfold rawB; rw [List.length_map]; exact List.length_filter_le _ _
theorem bitsP_len (l : List Ru) : (bitsP l).length ≤ l.length := Nat.le_trans (distP_len _) (rawB_len l)
theorem firstE_ok {f : Ru → Int} {l : List Ru} (h : firstE f l = 0) : ∀ r ∈ l, f r = 0 := by
  induction l with
  | nil => simp
  | cons r l ih =>
    unfold firstE at h
    split at h
    · rename_i h0
      intro x hx
      rcases List.mem_cons.1 hx with rfl | hx
      · exact h0
      · exact ih h x hx
    · rename_i h0
      exact absurd h h0
theorem firstE_zero {f : Ru → Int} {l : List Ru} (h : ∀ r ∈ l, f r = 0) : firstE f l = 0 := by
  induction l with
  | nil => rfl
  | cons r l ih =>
    unfold firstE
    rw [if_pos (h r (by simp))]
    exact ih fun x hx => h x (List.mem_cons_of_mem _ hx)
theorem usesP_012 (op : Int) : usesP op = 0 ∨ usesP op = 1 ∨ usesP op = 2 := by
  unfold usesP
  have : op.toNat = 0 ∨ op.toNat = 1 ∨ op.toNat = 2 ∨ op.toNat = 3 ∨ op.toNat = 4 ∨ op.toNat = 5 ∨ op.toNat = 6 ∨ op.toNat = 7 ∨ op.toNat = 8 ∨ op.toNat = 9 ∨ 10 ≤ op.toNat := by omega
  rcases this with h | h | h | h | h | h | h | h | h | h | h
  all_goals first
    | (rw [h]; decide)
    | (left; rw [List.getD_eq_getElem?_getD, List.getElem?_eq_none (by simpa [operT9] using h)]; rfl)

/-- What the document asks of a rung that passes, in one: the stack is never short, and one is left. -/
theorem codeGo_ok {bits : List Nm} {tag : Nm → Bool} : ∀ {l : List In} {d : Int}, codeGo bits tag d l = 0 → ∀ i ∈ l, insP bits tag i = 0
  | [], _, _ => by simp
  | i :: r, d, h => by
    unfold codeGo at h
    split at h
    · rename_i h0
      split at h
      · cases h
      · split at h
        · cases h
        · intro x hx
          rcases List.mem_cons.1 hx with rfl | hx
          · exact h0
          · exact codeGo_ok h x hx
    · rename_i h0
      exact absurd h h0
theorem insP_formed {bits : List Nm} {tag : Nm → Bool} {i : In} (h : insP bits tag i = 0) : formedI i = true := by
  unfold insP at h
  split at h
  · cases h
  · rename_i h0; simpa using h0
theorem insP_bit {bits : List Nm} {tag : Nm → Bool} {i : In} (h : insP bits tag i = 0) (h1 : usesP i.op = 1) : i.nm ∈ bits := by
  unfold insP at h
  rw [if_neg (by have := insP_formed (show insP bits tag i = 0 from h); simp [this]), if_pos h1] at h
  split at h
  · assumption
  · cases h
theorem formed_op {i : In} (h : formedI i = true) : 0 ≤ i.op ∧ i.op < 10 := by
  unfold formedI in10 at h
  simp only [Bool.and_eq_true, decide_eq_true_eq] at h
  exact h.1.1
end Go.Proofs.YtohljihndoodfaaDoor.Rg
