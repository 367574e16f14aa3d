/-
  The plain functions of layer 1 (lex), over lists of bytes: what each call of the program comes to. No Go here.
-/
import GoSem.Claim
import Derived.Laws.RangeAny
import Derived.Lib.RuneCount
namespace Go.Proofs.YtohljihndoodfaaDoor.Lx

def letterI (r : Int) : Bool := decide (97 ≤ r ∧ r ≤ 122) || decide (65 ≤ r ∧ r ≤ 90) || decide (r = 95) || (decide (192 ≤ r ∧ r ≤ 591) && !decide (r = 215) && !decide (r = 247))
def digitI (r : Int) : Bool := decide (48 ≤ r ∧ r ≤ 57)
def signI (r : Int) : Bool := decide (r = 40 ∨ r = 41 ∨ r = 123 ∨ r = 125 ∨ r = 44 ∨ r = 59 ∨ r = 58 ∨ r = 61 ∨ r = 43 ∨ r = 45 ∨ r = 42 ∨ r = 47 ∨ r = 37 ∨ r = 60 ∨ r = 62 ∨ r = 33 ∨ r = 38 ∨ r = 124)
def clsI (r : Int) : Int :=
  if r = 32 ∨ r = 9 ∨ r = 13 ∨ r = 10 then 1 else if r = 34 then 5 else if r = 35 then 6 else if signI r = true then 4 else if letterI r = true then 2 else if digitI r = true then 3 else 0

/-- The rune at the head of a list of bytes, and its width, as Go's range has it. -/
def dec (l : List UInt8) : Nat × Nat := Utf8.decode ⟨l.toArray⟩ 0

theorem get_list (l : List UInt8) (i : Nat) : (⟨l.toArray⟩ : ByteArray).get! i = l.getD i 0 := by
  show l.toArray[i]! = _
  rw [List.getElem!_toArray]
  simp [List.getD_eq_getElem?_getD, List.getElem!_eq_getElem?_getD]
  rfl

theorem decode_drop (s : ByteArray) (pos : Nat) : Utf8.decode s pos = dec (s.data.toList.drop pos) := by
  have hs : s = ⟨s.data.toList.toArray⟩ := by cases s; simp
  have hg : ∀ k, (⟨(s.data.toList.drop pos).toArray⟩ : ByteArray).get! (0 + k) = s.get! (pos + k) := by
    intro k
    rw [get_list]
    conv => rhs; rw [hs]
    rw [get_list]
    simp [List.getD_eq_getElem?_getD]
  have hz : ∀ k, decide (0 + k < (⟨(s.data.toList.drop pos).toArray⟩ : ByteArray).size) = decide (pos + k < s.size) := by
    intro k
    have : (⟨(s.data.toList.drop pos).toArray⟩ : ByteArray).size = s.size - pos := by
      show (s.data.toList.drop pos).toArray.size = _
      simp
    rw [this]
    apply decide_eq_decide.2
    omega
  unfold dec Utf8.decode
  simp only [hg, hz]

theorem dec_pos (l : List UInt8) (h : l ≠ []) : 1 ≤ (dec l).2 := by
  apply Lib.decode_width_pos
  show 0 < l.toArray.size
  have := List.length_pos_iff.2 h
  simpa using this

theorem dec_le (l : List UInt8) : (dec l).1 ≤ 2147483647 := decode_le _ _

theorem dec_width (l : List UInt8) (h : l ≠ []) : (dec l).2 ≤ l.length := by
  have hp := List.length_pos_iff.2 h
  have hz : (⟨l.toArray⟩ : ByteArray).size = l.length := by show l.toArray.size = _; simp
  unfold dec Utf8.decode
  simp only [hz]
  repeat' split
  all_goals simp_all
  all_goals omega

/-- A text's runes, each with its bytes. -/
def rnF : Nat → List UInt8 → List (Nat × List UInt8)
  | 0, _ => []
  | f + 1, l => if l = [] then [] else ((dec l).1, l.take (dec l).2) :: rnF f (l.drop (dec l).2)
def rn (l : List UInt8) : List (Nat × List UInt8) := rnF l.length l
def flat (cs : List (Nat × List UInt8)) : List UInt8 := cs.flatMap (·.2)

theorem rnF_two (f : Nat) : ∀ (g : Nat) (l : List UInt8), l.length ≤ f → l.length ≤ g → rnF f l = rnF g l := by
  induction f with
  | zero => intro g l h _; have : l = [] := List.eq_nil_of_length_eq_zero (by omega); subst this; cases g <;> simp [rnF]
  | succ f ih =>
    intro g l h hg
    by_cases hl : l = []
    · subst hl; cases g <;> simp [rnF]
    · have hp := List.length_pos_iff.2 hl
      have hd := dec_pos l hl
      cases g with
      | zero => omega
      | succ g =>
        simp only [rnF, hl, if_false]
        rw [ih g _ (by rw [List.length_drop]; omega) (by rw [List.length_drop]; omega)]

theorem rn_nil : rn [] = [] := rfl
theorem rn_cons (l : List UInt8) (h : l ≠ []) : rn l = ((dec l).1, l.take (dec l).2) :: rn (l.drop (dec l).2) := by
  have hp := List.length_pos_iff.2 h
  have hd := dec_pos l h
  obtain ⟨g, hg⟩ : ∃ g, l.length = g + 1 := ⟨l.length - 1, by omega⟩
  unfold rn
  rw [hg]
  simp only [rnF, h, if_false]
  rw [rnF_two g _ _ (by rw [List.length_drop]; omega) (Nat.le_refl _)]

/-- Induction along a text's runes. -/
theorem rn_ind {p : List UInt8 → Prop} (h0 : p []) (h1 : ∀ l, l ≠ [] → p (l.drop (dec l).2) → p l) (l : List UInt8) : p l := by
  have : ∀ (n : Nat) (l : List UInt8), l.length ≤ n → p l := by
    intro n
    induction n with
    | zero => intro l h; have : l = [] := List.eq_nil_of_length_eq_zero (by omega); subst this; exact h0
    | succ n ih =>
      intro l h
      by_cases hl : l = []
      · subst hl; exact h0
      · have hd := dec_pos l hl
        have hp := List.length_pos_iff.2 hl
        exact h1 l hl (ih _ (by rw [List.length_drop]; omega))
  exact this l.length l (Nat.le_refl _)

theorem flat_rn (l : List UInt8) : flat (rn l) = l := by
  induction l using rn_ind with
  | h0 => rfl
  | h1 l hl ih => rw [rn_cons l hl]; show l.take _ ++ flat _ = l; rw [ih, List.take_append_drop]

theorem rn_eq_nil {l : List UInt8} (h : rn l = []) : l = [] := by rw [← flat_rn l, h]; rfl

/-- The list behind place pos, one rune on. -/
theorem rn_drop (l : List UInt8) (pos : Nat) (h : pos < l.length) :
    rn (l.drop pos) = ((dec (l.drop pos)).1, (l.drop pos).take (dec (l.drop pos)).2) :: rn (l.drop (pos + (dec (l.drop pos)).2)) := by
  have hne : l.drop pos ≠ [] := by
    intro e; have := congrArg List.length e; simp at this; omega
  rw [rn_cons _ hne, List.drop_drop]

def isW (c : Nat × List UInt8) : Bool := letterI c.1 || digitI c.1
def wordC (cs : List (Nat × List UInt8)) : List UInt8 := flat (cs.takeWhile isW)
def wordL (l : List UInt8) : List UInt8 := wordC (rn l)

def nameGo : Nat → List (Nat × List UInt8) → Bool
  | n, [] => decide (0 < n)
  | n, c :: cs => if n = 12 ∨ (letterI c.1 = false ∧ (n = 0 ∨ digitI c.1 = false)) then false else nameGo (n + 1) cs
def nameB (l : List UInt8) : Bool := nameGo 0 (rn l)

def numGo : Int → List (Nat × List UInt8) → Option Int
  | n, [] => some n
  | n, c :: cs => if digitI c.1 = false then none else if n > (9223372036854775807 - ((c.1 : Int) - 48)) / 10 then none else numGo (n * 10 + ((c.1 : Int) - 48)) cs
def numberL (l : List UInt8) : Option Int := if l = [] ∨ (l ≠ [48] ∧ l.head? = some 48) then none else numGo 0 (rn l)

/-- A rune that stands for a bad byte. -/
def badC (c : Nat × List UInt8) : Bool := decide (c.1 = 65533) && !decide (c.2 = [239, 191, 189])
def quoteGo : Nat → List (Nat × List UInt8) → Bool
  | _, [] => true
  | n, c :: cs => if n = 20 ∨ c.1 < 32 ∨ c.1 = 34 ∨ badC c = true then false else quoteGo (n + 1) cs
def quoteB (l : List UInt8) : Bool := quoteGo 0 (rn l)

/-- What a text in quotes comes to, behind its first quote: the error, and where its last quote stands. -/
def textGo : Nat → Nat → List (Nat × List UInt8) → Int × Nat
  | _, _, [] => (11, 0)
  | n, i, c :: cs => if c.1 = 34 then (if 20 < n then (2, 0) else (0, i)) else if c.1 < 32 then (11, 0) else textGo (n + 1) (i + c.2.length) cs

def remarkGo : Nat → List (Nat × List UInt8) → Nat
  | i, [] => i
  | i, c :: cs => if c.1 = 10 then i else remarkGo (i + c.2.length) cs
def remarkL (l : List UInt8) : Nat := remarkGo 0 (rn l)

structure Tok where
  kind : Int
  text : List UInt8
  n : Int
  at_ : Int

def noTok : Tok := ⟨0, [], 0, 0⟩
def nameT (l : List UInt8) : Tok × Nat × Int := if nameB (wordL l) = true then (⟨1, wordL l, 0, 0⟩, (wordL l).length, 0) else (noTok, 0, 2)
def numberT (l : List UInt8) : Tok × Nat × Int := match numberL (wordL l) with
  | some n => (⟨2, wordL l, n, 0⟩, (wordL l).length, 0)
  | none => (noTok, 0, 11)
def textT (l : List UInt8) : Tok × Nat × Int :=
  let x := textGo 0 (dec l).2 (rn (l.drop (dec l).2))
  if x.1 = 0 then (⟨3, (l.drop 1).take (x.2 - 1), 0, 0⟩, x.2 + 1, 0) else (noTok, 0, x.1)
def two (l : List UInt8) : Bool := match l with
  | a :: b :: _ => (a == 60 || a == 62 || a == 61 || a == 33 || a == 58) && b == 61
  | _ => false
def signT (l : List UInt8) : Tok × Nat × Int := (⟨4, l.take (if two l = true then 2 else 1), 0, 0⟩, if two l = true then 2 else 1, 0)
def tokenT (c : Int) (l : List UInt8) : Tok × Nat × Int :=
  if c = 2 then nameT l else if c = 3 then numberT l else if c = 5 then textT l else if c = 4 then signT l else (noTok, 0, 11)

/-- The tokens from a place on: behind `next` bytes of the text; `at_`: the runes ahead. -/
def tokGo : List (Nat × List UInt8) → Nat → Nat → Nat → List Tok → List Tok × Int × Int
  | [], _, a, _, acc => (acc ++ [⟨0, [], 0, a⟩], 0, 0)
  | c :: cs, p, a, next, acc =>
    if p < next ∨ clsI c.1 = 1 then tokGo cs (p + c.2.length) (a + 1) next acc
    else if clsI c.1 = 6 then tokGo cs (p + c.2.length) (a + 1) (p + remarkL (flat (c :: cs))) acc
    else if acc.length = 2000 then ([], 2, a)
    else if (tokenT (clsI c.1) (flat (c :: cs))).2.2 ≠ 0 then ([], (tokenT (clsI c.1) (flat (c :: cs))).2.2, a)
    else tokGo cs (p + c.2.length) (a + 1) (p + (tokenT (clsI c.1) (flat (c :: cs))).2.1) (acc ++ [{ (tokenT (clsI c.1) (flat (c :: cs))).1 with at_ := a }])
def tokensL (l : List UInt8) : List Tok × Int × Int := tokGo (rn l) 0 0 0 []
def badAt : Nat → List (Nat × List UInt8) → Option Nat
  | _, [] => none
  | a, c :: cs => if badC c = true then some a else badAt (a + 1) cs
def cutL (l : List UInt8) : List Tok × Int × Int :=
  if 8192 < l.length then ([], 2, 0) else match badAt 0 (rn l) with
  | some a => ([], 10, a)
  | none => tokensL l

end Go.Proofs.YtohljihndoodfaaDoor.Lx
