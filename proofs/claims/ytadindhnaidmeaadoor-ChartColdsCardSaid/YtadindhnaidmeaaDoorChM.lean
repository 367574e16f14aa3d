/-
  Layer 10's plain words: states, commands, what leads where, what several states are together.
-/
namespace Go.Proofs.YtadindhnaidmeaaDoor.Ch

def exB (s : Int) : Bool := decide (0 ≤ s) && decide (s < 12)
def hasB (n : Nat) (s : Int) : Bool := exB s && n.testBit s.toNat
def targetP : Nat → Int × Nat
  | 0 => (1, 1) | 1 => (2, 2) | 2 => (1, 8) | 3 => (4, 78) | 4 => (6, 32) | 5 => (7, 126) | 6 => (9, 254) | 7 => (0, 3328) | _ => (0, 0)
def nextP (s c : Int) : Int × Bool :=
  if (decide (0 ≤ c) && decide (c < 8) && hasB (targetP c.toNat).2 s) = true then ((targetP c.toNat).1, true) else (0, false)
def doneP (s : Int) : Int × Bool :=
  if s = 1 then (11, true) else if s = 2 then (3, true) else if s = 4 then (5, true) else if s = 6 then (1, true) else if s = 7 then (8, true) else if s = 9 then (10, true) else (0, false)
def actB (s : Int) : Bool := hasB 726 s
def quietB (s : Int) : Bool := hasB 3329 s
def coldP (s : Int) : Int := if s = 1 then 5 else if s = 2 then 5 else if s = 3 then 5 else if s = 4 then 5 else if s = 6 then 5 else if s = 7 then 8 else if s = 9 then 10 else s
/-- Does one of the commands from this one on lead there? -/
def cmdF (f t : Int) : Nat → Nat → Bool
  | 0, _ => false
  | n + 1, c => if nextP f c = (t, true) then true else cmdF f t n (c + 1)
def edgeB (f t : Int) : Bool := if f = t then false else cmdF f t 8 0 || (decide (doneP f = (t, true)) || decide (coldP f = t))

def normS (s : Int) : Nat := if exB s = true then s.toNat else 0
def setF : List Int → Nat → Nat
  | [], n => n
  | s :: l, n => setF l (n ||| 2 ^ normS s)
def underB (n a b o : Nat) : Bool := n.testBit a || (n.testBit b && decide (n &&& o ≠ 0))
def togP (n : Nat) : Int :=
  if n = 0 then 0 else if underB n 9 10 726 = true then 9 else if n.testBit 10 = true then 10 else if underB n 7 8 726 = true then 7 else if n.testBit 8 = true then 8
  else if underB n 4 5 726 = true then 4 else if n.testBit 5 = true then 5 else if n.testBit 6 = true then 6 else if underB n 2 3 2 = true then 2 else if n.testBit 3 = true then 3
  else if n.testBit 1 = true then 1 else if n = 2048 then 11 else if n = 1 then 0 else 1
def rollP (l : List Int) : Int := togP (setF l 0)

def orderL : List Int := [6, 5, 3, 1, 4, 2, 0, 7]
def strongF (a b : Int) : List Int → Int
  | [] => -1
  | c :: l => if c = a then c else if c = b then c else strongF a b l
def strongP (a b : Int) : Int := strongF a b orderL

def nameL : List (List UInt8) := [[105, 100, 108, 101], [114, 117, 110, 110, 105, 110, 103], [112, 97, 117, 115, 105, 110, 103], [112, 97, 117, 115, 101, 100], [104, 111, 108, 100, 105, 110, 103], [104, 101, 108, 100],
  [114, 101, 115, 116, 97, 114, 116, 105, 110, 103], [115, 116, 111, 112, 112, 105, 110, 103], [115, 116, 111, 112, 112, 101, 100], [97, 98, 111, 114, 116, 105, 110, 103], [97, 98, 111, 114, 116, 101, 100], [99, 111, 109, 112, 108, 101, 116, 101]]
def wordL : List (List UInt8) := [[115, 116, 97, 114, 116], [112, 97, 117, 115, 101], [114, 101, 115, 117, 109, 101], [104, 111, 108, 100], [114, 101, 115, 116, 97, 114, 116], [115, 116, 111, 112], [97, 98, 111, 114, 116], [114, 101, 115, 101, 116]]
def nameP (s : Int) : List UInt8 := if 0 ≤ s ∧ s < 12 then nameL.getD s.toNat [] else []
def wordP (c : Int) : List UInt8 := if 0 ≤ c ∧ c < 8 then wordL.getD c.toNat [] else []

/-! Sets of states. -/
theorem norm_lt (s : Int) : normS s < 12 := by
  unfold normS exB
  split
  · rename_i h
    simp at h
    omega
  · omega
theorem setF_bit (i : Nat) : ∀ (l : List Int) (n : Nat), (setF l n).testBit i = (n.testBit i || l.any fun s => decide (normS s = i))
  | [], n => by simp [setF]
  | s :: l, n => by
    rw [setF, setF_bit i l, Nat.testBit_or, Nat.testBit_two_pow, List.any_cons, Bool.or_assoc]
theorem setF_lt : ∀ (l : List Int) (n : Nat), n < 4096 → setF l n < 4096
  | [], n, h => h
  | s :: l, n, h => by
    rw [setF]
    refine setF_lt l _ (Nat.or_lt_two_pow (n := 12) h ?_)
    exact Nat.pow_lt_pow_right (by decide) (norm_lt s)
theorem set_eq {n m : Nat} (hn : n < 4096) (hm : m < 4096) (h : ∀ i, i < 12 → n.testBit i = m.testBit i) : n = m := by
  apply Nat.eq_of_testBit_eq
  intro i
  by_cases hi : i < 12
  · exact h i hi
  · have e1 : n < 2 ^ i := Nat.lt_of_lt_of_le hn (Nat.pow_le_pow_right (show 0 < 2 by decide) (show 12 ≤ i by omega))
    have e2 : m < 2 ^ i := Nat.lt_of_lt_of_le hm (Nat.pow_le_pow_right (show 0 < 2 by decide) (show 12 ≤ i by omega))
    rw [Nat.testBit_lt_two_pow e1, Nat.testBit_lt_two_pow e2]
theorem setF_append : ∀ (l m : List Int) (n : Nat), setF (l ++ m) n = setF m (setF l n)
  | [], m, n => rfl
  | s :: l, m, n => by rw [List.cons_append, setF, setF, setF_append l m]
theorem setF_or : ∀ (l : List Int) (n : Nat), setF l n = n ||| setF l 0
  | [], n => by simp [setF]
  | s :: l, n => by
    rw [setF, setF_or l, setF, setF_or l (0 ||| 2 ^ normS s), Nat.zero_or, Nat.or_assoc]

/-- Of each result: what may not be there; what is there, or what is, beside one of these. -/
def rowR : Nat → Nat × Nat × Nat × Nat
  | 0 => (4094, 0, 0, 0) | 1 => (2044, 1, 0, 2048) | 2 => (2032, 2, 3, 2) | 3 => (2038, 3, 3, 0) | 4 => (1920, 4, 5, 726) | 5 => (1920 ||| 726, 5, 5, 0)
  | 6 => (1968, 6, 6, 0) | 7 => (1536, 7, 8, 726) | 8 => (1536 ||| 726, 8, 8, 0) | 9 => (0, 9, 10, 726) | 10 => (726, 10, 10, 0) | _ => (2047, 11, 11, 0)
def condR (n r : Nat) : Bool := decide (n &&& (rowR r).1 = 0) && (n.testBit (rowR r).2.1 || (n.testBit (rowR r).2.2.1 && decide (n &&& (rowR r).2.2.2 ≠ 0)))
end Go.Proofs.YtadindhnaidmeaaDoor.Ch
