/-
  The plain functions of layer 2 (expr): trees, the table of operators, what May, Print, Eval and Take come to. No Go here.
-/
import Derived.Test.YtohljihndoodfaaDoorLexM
import Derived.Lib.ItoaNum
namespace Go.Proofs.YtohljihndoodfaaDoor.Ep
open Lx

inductive Ex where
  | mk (op n : Int) (name : List UInt8) (kids : List Ex)
deriving Inhabited

def Ex.op : Ex → Int | .mk o _ _ _ => o
def Ex.n : Ex → Int | .mk _ n _ _ => n
def Ex.name : Ex → List UInt8 | .mk _ _ s _ => s
def Ex.kids : Ex → List Ex | .mk _ _ _ ks => ks

/-- The table of operators: sign, level, number of operands. -/
def opsT : List (List UInt8 × Int × Int) := [([], 5, 0), ([], 5, 0), ([45], 5, 1), ([33], 5, 1), ([43], 3, 2), ([45], 3, 2), ([42], 4, 2), ([47], 4, 2), ([37], 4, 2), ([60], 2, 2), ([60, 61], 2, 2), ([62], 2, 2), ([62, 61], 2, 2), ([61, 61], 2, 2), ([33, 61], 2, 2), ([38], 1, 2), ([124], 0, 2)]
def opAt (op : Int) : List UInt8 × Int × Int := opsT.getD op.toNat ([], 5, 0)
def opS (op : Int) : List UInt8 := (opAt op).1
def opL (op : Int) : Int := (opAt op).2.1
def opK (op : Int) : Int := (opAt op).2.2
def inT (op : Int) : Bool := decide (0 ≤ op ∧ op < 17)

/-- Is a node well formed, whatever its operands are? -/
def formedB (op n : Int) (nm : List UInt8) (k : Nat) : Bool :=
  inT op && decide ((k : Int) = opK op) && (if op = 0 then decide (0 ≤ n) && nm.isEmpty else if op = 1 then decide (n = 0) && nameB nm else decide (n = 0) && nm.isEmpty)
/-- Does operand i, of that operator, stand in parentheses? -/
def enclB (op kid : Int) (i : Nat) : Bool :=
  inT kid && (decide (opL kid < opL op) || (decide (opL kid = opL op) && (decide (i = 1) || decide (opL op = 2))))

mutual
def spareE : Ex → Int → Int
  | .mk op n nm ks, m => if m ≤ 0 ∨ formedB op n nm ks.length = false then -1 else spareL op ks 0 (m - 1)
def spareL (op : Int) : List Ex → Nat → Int → Int
  | [], _, m => m
  | k :: ks, i, m => spareL op ks (i + 1) (spareE k (if enclB op k.op i = true then m - 2 else m))
end
def mayB (e : Ex) : Bool := decide (0 ≤ spareE e 64)

/-- An operand's text: in parentheses, or not. -/
def wrapT (b : Bool) (s : List UInt8) : List UInt8 := if b = true then 40 :: (s ++ [41]) else s
mutual
/-- The text of a tree. -/
def textE : Ex → List UInt8
  | .mk op n nm ks => if opK op = 0 then (if op = 0 then Lib.itoa n else nm) else textL op ks 0
def textL (op : Int) : List Ex → Nat → List UInt8
  | [], _ => []
  | k :: ks, i =>
    (if opK op = 1 then (if i = 0 then opS op ++ wrapT (enclB op k.op i) (textE k) else [])
     else (if i = 0 then wrapT (enclB op k.op i) (textE k) ++ (32 :: (opS op ++ [32])) else if i = 1 then wrapT (enclB op k.op i) (textE k) else [])) ++ textL op ks (i + 1)
end
def printE (e : Ex) : List UInt8 := if mayB e = true then textE e else []

/-- A name's number in a list of cells. -/
def findC : List (List UInt8 × Int) → List UInt8 → Option Int
  | [], _ => none
  | (nm, n) :: l, s => if nm = s then some n else findC l s
def in64 (z : Int) : Bool := decide (-9223372036854775808 ≤ z ∧ z ≤ 9223372036854775807)
def chk (z : Int) : Int × Int := if in64 z = true then (z, 0) else (0, 22)
def tru (b : Bool) : Int := if b = true then 1 else 0
def oneZ (op a : Int) : Int × Int := if op = 2 then chk (-a) else (tru (decide (a = 0)), 0)
def holdsZ (op a b : Int) : Bool :=
  if op = 9 then decide (a < b) else if op = 10 then decide (a ≤ b) else if op = 11 then decide (b < a) else if op = 12 then decide (b ≤ a)
  else if op = 13 then decide (a = b) else if op = 14 then !decide (a = b) else if op = 15 then !decide (a = 0) && !decide (b = 0) else !decide (a = 0) || !decide (b = 0)
def twoZ (op a b : Int) : Int × Int :=
  if op = 4 then chk (a + b) else if op = 5 then chk (a - b) else if op = 6 then chk (a * b)
  else if op = 7 then (if b = 0 then (0, 23) else chk (Int.tdiv a b)) else if op = 8 then (if b = 0 then (0, 23) else (Int.tmod a b, 0))
  else (tru (holdsZ op a b), 0)
mutual
def valE (env : List (List UInt8 × Int)) : Ex → Int × Int
  | .mk op n nm ks =>
    if opK op = 0 then (if op = 0 then (n, 0) else match findC env nm with | some z => (z, 0) | none => (0, 21))
    else match valL env ks with
      | ([], f) => (0, f)
      | ([a], _) => if opK op = 1 then oneZ op a else (0, 99)
      | (a :: b :: _, _) => twoZ op a b
/-- The operands' numbers; with the first error, none. -/
def valL (env : List (List UInt8 × Int)) : List Ex → List Int × Int
  | [] => ([], 0)
  | k :: ks => match valE env k with
    | (a, f) => if f = 0 then (match valL env ks with | (l, g) => if g = 0 then (a :: l, 0) else ([], g)) else ([], f)
end
def evalE (env : List (List UInt8 × Int)) (e : Ex) : Int × Int := if mayB e = true then valE env e else (0, 1)

/-- What a reading comes to: a tree, how many tokens may still be taken, and those that are left; or an error, and how many could still be taken. -/
inductive Res where
  | ok (t : Ex) (b : Nat) (ts : List Tok)
  | er (f : Int) (b : Nat)

def endTok : Tok := ⟨0, [], 0, 0⟩
def nextT (ts : List Tok) : Tok := ts.headD endTok
def sgnT (ts : List Tok) (s : List UInt8) : Bool := decide ((nextT ts).kind = 4) && ((nextT ts).text == s)
/-- The operator of a level, with so many operands, that stands next; none: -1. -/
def operGo (ts : List Tok) (lv k : Int) : List (List UInt8 × Int × Int) → Nat → Int
  | [], _ => -1
  | o :: os, i => if (decide (o.2.1 = lv) && decide (o.2.2 = k) && sgnT ts o.1) = true then (i : Int) else operGo ts lv k os (i + 1)
def operT (ts : List Tok) (lv k : Int) : Int := operGo ts lv k opsT 0

def leafT (b : Nat) (ts : List Tok) : Res :=
  let t := nextT ts
  if t.kind = 2 then (if formedB 0 t.n [] 0 = true then (if b = 0 then .er 2 0 else .ok (.mk 0 t.n [] []) (b - 1) ts.tail) else .er 11 b)
  else if t.kind = 1 then (if formedB 1 0 t.text 0 = true then (if b = 0 then .er 2 0 else .ok (.mk 1 0 t.text []) (b - 1) ts.tail) else .er 11 b)
  else .er 11 b

/-- Operands with operators of a level between them. -/
def chainGo (F : Nat → List Tok → Res) (lv : Int) : Nat → Ex → Nat → List Tok → Res
  | 0, e, b, ts => .ok e b ts
  | m + 1, e, b, ts =>
    if operT ts lv 2 < 0 then .ok e b ts
    else if b = 0 then .er 2 0
    else match F (b - 1) ts.tail with
      | .er f b' => .er f b'
      | .ok r b' ts' => chainGo F lv m (.mk (operT ts lv 2) 0 [] [e, r]) b' ts'
def chainT (F : Nat → List Tok → Res) (lv : Int) (b : Nat) (ts : List Tok) : Res :=
  match F b ts with
  | .er f b' => .er f b'
  | .ok e b' ts' => chainGo F lv (b' + 1) e b' ts'
def pairT (F : Nat → List Tok → Res) (lv : Int) (b : Nat) (ts : List Tok) : Res :=
  match F b ts with
  | .er f b' => .er f b'
  | .ok e b' ts' =>
    if operT ts' lv 2 < 0 then .ok e b' ts'
    else if b' = 0 then .er 2 0
    else match F (b' - 1) ts'.tail with
      | .er f b'' => .er f b''
      | .ok r b'' ts'' => .ok (.mk (operT ts' lv 2) 0 [] [e, r]) b'' ts''
def orOf (U : Nat → List Tok → Res) : Nat → List Tok → Res := chainT (chainT (pairT (chainT (chainT U 4) 3) 2) 1) 0
/-- The last line of the grammar; d: how deep it may go. -/
def unaryT : Nat → Nat → List Tok → Res
  | 0, b, _ => .er 99 b
  | d + 1, b, ts =>
    if 0 ≤ operT ts 5 1 then
      (if b = 0 then .er 2 0 else match unaryT d (b - 1) ts.tail with
        | .er f b' => .er f b'
        | .ok e b' ts' => .ok (.mk (operT ts 5 1) 0 [] [e]) b' ts')
    else if sgnT ts [40] = true then
      (if b = 0 then .er 2 0 else match orOf (unaryT d) (b - 1) ts.tail with
        | .er f b' => .er f b'
        | .ok e b' ts' => if sgnT ts' [41] = true then (if b' = 0 then .er 2 0 else .ok e (b' - 1) ts'.tail) else .er 11 b')
    else leafT b ts
def takeT (ts : List Tok) : Res := orOf (unaryT 65) 64 ts
end Go.Proofs.YtohljihndoodfaaDoor.Ep
