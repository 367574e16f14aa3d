/-
  The plain disk of layer 4: its sectors, whether it is on, how many writes are left, how many were done. No Go here.
-/
import GoSem.Claim
namespace Go.Proofs.Ytkklplccngdalaa.Dk

def i64 (n : Int) : Prop := -9223372036854775808 ≤ n ∧ n ≤ 9223372036854775807
theorem ofNat_toNat {z : Nat} (h : z < 256) : (UInt8.ofNat z).toNat = z := by simp; omega

structure Dsk where
  L : List (List UInt8)
  on : Bool
  left : Int
  wr : Int
def Dsk.Bad (d : Dsk) (k : Int) : Prop := k < 0 ∨ (d.L.length : Int) ≤ k
instance (d : Dsk) (k : Int) : Decidable (d.Bad k) := inferInstanceAs (Decidable (k < 0 ∨ (d.L.length : Int) ≤ k))
def less (n : Int) : Int := if 0 < n then n - 1 else n
def Dsk.off (d : Dsk) : Dsk := { d with on := false }
def Dsk.put (d : Dsk) (k : Nat) (b : List UInt8) : Dsk := ⟨d.L.set k b, d.on, less d.left, d.wr + 1⟩
def Dsk.err (d : Dsk) (k : Int) (n : Nat) : Int := if d.on = false then 6 else if d.Bad k ∨ n ≠ 256 then 1 else if d.left = 0 then 6 else 0
def Dsk.write (d : Dsk) (k : Int) (b : List UInt8) : Dsk := if d.on = false then d else if d.Bad k ∨ b.length ≠ 256 then d else if d.left = 0 then d.off else d.put k.toNat b
def Dsk.rerr (d : Dsk) (k : Int) : Int := if d.on = false then 6 else if d.Bad k then 1 else 0
def Dsk.read (d : Dsk) (k : Int) : List UInt8 := if d.rerr k = 0 then d.L.getD k.toNat [] else []
def Dsk.cut (d : Dsk) (n : Int) : Dsk := { d with left := if n < 0 then -1 else n }
def Dsk.up (d : Dsk) : Dsk := { d with on := true, left := -1 }
def full (x : UInt8) : List UInt8 := List.replicate 256 x
def new (n : Nat) : Dsk := ⟨List.replicate n (full 0), true, -1, 0⟩

theorem full_len (x : UInt8) : (full x).length = 256 := List.length_replicate
theorem write_len (d : Dsk) (k : Int) (b : List UInt8) : (d.write k b).L.length = d.L.length := by
  unfold Dsk.write
  split
  · rfl
  · split
    · rfl
    · split
      · rfl
      · simp [Dsk.put]
theorem write_wr (d : Dsk) (k : Int) (b : List UInt8) : d.wr ≤ (d.write k b).wr ∧ (d.write k b).wr ≤ d.wr + 1 := by
  unfold Dsk.write
  split
  · omega
  · split
    · omega
    · split
      · simp only [Dsk.off]; omega
      · simp only [Dsk.put]; omega
end Go.Proofs.Ytkklplccngdalaa.Dk
