/-
  Where an argument's bytes lie.
-/
import Derived.Test.YteokhbcpfhjhdaaPkO
namespace Go.Proofs.Yteokhbcpfhjhdaa.Pk
open Go.ChangeShapes Go.WideShapes Go.ChangeAt Go.RowKit Go.Deep

theorem bytes_block {W : World} {base0 : Nat} {r : Reach} {A : Option Addr} {n c : Nat} (hv : Value.okWide Try.prog W r base0 25 (.slice A n c)) : ∀ ad, A = some ad → ad.block < W.heap.size := by
  intro ad e
  subst e
  simp only [Value.okWide, Try.underlying25, Cell.okWide, Cell.ok] at hv
  obtain ⟨_, _, _, _, row, cells, hs, _⟩ := hv
  rcases Nat.lt_or_ge ad.block W.heap.size with h1 | h1
  · exact h1
  · simp [World.shape?, Array.getElem?_eq_none h1] at hs

end Go.Proofs.Yteokhbcpfhjhdaa.Pk
