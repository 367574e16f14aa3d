/-
  The laws' own tree of two names: pair; what Eval makes of it.
-/
import Derived.Test.YtdjmicgmphbjmaaDoorExFr
namespace Go.Proofs.YtdjmicgmphbjmaaDoor.Ep
open Go.RowKit Lx

def prT (op : Int) : Ex := .mk op 0 [] [.mk 1 0 [97] [], .mk 1 0 [98] []]
theorem pr_may (op : Int) (h : 4 ≤ op ∧ op ≤ 16) : mayB (prT op) = true := by
  have : ∀ k : Fin 17, 4 ≤ k.val → mayB (prT (k.val : Int)) = true := by decide +kernel
  have := this ⟨op.toNat, by omega⟩ (by simp only; omega)
  simpa [Int.toNat_of_nonneg (show 0 ≤ op by omega)] using this
theorem pr_nums (op : Int) : numsE (prT op) := by simp [prT, numsE, numsL]
theorem pr_k (op : Int) (h : 4 ≤ op ∧ op ≤ 16) : opK op = 2 := by
  have : ∀ k : Fin 17, 4 ≤ k.val → opK (k.val : Int) = 2 := by decide +kernel
  have := this ⟨op.toNat, by omega⟩ (by simp only; omega)
  simpa [Int.toNat_of_nonneg (show 0 ≤ op by omega)] using this
theorem pr_eval (op a b : Int) (h : 4 ≤ op ∧ op ≤ 16) : evalE [([97], a), ([98], b)] (prT op) = twoZ op a b := by
  unfold evalE
  rw [if_pos (pr_may op h)]
  unfold prT
  rw [valE_2 _ _ _ _ _ _ (pr_k op h), valE_0 _ _ _ _ _ rfl, valE_0 _ _ _ _ _ rfl]
  rfl

def PairPost (op : Int) (w : World) (e : Ending) (w' : World) : Prop := ∃ g, e = .returned (exV op 0 [] (some ⟨g, 0, none⟩) 2 2) ∧ TreeV (fun k => w.heap.size ≤ k) w' (prT op) (exV op 0 [] (some ⟨g, 0, none⟩) 2 2) ∧ Below w.heap.size w w'

set_option maxHeartbeats 1000000 in
theorem pair_law (op : Int) (w : World) :
    Calls Tryd.prog 21 #[.int .i64 op] w (PairPost op w) := by
  go_enter Tryd.func21, Tryd.ntmps21
  go_wp2
  refine bodyPost_ret (v := exV op 0 [] (some ⟨w.heap.size + 1, 0, none⟩) 2 2) (by simp [results, Tryd.results21, go_sem, exV]) rfl ⟨w.heap.size + 1, rfl, ?_, ?_⟩
  · have hx := Box.new (w.alloc (.cells #[.int .i64 op, .int .i64 0, .string ⟨#[]⟩, .slice (some ⟨w.heap.size + 1, 0, none⟩) 2 2] 24)) 24 #[.int .i64 1, .int .i64 0, .string ⟨#[97]⟩, .slice none 0 0, .int .i64 1, .int .i64 0, .string ⟨#[98]⟩, .slice none 0 0]
    rw [show (w.alloc (.cells #[.int .i64 op, .int .i64 0, .string ⟨#[]⟩, .slice (some ⟨w.heap.size + 1, 0, none⟩) 2 2] 24)).heap.size = w.heap.size + 1 by simp] at hx
    exact tree_two (k := .mk 1 0 [97] []) (l := .mk 1 0 [98] []) (ka := none) (la := none) (kc := 0) (lc := 0) hx (tree_leaf _ _ _ _ _) (tree_leaf _ _ _ _ _) (by omega) op
  · exact ((Below.refl _ _).alloc (Nat.le_refl _) _).alloc (by simp) _

/-- Eval of such a tree. -/
theorem pair_eval (op a b : Int) (h : 4 ≤ op ∧ op ≤ 16) (S : Nat → Prop) (v ve : Value) (w : World) (hO : Ops w) (hT : TreeV S w (prT op) v) (hE : EnvV w [([97], a), ([98], b)] ve) :
    Calls Tryd.prog 13 #[v, ve] w fun e w' => e = .returned (.tuple #[.int .i64 (twoZ op a b).1, .int .i64 (twoZ op a b).2]) ∧ Below w.heap.size w w' := by
  have := Eval_any (prT op) S v ve [([97], a), ([98], b)] w hO hT hE (pr_nums op)
  rw [pr_eval op a b h] at this
  exact this
end Go.Proofs.YtdjmicgmphbjmaaDoor.Ep
