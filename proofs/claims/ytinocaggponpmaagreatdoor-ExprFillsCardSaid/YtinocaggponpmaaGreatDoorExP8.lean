/-
  Plainly: no node of what is read has more than two operands.
-/
import Derived.Test.YtinocaggponpmaaGreatDoorExP2
namespace Go.Proofs.YtinocaggponpmaaGreatDoor.Ep
open Lx

mutual
def k2E : Ex → Prop
  | .mk _ _ _ ks => ks.length ≤ 2 ∧ k2L ks
def k2L : List Ex → Prop
  | [] => True
  | k :: ks => k2E k ∧ k2L ks
end
theorem k2L_all : ∀ (ks : List Ex), k2L ks → ∀ k ∈ ks, k2E k
  | [], _ => by simp
  | x :: ks, h => by
    rw [k2L] at h
    intro k hk
    rcases List.mem_cons.1 hk with rfl | hk
    · exact h.1
    · exact k2L_all ks h.2 k hk
theorem k2_leaf (op n : Int) (nm : List UInt8) : k2E (.mk op n nm []) := by rw [k2E, k2L]; simp
theorem k2_one {op n : Int} {nm : List UInt8} {a : Ex} (h : k2E a) : k2E (.mk op n nm [a]) := by rw [k2E, k2L, k2L]; simp [h]
theorem k2_two {op n : Int} {nm : List UInt8} {a b : Ex} (h : k2E a) (h2 : k2E b) : k2E (.mk op n nm [a, b]) := by rw [k2E, k2L, k2L, k2L]; simp [h, h2]

def R2 (F : Nat → List Tok → Res) : Prop := ∀ b ts t b' rest, F b ts = .ok t b' rest → k2E t
theorem leaf_k2 : R2 leafT := by
  intro b ts t b' rest h
  unfold leafT at h
  simp only at h
  split at h
  · split at h
    · split at h
      · cases h
      · injection h with h _ _; subst h; exact k2_leaf _ _ _
    · cases h
  · split at h
    · split at h
      · split at h
        · cases h
        · injection h with h _ _; subst h; exact k2_leaf _ _ _
      · cases h
    · cases h
theorem chainGo_k2 {F : Nat → List Tok → Res} (hF : R2 F) (lv : Int) : ∀ (m : Nat) (e : Ex) (b : Nat) (ts : List Tok) (t : Ex) (b' : Nat) (rest : List Tok), k2E e → chainGo F lv m e b ts = .ok t b' rest → k2E t
  | 0, e, b, ts, t, b', rest, he, h => by rw [chainGo] at h; injection h with h _ _; subst h; exact he
  | m + 1, e, b, ts, t, b', rest, he, h => by
    rw [chainGo] at h
    split at h
    · injection h with h _ _; subst h; exact he
    · split at h
      · cases h
      · cases hr : F (b - 1) ts.tail with
        | er f b1 => rw [hr] at h; cases h
        | ok r b1 ts1 =>
          rw [hr] at h
          exact chainGo_k2 hF lv m _ _ _ t b' rest (k2_two he (hF _ _ _ _ _ hr)) h
theorem chain_k2 {F : Nat → List Tok → Res} (hF : R2 F) (lv : Int) : R2 (chainT F lv) := by
  intro b ts t b' rest h
  unfold chainT at h
  cases hr : F b ts with
  | er f b1 => rw [hr] at h; cases h
  | ok r b1 ts1 => rw [hr] at h; exact chainGo_k2 hF lv _ _ _ _ t b' rest (hF _ _ _ _ _ hr) h
theorem pair_k2 {F : Nat → List Tok → Res} (hF : R2 F) (lv : Int) : R2 (pairT F lv) := by
  intro b ts t b' rest h
  unfold pairT at h
  cases hr : F b ts with
  | er f b1 => rw [hr] at h; cases h
  | ok r b1 ts1 =>
    rw [hr] at h
    simp only at h
    split at h
    · injection h with h _ _; subst h; exact hF _ _ _ _ _ hr
    · split at h
      · cases h
      · cases hr2 : F (b1 - 1) ts1.tail with
        | er f b3 => rw [hr2] at h; cases h
        | ok r2 b3 ts3 =>
          rw [hr2] at h
          injection h with h _ _
          subst h
          exact k2_two (hF _ _ _ _ _ hr) (hF _ _ _ _ _ hr2)
theorem or_k2 {U : Nat → List Tok → Res} (hU : R2 U) : R2 (orOf U) := chain_k2 (chain_k2 (pair_k2 (chain_k2 (chain_k2 hU 4) 3) 2) 1) 0
theorem unary_k2 : ∀ d, R2 (unaryT d)
  | 0 => fun b ts t b' rest h => by rw [unaryT] at h; cases h
  | d + 1 => fun b ts t b' rest h => by
    rw [unaryT] at h
    split at h
    · split at h
      · cases h
      · cases hr : unaryT d (b - 1) ts.tail with
        | er f b1 => rw [hr] at h; cases h
        | ok e b1 ts1 =>
          rw [hr] at h
          injection h with h _ _
          subst h
          exact k2_one (unary_k2 d _ _ _ _ _ hr)
    · split at h
      · split at h
        · cases h
        · cases hr : orOf (unaryT d) (b - 1) ts.tail with
          | er f b1 => rw [hr] at h; cases h
          | ok e b1 ts1 =>
            rw [hr] at h
            simp only at h
            split at h
            · split at h
              · cases h
              · injection h with h _ _
                subst h
                exact or_k2 (unary_k2 d) _ _ _ _ _ hr
            · cases h
      · exact leaf_k2 b ts t b' rest h
theorem parse_k2 {s : List UInt8} {t : Ex} {f a : Int} (h : parseP s = (some t, f, a)) : k2E t ∧ f = 0 ∧ a = 0 := by
  unfold parseP at h
  split at h
  · cases h
  · cases hr : takeT (cutL s).1 with
    | er f b' => rw [hr] at h; cases h
    | ok t' b' ts =>
      rw [hr] at h
      simp only at h
      split at h
      · cases h
      · injection h with h1 h2
        injection h1 with h1
        injection h2 with h2 h3
        subst h1
        exact ⟨or_k2 (unary_k2 65) _ _ _ _ _ hr, h2.symm, h3.symm⟩
end Go.Proofs.YtinocaggponpmaaGreatDoor.Ep
