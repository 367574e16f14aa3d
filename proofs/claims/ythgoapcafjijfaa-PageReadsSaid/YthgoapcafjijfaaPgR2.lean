/-
  The contract of the document's Lay.
-/
import Derived.Test.YthgoapcafjijfaaPgR1
import Derived.Test.YthgoapcafjijfaaPgW2
namespace Go.Proofs.Ythgoapcafjijfaa.Pg
open Go.RowKit

theorem bl_total : ∀ (x y : List UInt8), Op.bytesLess x y = !(Op.bytesLess y x || (y == x))
  | [], [] => rfl
  | [], _ :: _ => by simp [Op.bytesLess]
  | _ :: _, [] => by simp [Op.bytesLess]
  | a :: x, b :: y => by
    have ih := bl_total x y
    simp only [Op.bytesLess]
    by_cases h1 : a < b
    · have h2 : ¬ b < a := by
        rw [UInt8.lt_iff_toNat_lt] at *
        omega
      have h3 : ¬ b = a := fun e => h2 (e ▸ h1 |> fun h => by rw [UInt8.lt_iff_toNat_lt] at *; omega)
      have h4 : ¬ a = b := fun e => h3 e.symm
      simp [h1, h2, h3]
    · by_cases h2 : b < a
      · have h3 : ¬ a = b := fun e => by
          subst e
          exact h1 h2
        simp [h1, h2, h3]
      · have h3 : a = b := by
          apply UInt8.toNat_inj.1
          rw [UInt8.lt_iff_toNat_lt] at *
          omega
        subst h3
        rw [ih]
        simp [h1]
theorem less_leq (a b : ByteArray) : (Op.bytesLess b.toList a.toList || (b.toList == a.toList)) = !less a b := by
  unfold less
  rw [bl_total a.toList b.toList, Bool.not_not]

/-- A row of bytes of one's own. -/
def OwnB (base : Nat) (w : World) (A : Option Addr) (n c : Nat) (P : List UInt8) : Prop := P.length = n ∧ w.ownsRow base 5 1 (.slice A n c) n (u8C P)
section
variable {base n c : Nat} {w : World} {A : Option Addr} {P : List UInt8}
theorem OwnB.lie (h : OwnB base w A n c P) : Lie w A P := by
  obtain ⟨rfl, h⟩ := h
  exact Lie.of_own h
theorem OwnB.conv (h : OwnB base w A n c P) : (convert 25 9 (.slice A n c)).run Try.prog w = .ok (.string ⟨P.toArray⟩) w := by
  have := conv_lie c h.lie
  rwa [h.1] at this
theorem OwnB.below {w' : World} (h : OwnB base w A n c P) (k : Below w.heap.size w w') : OwnB base w' A n c P := ⟨h.1, own_keep h.2 k⟩
theorem slice_form {v : Value} {xs : List Value} {e : TypeId} {size m : Nat} (h : w.ownsRow base e size v m xs) : ∃ A' c', v = .slice A' m c' := by
  rcases h.2 with ⟨rfl, h0⟩ | ⟨g, cap, cur, rfl, _⟩
  · exact ⟨none, 0, by rw [h0]⟩
  · exact ⟨_, _, rfl⟩
theorem own_grow {w0 w' : World} {v : Value} {xs : List Value} {e : TypeId} {size m : Nat} (h : w.ownsRow base e size v m xs) (hb : Below base w0 w) (hbase : base ≤ w.heap.size) (hg : w.grownBy w' v.ownBlock) : Below base w0 w' :=
  hb.grown hg hbase (fun k hk => (h.lt k hk).1)
/-- append(own, byte). -/
theorem run_app1 (h : OwnB base w A n c P) {x m : Nat} (hm : n + 1 = m) (hx : x < 256) (hn : n ≤ 1000000) (hbase : base ≤ w.heap.size) {w0 : World} (hb : Below base w0 w) :
    ∃ A' c' w', (Builtin.append_ #[25, 25] 25 #[.slice A n c, .slice (some ⟨w.heap.size, 0, none⟩) 1 1]).run Try.prog (w.alloc (.cells #[.int .u8 (x : Int)] 5)) = .ok (.slice A' m c') w' ∧
      OwnB base w' A' m c' (P ++ [UInt8.ofNat x]) ∧ Below base w0 w' := by
  subst hm
  obtain ⟨i0, hi0, hz0, hz1, hz2⟩ := info_parts info_u8
  have hown := own_keep h.2 ((Below.refl _ w).alloc (Nat.le_refl _) (.cells #[.int .u8 (x : Int)] 5))
  obtain ⟨v', w', hr, ho, hg, _, _⟩ := run_append_own_at (P := Try.prog) (w.alloc (.cells #[.int .u8 (x : Int)] 5)) base 25 25 5 i0 _ 1 1 Try.underlying25 hi0 hz0 hz1 hz2 rfl (by omega)
    _ n _ hown ⟨w.heap.size, 0, none⟩ 1 1 [.int .u8 (x : Int)] rfl (World.news_of_block (cs := #[.int .u8 (x : Int)]) (t := 5) (fr := (0, 0)) (heap_alloc_new w _)) (by simp [Value.oneCell']) (by unfold maxLen; omega) (by omega) (by simp; omega)
  obtain ⟨A', c', rfl⟩ := slice_form ho
  refine ⟨A', c', w', hr, ⟨by rw [List.length_append, h.1]; rfl, ?_⟩, own_grow hown (hb.alloc hbase _) (by simp; omega) hg⟩
  rw [u8C_append]
  have e : u8C [UInt8.ofNat x] = [.int .u8 (x : Int)] := by
    rw [nat_u8 hx]
    rfl
  rw [e]
  exact ho
/-- append(own, bytes...). -/
theorem run_appL (h : OwnB base w A n c P) {D : Option Addr} {s : List UInt8} {m : Nat} (hm : n + s.length = m) (d : Nat) (hs : Lie w D s) (hn : n + s.length ≤ 1000000) (hbase : base ≤ w.heap.size) {w0 : World} (hb : Below base w0 w) :
    ∃ A' c' w', (Builtin.append_ #[25, 25] 25 #[.slice A n c, .slice D s.length d]).run Try.prog w = .ok (.slice A' m c') w' ∧ OwnB base w' A' m c' (P ++ s) ∧ Below base w0 w' := by
  subst hm
  obtain ⟨A', c', w', hr, ho, hg, _⟩ := run_append_lie h.2 hs d 25 (by unfold maxLen; omega) (by omega) hbase
  exact ⟨A', c', w', hr, ⟨by rw [List.length_append, h.1], by rw [u8C_append]; exact ho⟩, own_grow h.2 hb hbase hg⟩
/-- append(own, string...). -/
theorem run_appS (h : OwnB base w A n c P) {s : ByteArray} {m : Nat} (hm : n + s.size = m) (hn : n + s.size ≤ 1000000) (hbase : base ≤ w.heap.size) {w0 : World} (hb : Below base w0 w) :
    ∃ A' c' w', (Builtin.append_ #[25, 9] 25 #[.slice A n c, .string s]).run Try.prog w = .ok (.slice A' m c') w' ∧ OwnB base w' A' m c' (P ++ s.data.toList) ∧ Below base w0 w' := by
  subst hm
  obtain ⟨i0, hi0, hz0, hz1, hz2⟩ := info_parts info_u8
  obtain ⟨v', w', hr, ho, hg, _⟩ := Lib.run_append_own_string (P := Try.prog) w base 25 9 25 5 i0 Try.underlying25 Try.underlying9 hi0 hz0 hz1 hz2 _ n _ h.2 s (by unfold maxLen; omega) (by omega) hbase
  obtain ⟨A', c', rfl⟩ := slice_form ho
  exact ⟨A', c', w', hr, ⟨by rw [List.length_append, h.1]; simp, by rw [u8C_append]; exact ho⟩, own_grow h.2 hb hbase hg⟩
end

def layS (l : List Rec) : ByteArray := if okP l then ⟨(layB l).toArray⟩ else ⟨#[]⟩
def RIncRel (l : List Rec) (w : World) (i : Value) (wr : World) : Prop := ∃ k : Nat, i = .int .i64 ((k : Int) + 1) ∧ (k = 0 ∨ k + 1 ≤ l.length) ∧ incTo l k ∧ Below w.heap.size w wr
def RLayRel (l : List Rec) (w : World) (v i : Value) (wr : World) : Prop :=
  ∃ (k n : Nat) (A : Option Addr) (c : Nat), i = .int .i64 (k : Int) ∧ v = .slice A n c ∧ k ≤ l.length ∧ n ≤ 225 ∧ OwnB w.heap.size wr A n c (headP l k) ∧ Below w.heap.size w wr
def RPadRel (F : List UInt8) (w : World) (v : Value) (wr : World) : Prop :=
  ∃ (n : Nat) (A : Option Addr) (c : Nat), v = .slice A n c ∧ n ≤ 256 ∧ F.length ≤ n ∧ OwnB w.heap.size wr A n c (F ++ List.replicate (n - F.length) 0) ∧ Below w.heap.size w wr
def lenOf (v : Value) : Nat := match v with | .slice _ n _ => n | _ => 0
end Go.Proofs.Ythgoapcafjijfaa.Pg
