/-
  What PageBack does to the records that were read: rows and their contents, written over.
-/
import Derived.Test.YthgoapcafjijfaaPgW4
import Derived.Test.YthgoapcafjijfaaPgR2
import Derived.ArgAppend
namespace Go.Proofs.Ythgoapcafjijfaa.Pg
open Go.RowKit

theorem wrap_u8 (n : Int) : IntKind.u8.wrap n = n % 256 := by
  unfold IntKind.wrap
  rw [if_neg (by simp [IntKind.signed])]
  rfl
theorem wrap_up (x : UInt8) : IntKind.u8.wrap ((x.toNat : Int) + 1) = ((x + 1).toNat : Int) := by
  rw [wrap_u8, UInt8.toNat_add]
  have : (1 : UInt8).toNat = 1 := rfl
  rw [this]
  omega

/-- append(s, 1) where s has no room. -/
theorem run_app_full {w : World} {D : Option Addr} {P : List UInt8} (hl : Lie w D P) (hn : P.length ≤ 1000000) :
    ∃ g c w' cur, (Builtin.append_ #[25, 25] 25 #[.slice D P.length P.length, .slice (some ⟨w.heap.size, 0, none⟩) 1 1]).run Try.prog (w.alloc (.cells #[.int .u8 1] 5)) = .ok (.slice (some ⟨g, 0, none⟩) (P.length + 1) c) w' ∧
      w.heap.size ≤ g ∧ P.length + 1 ≤ c ∧ c ≤ maxLen ∧ Box w' g 5 cur ∧ cur.size = c ∧ (∀ j, j < P.length + 1 → ∃ x : UInt8, cur[j]? = some (.int .u8 (x.toNat : Int))) ∧ cur[P.length]? = some (.int .u8 1) ∧ Below w.heap.size w w' := by
  obtain ⟨i0, hi0, hz0, hz1, hz2⟩ := info_parts info_u8
  have hb := (Below.refl w.heap.size w).alloc (Nat.le_refl _) (.cells #[.int .u8 1] 5)
  have hnews := World.news_of_block (cs := #[.int .u8 1]) (t := 5) (fr := (0, 0)) (heap_alloc_new w (.cells #[.int .u8 1] 5))
  have hs : (w.alloc (.cells #[.int .u8 1] 5)).heap.size = w.heap.size + 1 := by simp
  have key : ∃ v' w', (Builtin.append_ #[25, 25] 25 #[.slice D P.length P.length, .slice (some ⟨w.heap.size, 0, none⟩) 1 1]).run Try.prog (w.alloc (.cells #[.int .u8 1] 5)) = .ok v' w' ∧ w'.ownsRow (w.alloc (.cells #[.int .u8 1] 5)).heap.size 5 1 v' (P.length + 1) (u8C P ++ [.int .u8 1]) ∧ (w.alloc (.cells #[.int .u8 1] 5)).grownBy w' none := by
    cases D with
    | some b =>
      obtain ⟨v', w', hr, r1, r2⟩ := run_append_arg_grows (P := Try.prog) (w.alloc (.cells #[.int .u8 1] 5)) 25 25 5 i0 _ 1 1 Try.underlying25 hi0 hz0 hz1 hz2 rfl (by omega) b P.length P.length (u8C P) (by rw [u8C_length]; omega) (fun j u hu => by
        obtain ⟨hj, rfl⟩ := u8C_get hu
        obtain ⟨ad, e, _, hc⟩ := (hl.alloc (.cells #[.int .u8 1] 5)) (by omega)
        injection e with e
        subst e
        exact hc j hj) ⟨w.heap.size, 0, none⟩ 1 1 [.int .u8 1] rfl hnews (by omega) (by unfold maxLen; omega) (by omega)
      exact ⟨v', w', hr, r1, r2⟩
    | none =>
      have h0 : P = [] := by
        rcases P with _ | ⟨x, t⟩
        · rfl
        · obtain ⟨ad, h, _⟩ := hl (by simp)
          cases h
      subst h0
      obtain ⟨v', w', hr, r1, r2, _⟩ := run_append_own (P := Try.prog) (w.alloc (.cells #[.int .u8 1] 5)) (w.alloc (.cells #[.int .u8 1] 5)).heap.size 25 25 5 i0 _ 1 1 Try.underlying25 hi0 hz0 hz1 hz2 rfl (by omega) (.slice none 0 0) 0 [] (World.ownsRow_nil _ _ _ _) ⟨w.heap.size, 0, none⟩ 1 1 [.int .u8 1] rfl hnews (by simp [Value.oneCell']) (by unfold maxLen; omega) (by omega) (Nat.le_refl _)
      exact ⟨v', w', hr, r1, r2⟩
  obtain ⟨v', w', hr, ho, hg⟩ := key
  rcases ho.2 with ⟨_, h0⟩ | ⟨g, cap, cur, rfl, hbg, hh, hnc, hcm, hsz, htk⟩
  · omega
  · have hat : ∀ j, j < P.length + 1 → cur[j]? = (u8C P ++ [.int .u8 1])[j]? := fun j hj => by
      have : (cur.toList.take ((P.length + 1) * 1))[j]? = (u8C P ++ [.int .u8 1])[j]? := by rw [htk]
      rw [List.getElem?_take, if_pos (by omega), Array.getElem?_toList] at this
      exact this
    refine ⟨g, cap, w', cur, hr, by omega, hnc, hcm, hh, by omega, fun j hj => ?_, ?_, hb.trans ⟨hg.os, hg.tape, hg.output, hg.size, fun k hk => hg.block k (by omega) (by simp)⟩⟩
    · rw [hat j hj]
      by_cases hjl : j < P.length
      · refine ⟨P[j], ?_⟩
        rw [List.getElem?_append_left (by rw [u8C_length]; exact hjl)]
        simp [u8C, List.getElem?_eq_getElem hjl]
      · obtain rfl : j = P.length := by omega
        refine ⟨1, ?_⟩
        rw [List.getElem?_append_right (by rw [u8C_length]; omega), u8C_length, Nat.sub_self]
        rfl
    · rw [hat _ (by omega), List.getElem?_append_right (by rw [u8C_length]; omega), u8C_length, Nat.sub_self]
      rfl

def Todo (gC : Nat) (wr : World) (p : Rec) (v : Value) : Prop := ∃ D, v = .slice D p.2.length p.2.length ∧ LieX (fun b => b ≠ gC) wr D p.2
def Done (gm base : Nat) (wr : World) (p : Rec) (v : Value) : Prop := ∃ g c, v = .slice (some ⟨g, 0, none⟩) (p.2.length + 1) c ∧ p.2.length + 1 ≤ c ∧ c ≤ maxLen ∧ base ≤ g ∧ g ≠ gm ∧ g < wr.heap.size ∧ wr.cell? ⟨g, p.2.length, none⟩ = some (.int .u8 2)
def BkRow (l : List Rec) (i gm gC base : Nat) (wr : World) (cur : Array Value) : Prop :=
  ∀ j (hj : j < l.length), cur[j * 2]? = some (.string l[j].1) ∧ ∃ v, cur[j * 2 + 1]? = some v ∧ ((j < i ∧ Done gm base wr l[j] v) ∨ (i ≤ j ∧ Todo gC wr l[j] v))

theorem bk_start {base gC : Nat} {w : World} {A : Option Addr} {c : Nat} {l : List Rec} (h : OwnRecs base gC w A c l) (hl : 0 < l.length) : ∃ gm cur, A = some ⟨gm, 0, none⟩ ∧ base ≤ gm ∧ Box w gm 37 cur ∧ BkRow l 0 gm gC base w cur := by
  obtain ⟨xs, h1, h2, h3⟩ := h
  rcases h1.2 with ⟨_, h0⟩ | ⟨g, cap, cur, hv, hbg, hh, hnc, hcm, hsz, htk⟩
  · omega
  · injection hv with hv _ _
    refine ⟨g, cur, hv, hbg, hh, fun j hj => ?_⟩
    have hat : ∀ k, k < l.length * 2 → cur[k]? = xs[k]? := fun k hk => by
      have : (cur.toList.take (l.length * 2))[k]? = xs[k]? := by rw [htk]
      rw [List.getElem?_take, if_pos hk, Array.getElem?_toList] at this
      exact this
    obtain ⟨v0, v1, a1, a2, D, d, rfl, rfl, q3, q4, q5, q6⟩ := h2.2 j hj
    have hd := h3 j _ _ _ a2
    subst hd
    exact ⟨by rw [hat _ (by omega)]; exact a1, _, by rw [hat _ (by omega)]; exact a2, .inr ⟨Nat.zero_le _, D, rfl, q5⟩⟩

theorem bk_next {l : List Rec} {i gm gC base : Nat} {wr w3 : World} {cur : Array Value} (h : BkRow l i gm gC base wr cur) (hf : Fr (fun b => b = gm ∨ wr.heap.size ≤ b) wr w3) (hi : i < l.length) (hg : gC ≠ gm) {v : Value} (hd : Done gm base w3 l[i] v) : BkRow l (i + 1) gm gC base w3 (cur.setIfInBounds (i * 2 + 1) v) := by
  intro j hj
  obtain ⟨a1, u, a2, a3⟩ := h j hj
  have hne : i * 2 + 1 ≠ j * 2 := by omega
  refine ⟨by rw [Array.getElem?_setIfInBounds_ne hne]; exact a1, ?_⟩
  by_cases hij : j = i
  · subst hij
    refine ⟨v, ?_, .inl ⟨by omega, hd⟩⟩
    have hlt : j * 2 + 1 < cur.size := (Array.getElem?_eq_some_iff.1 a2).1
    rw [Array.getElem?_setIfInBounds_self_of_lt hlt]
  · refine ⟨u, by rw [Array.getElem?_setIfInBounds_ne (by omega)]; exact a2, ?_⟩
    rcases a3 with ⟨b1, g, c, b2, b3, b4, b5, b6, b7, b8⟩ | ⟨b1, D, b2, b3⟩
    · refine .inl ⟨by omega, g, c, b2, b3, b4, b5, b6, Nat.lt_of_lt_of_le b7 hf.size, ?_⟩
      exact (World.cell?_of_block (w := wr) (a := ⟨g, _, none⟩) (hf.block g b7 (fun h => h.elim b6 (fun h => by omega)))).trans b8
    · refine .inr ⟨by omega, D, b2, fun hp => ?_⟩
      obtain ⟨ad, e, q1, q2, q3⟩ := b3 hp
      have had : ad.block = gC := by simpa using q2
      exact ⟨ad, e, Nat.lt_of_lt_of_le q1 hf.size, q2, fun k hk => (World.cell?_of_block (w := wr) (a := ad.add k) (by rw [blk_add]; exact hf.block _ q1 (fun h => h.elim (fun h => hg (had ▸ h)) (fun h => by omega)))).trans (q3 k hk)⟩

def BkRel1 (g : Nat) (w : World) (i : Value) (wr : World) : Prop := ∃ (k : Nat) (X : List UInt8), i = .int .i64 (k : Int) ∧ k ≤ 256 ∧ X.length = 256 ∧ Box wr g 5 (u8C X).toArray ∧ Fr (fun b => b = g) w wr
def BkRel2 (l : List Rec) (gm gC base : Nat) (w : World) (i : Value) (wr : World) : Prop := ∃ (k : Nat) (cur : Array Value), i = .int .i64 (k : Int) ∧ k ≤ l.length ∧ Box wr gm 37 cur ∧ BkRow l k gm gC base wr cur ∧ gC < wr.heap.size ∧ Below w.heap.size w wr
def BkRel3 (n g : Nat) (w : World) (i : Value) (wr : World) : Prop := ∃ (k : Nat) (cur : Array Value), i = .int .i64 (k : Int) ∧ k ≤ n + 1 ∧ Box wr g 5 cur ∧ (∀ j, j < n + 1 → ∃ x : UInt8, cur[j]? = some (.int .u8 (x.toNat : Int))) ∧ cur[n]? = some (.int .u8 (if k ≤ n then 1 else 2)) ∧ Fr (fun b => b = g) w wr
def BkRel4 (l : List Rec) (w : World) (i : Value) (wr : World) : Prop := ∃ k : Nat, i = .int .i64 (k : Int) ∧ k ≤ l.length ∧ Below w.heap.size w wr
end Go.Proofs.Ythgoapcafjijfaa.Pg
