/-
  Contracts of lex's functions that make one token: name, number, text, sign, token.
-/
import Derived.Test.YtinocaggponpmaaGreatDoorLexW4
namespace Go.Proofs.YtinocaggponpmaaGreatDoor.Lx
open Go.RowKit

def tokV (t : Tok) : Value := .agg #[.int .i64 t.kind, .string ⟨t.text.toArray⟩, .int .i64 t.n, .int .i64 t.at_]
def tokE (x : Tok × Nat × Int) : Ending := .returned (.tuple #[tokV x.1, .int .i64 x.2.1, .int .i64 x.2.2])
theorem tokE_of {k n a : Int} {s : ByteArray} {z : Int} {e : Int} {x : Tok × Nat × Int} (h : x = (⟨k, s.data.toList, n, a⟩, z.toNat, e)) (hz : 0 ≤ z) :
    Ending.returned (.tuple #[.agg #[.int .i64 k, .string s, .int .i64 n, .int .i64 a], .int .i64 z, .int .i64 e]) = tokE x := by
  subst h
  unfold tokE tokV
  simp only [Int.toNat_of_nonneg hz]

/-- A token's block. -/
def Box (w : World) (g : Nat) (t : TypeId) (cs : Array Value) : Prop := w.heap[g]? = some (.cells cs t (0, 0))
theorem Box.cell {w : World} {g : Nat} {t : TypeId} {cs : Array Value} (h : Box w g t cs) (i : Nat) : w.cell? ⟨g, i, none⟩ = cs[i]? := cell_of_row w g i cs t (0, 0) h
theorem Box.frozen {w : World} {g : Nat} {t : TypeId} {cs : Array Value} (h : Box w g t cs) (i : Nat) : w.frozen? ⟨g, i, none⟩ = false := by
  unfold Box at h
  simp [World.frozen?, h]
theorem Box.new (w : World) (t : TypeId) (cs : Array Value) : Box (w.alloc (.cells cs t)) w.heap.size t cs := heap_alloc_new w _
theorem Box.below {w w' : World} {g B : Nat} {t : TypeId} {cs : Array Value} (h : Box w g t cs) (hb : Below B w w') (hg : g < B) : Box w' g t cs := (hb.block g hg).trans h

/-- What a walk wants of a box of four cells. -/
theorem Box.four {w : World} {g : Nat} {t : TypeId} {a b c d : Value} (h : Box w g t #[a, b, c, d]) :
    w.cell? ⟨g, 0, none⟩ = some a ∧ w.cell? ⟨g, 1, none⟩ = some b ∧ w.cell? ⟨g, 2, none⟩ = some c ∧ w.cell? ⟨g, 3, none⟩ = some d ∧
    w.frozen? ⟨g, 0, none⟩ = false ∧ w.frozen? ⟨g, 1, none⟩ = false ∧ w.frozen? ⟨g, 2, none⟩ = false ∧ w.frozen? ⟨g, 3, none⟩ = false :=
  ⟨h.cell 0, h.cell 1, h.cell 2, h.cell 3, h.frozen 0, h.frozen 1, h.frozen 2, h.frozen 3⟩

theorem below_new {w w1 : World} {o : Obj} (hb : Below (w.alloc o).heap.size (w.alloc o) w1) : Below w.heap.size w w1 :=
  ((Below.refl _ w).alloc (Nat.le_refl _) o).trans (hb.mono (by simp))

theorem below_set4 {B g : Nat} {a w : World} (h : Below B a w) (hg : B ≤ g) (x0 x1 x2 x3 : Value) :
    Below B a ((((w.setCell ⟨g, 0, none⟩ x0).setCell ⟨g, 1, none⟩ x1).setCell ⟨g, 2, none⟩ x2).setCell ⟨g, 3, none⟩ x3) :=
  (((h.setCell (p := ⟨g, 0, none⟩) hg x0).setCell (p := ⟨g, 1, none⟩) hg x1).setCell (p := ⟨g, 2, none⟩) hg x2).setCell (p := ⟨g, 3, none⟩) hg x3

set_option maxHeartbeats 1000000 in
theorem name_any (s : ByteArray) (w : World) (hs : s.size ≤ 20000) :
    Calls Tryz.prog 109 #[.string s] w fun e w' => e = tokE (nameT s.data.toList) ∧ Below w.heap.size w w' := by
  have hwl : (wordL s.data.toList).length ≤ s.size := by
    rw [wordL_take, List.length_take, Array.length_toList]; exact Nat.min_le_right _ _
  rcases hnm : nameB (wordL s.data.toList) with _ | _
  all_goals
    go_enter Tryz.func109, Tryz.ntmps109
    go_wp2_with fail
    refine (word_any _ _ hs).mono ?_
    rintro e w1 ⟨rfl, hb1⟩
    have hbw := below_new hb1
    have hx := (Box.new w 52 _).below hb1 (by simp)
    clear hb1
    generalize hw : wordL s.data.toList = wl at *
    have HW := Lib.hid hw
    clear hw
    go_wp2_with fail
    refine (Name_any _ _).mono ?_
    rintro e w2 ⟨rfl, hb2⟩
    have hbw2 := hbw.trans (hb2.mono hbw.size)
    have hx2 := (hx.below hb2 (by have := (Array.getElem?_eq_some_iff.1 hx).1; exact this)).four
    obtain ⟨c0, c1, c2, c3, f0, f1, f2, f3⟩ := hx2
    clear hx hb2
    go_wp2_with fail
  · refine bodyPost_ret (v := .tuple #[.agg #[.int .i64 0, .string ⟨#[]⟩, .int .i64 0, .int .i64 0], .int .i64 0, .int .i64 2]) (by simp [results, Tryz.results109, go_sem, c0, c1, c2, c3]) rfl ⟨tokE_of ?_ (by omega), ?_⟩
    · unfold nameT; rw [HW.out, hnm]; rfl
    · exact below_set4 hbw2 (Nat.le_refl _) _ _ _ _
  · refine bodyPost_ret (v := .tuple #[.agg #[.int .i64 1, .string ⟨wl.toArray⟩, .int .i64 0, .int .i64 0], .int .i64 wl.length, .int .i64 0]) (by simp [results, Tryz.results109, go_sem, c0, c1, c2, c3]) rfl ⟨tokE_of ?_ (by omega), ?_⟩
    · unfold nameT; rw [HW.out, hnm]; simp
    · exact below_set4 hbw2 (Nat.le_refl _) _ _ _ _

set_option maxHeartbeats 1000000 in
theorem number_any (s : ByteArray) (w : World) (hs : s.size ≤ 20000) :
    Calls Tryz.prog 110 #[.string s] w fun e w' => e = tokE (numberT s.data.toList) ∧ Below w.heap.size w w' := by
  have hwl : (wordL s.data.toList).length ≤ s.size := by
    rw [wordL_take, List.length_take, Array.length_toList]; exact Nat.min_le_right _ _
  rcases hnm : numberL (wordL s.data.toList) with _ | n
  all_goals
    have HM := Lib.hid hnm
    clear hnm
    go_enter Tryz.func110, Tryz.ntmps110
    go_wp2_with fail
    refine (word_any _ _ hs).mono ?_
    rintro e w1 ⟨rfl, hb1⟩
    have hbw := below_new hb1
    have hx := (Box.new w 52 _).below hb1 (by simp)
    clear hb1
    generalize hw : wordL s.data.toList = wl at *
    have HW := Lib.hid hw
    clear hw
    go_wp2_with fail
    refine (Number_any _ _).mono ?_
    rintro e w2 ⟨he, hb2⟩
    have hbw2 := hbw.trans (hb2.mono hbw.size)
    have hx2 := (hx.below hb2 (by have := (Array.getElem?_eq_some_iff.1 hx).1; exact this)).four
    obtain ⟨c0, c1, c2, c3, f0, f1, f2, f3⟩ := hx2
    clear hx hb2
    dsimp only at he
    rw [HM.out] at he
    simp only [numE] at he
    subst he
    go_wp2_with fail
  · refine bodyPost_ret (v := .tuple #[.agg #[.int .i64 0, .string ⟨#[]⟩, .int .i64 0, .int .i64 0], .int .i64 0, .int .i64 11]) (by simp [results, Tryz.results110, go_sem, c0, c1, c2, c3]) rfl ⟨tokE_of ?_ (by omega), ?_⟩
    · unfold numberT; rw [HW.out, HM.out]; rfl
    · exact below_set4 hbw2 (Nat.le_refl _) _ _ _ _
  · refine bodyPost_ret (v := .tuple #[.agg #[.int .i64 2, .string ⟨wl.toArray⟩, .int .i64 n, .int .i64 0], .int .i64 wl.length, .int .i64 0]) (by simp [results, Tryz.results110, go_sem, c0, c1, c2, c3]) rfl ⟨tokE_of ?_ (by omega), ?_⟩
    · unfold numberT; rw [HW.out, HM.out]; simp
    · exact below_set4 hbw2 (Nat.le_refl _) _ _ _ _
end Go.Proofs.YtinocaggponpmaaGreatDoor.Lx
