/-
  The contract of the document's own Runes.
-/
import Derived.Test.YtinocaggponpmaaGreatDoorLexR3
import Derived.Test.YtinocaggponpmaaGreatDoorLexW8
import Derived.Deep.AppendLies
namespace Go.Proofs.YtinocaggponpmaaGreatDoor.Lx
open Go.RowKit

/-- The runes up to the first bad byte, where each begins, and whether there is none. -/
def runesGo : List (Nat × List UInt8) → Nat → List Nat × List Nat × Bool
  | [], p => ([], [p], true)
  | c :: cs, p => if badC c = true then ([], [], false) else (c.1 :: (runesGo cs (p + c.2.length)).1, p :: (runesGo cs (p + c.2.length)).2.1, (runesGo cs (p + c.2.length)).2.2)
def intsC (l : List Nat) : List Value := l.map fun (n : Nat) => Value.int .i64 (n : Int)
theorem intsC_append (a b : List Nat) : intsC (a ++ b) = intsC a ++ intsC b := by simp [intsC]

def RunesPost (l : List UInt8) (s : ByteArray) (w : World) (e : Ending) (w' : World) : Prop :=
  ∃ A1 n1 c1 A2 n2 c2, e = .returned (.tuple #[.agg #[.string s, .slice A1 n1 c1, .slice A2 n2 c2], .bool (runesGo (rn l) 0).2.2]) ∧
    w'.ownsRow w.heap.size 3 1 (.slice A1 n1 c1) (runesGo (rn l) 0).1.length (intsC (runesGo (rn l) 0).1) ∧
    w'.ownsRow w.heap.size 3 1 (.slice A2 n2 c2) (runesGo (rn l) 0).2.1.length (intsC (runesGo (rn l) 0).2.1) ∧ Below w.heap.size w w'

/-- What the two lists of runes and places are at a place, and what is still to come. -/
def RunesInv (s : ByteArray) (pos : Nat) (rs ats : List Nat) : Prop :=
  runesGo (rn s.data.toList) 0 = (rs ++ (runesGo (Lx.at_ s pos) pos).1, ats ++ (runesGo (Lx.at_ s pos) pos).2.1, (runesGo (Lx.at_ s pos) pos).2.2)

def RunesRel (s : ByteArray) (w : World) (i : Value) (wr : World) : Prop :=
  ∃ (pos : Nat) (rs ats : List Nat) (A1 : Option Addr) (c1 : Nat) (A2 : Option Addr) (c2 : Nat), i = .int .i64 pos ∧
    Box wr w.heap.size 71 #[.string ⟨#[]⟩, .slice none 0 0, .slice none 0 0] ∧
    Box wr (w.heap.size + 1) 71 #[.string s, .slice A1 rs.length c1, .slice A2 ats.length c2] ∧
    wr.ownsRow (w.heap.size + 2) 3 1 (.slice A1 rs.length c1) rs.length (intsC rs) ∧ wr.ownsRow (w.heap.size + 2) 3 1 (.slice A2 ats.length c2) ats.length (intsC ats) ∧
    ((Value.slice A1 rs.length c1).ownBlock = none ∨ (Value.slice A1 rs.length c1).ownBlock ≠ (Value.slice A2 ats.length c2).ownBlock) ∧
    Below w.heap.size w wr ∧ w.heap.size + 2 ≤ wr.heap.size ∧ pos ≤ s.size ∧ rs.length ≤ pos ∧ ats.length ≤ pos ∧ RunesInv s pos rs ats

theorem info_int : (Tryz.prog.info? 3).map (fun i => (i.zero, i.size, i.bytes)) = some (some (.int .i64 0), 1, 8) := by kernel_rfl
theorem Box.three {w : World} {g : Nat} {t : TypeId} {a b c : Value} (h : Box w g t #[a, b, c]) :
    w.cell? ⟨g, 0, none⟩ = some a ∧ w.cell? ⟨g, 1, none⟩ = some b ∧ w.cell? ⟨g, 2, none⟩ = some c ∧
    w.frozen? ⟨g, 0, none⟩ = false ∧ w.frozen? ⟨g, 1, none⟩ = false ∧ w.frozen? ⟨g, 2, none⟩ = false :=
  ⟨h.cell 0, h.cell 1, h.cell 2, h.frozen 0, h.frozen 1, h.frozen 2⟩
theorem Box.set_ {w : World} {g : Nat} {t : TypeId} {cs : Array Value} (h : Box w g t cs) (i : Nat) (u : Value) : Box (w.setCell ⟨g, i, none⟩ u) g t (cs.setIfInBounds i u) := by
  unfold Box at h ⊢
  simp [World.setCell, Array.getElem?_modify, h]
theorem Box.far {w : World} {g : Nat} {t : TypeId} {cs : Array Value} (h : Box w g t cs) {p : Addr} (hp : g ≠ p.block) (u : Value) : Box (w.setCell p u) g t cs := (Below.heap_setCell w p u g hp).trans h
theorem Box.alloc {w : World} {g : Nat} {t : TypeId} {cs : Array Value} (h : Box w g t cs) (o : Obj) : Box (w.alloc o) g t cs := (Below.heap_alloc w o g (Array.getElem?_eq_some_iff.1 h).1).trans h
theorem Box.grown {w w' : World} {g : Nat} {t : TypeId} {cs : Array Value} {row : Option Nat} (h : Box w g t cs) (hb : w.grownBy w' row) (hg : some g ≠ row) : Box w' g t cs := (hb.block g (Array.getElem?_eq_some_iff.1 h).1 hg).trans h
theorem own_ne {w : World} {base : Nat} {e : TypeId} {size : Nat} {v : Value} {n : Nat} {xs : List Value} (h : w.ownsRow base e size v n xs) {g : Nat} (hg : g < base) : some g ≠ v.ownBlock := by
  intro e
  have := (h.lt _ e.symm).1
  omega
theorem intsC_one (n : Nat) : ∀ u ∈ intsC [n], u.oneCell' = true := by
  intro u hu
  simp [intsC] at hu
  subst hu
  rfl

theorem runeR_at (s : ByteArray) (pos : Nat) : runeR (s.data.toList.drop pos) = if badC ((Utf8.decode s pos).1, (s.data.toList.drop pos).take (Utf8.decode s pos).2) = true then (0, 0) else Utf8.decode s pos := by
  unfold runeR; rw [decode_drop]

theorem own_set3 {w : World} {base B : Nat} {e : TypeId} {size : Nat} {v : Value} {n : Nat} {xs : List Value} (h : w.ownsRow base e size v n xs) (hB : B < base) (x0 x1 x2 : Value) :
    (((w.setCell ⟨B, 0, none⟩ x0).setCell ⟨B, 1, none⟩ x1).setCell ⟨B, 2, none⟩ x2).ownsRow base e size v n xs :=
  ownsRow_setCell_below (ownsRow_setCell_below (ownsRow_setCell_below h (a := ⟨B, 0, none⟩) hB x0) (a := ⟨B, 1, none⟩) hB x1) (a := ⟨B, 2, none⟩) hB x2
theorem below_set3 {B g : Nat} {a w : World} (h : Below B a w) (hg : B ≤ g) (x0 x1 x2 : Value) :
    Below B a (((w.setCell ⟨g, 0, none⟩ x0).setCell ⟨g, 1, none⟩ x1).setCell ⟨g, 2, none⟩ x2) :=
  ((h.setCell (p := ⟨g, 0, none⟩) hg x0).setCell (p := ⟨g, 1, none⟩) hg x1).setCell (p := ⟨g, 2, none⟩) hg x2

set_option maxHeartbeats 8000000 in
theorem Runes_any (s : ByteArray) (w : World) (hs : s.size ≤ 20000) :
    Calls Tryz.prog 42 #[.string s] w (RunesPost s.data.toList s w) := by
  obtain ⟨inf, hinf, hz0, hz1, hz2⟩ := info_parts info_int
  go_enter Tryz.func42, Tryz.ntmps42
  go_wp2
  go_loopw [5] (RunesRel s w) (fun i _ => s.size - (intOf i).toNat)
  case atStart =>
    refine ⟨0, [], [], none, 0, none, 0, rfl, ?_, ?_, World.ownsRow_nil _ _ _ _, World.ownsRow_nil _ _ _ _, Or.inl rfl, ((Below.refl _ w).alloc (Nat.le_refl _) _).alloc (by simp) _, by simp, by omega, by simp, by simp, ?_⟩
    · exact (Box.new w _ _).below ((Below.refl (w.heap.size + 1) _).alloc (by simp) _) (by omega)
    · have := Box.new (w.alloc (.cells #[.string ⟨#[]⟩, .slice none 0 0, .slice none 0 0] 71)) 71 #[.string s, .slice none 0 0, .slice none 0 0]
      simpa using this
    · unfold RunesInv Lx.at_; simp
  case round =>
    obtain ⟨pos, rs, ats, A1, c1, A2, c2, rfl, hx0, hx1, ho1, ho2, hdis, hbw, hsz, hpl, hl1, hl2, hinv⟩ := hrel
    have HI := Lib.hid hinv
    clear hinv
    obtain ⟨p0, p1, p2, f0, f1, f2⟩ := hx0.three
    obtain ⟨q0, q1, q2, y0, y1, y2⟩ := hx1.three
    by_cases hp : pos < s.size
    · have hwd := width_le s pos hp
      have HN := Lib.hid (at_next s pos hp)
      have HT := Lib.hid (take_len s pos hp)
      have HR := Lib.hid (runeR_at s pos)
      generalize hd : Utf8.decode s pos = d at *
      have Hd := Lib.hid hd; clear hd
      obtain ⟨r, wd⟩ := d
      rcases hb : badC (r, (s.data.toList.drop pos).take wd) with _ | _
      · have HR2 : Hid (runeR (s.data.toList.drop pos) = (r, wd)) := by unfold Hid; rw [HR.out, hb]; simp
        have HI2 : Hid (RunesInv s (pos + wd) (rs ++ [r]) (ats ++ [pos])) := by
          have h := HI.out
          unfold RunesInv at h
          rw [HN.out] at h
          simp only [runesGo, hb, HT.out] at h
          unfold Hid RunesInv
          rw [h]
          simp
        clear HI HR HN HT hb
        have bz : ((wd : Int) == 0) = false := beq_eq_false_iff_ne.2 (by omega)
        go_wp2_with fail
        refine (refRune_any s pos _ hp hs).mono ?_
        rintro e w' ⟨rfl, rfl⟩
        rw [HR2.out]
        simp only
        go_wp2_with (at_builtin; refine wpList_append_lies _ rfl _ _ 69 rfl (w.heap.size + 2) 3 inf (.int .i64 0) 1 8 Tryz.underlying69 hinf hz0 hz1 hz2 rfl (by decide) _ _ _ rfl (ho1.alloc _) ⟨wr.heap.size, 0, none⟩ 1 1 (intsC [r]) rfl rfl ?c1 ?c2 ?c3 ?c4 ?c5 ?c6 (wr.heap.size + 1) ?c7 ?_)
        case c1 => exact new_cells0 wr _ (intsC [r])
        case c2 => exact intsC_one r
        case c3 => decide
        case c4 => unfold maxLen; omega
        case c5 => omega
        case c6 => simp; omega
        case c7 => simp
        intro g1 cap1 w1 h1 hg1 hor1 hlt1
        have hx0' := (hx0.alloc (.cells #[.int .i64 (r : Int)] 3)).grown hg1 (own_ne ho1 (by omega))
        have hx1' := (hx1.alloc (.cells #[.int .i64 (r : Int)] 3)).grown hg1 (own_ne ho1 (by omega))
        have ho2' := (ho2.alloc (.cells #[.int .i64 (r : Int)] 3)).kept hg1 (by
          rcases hdis with h | h
          · rw [h]
            cases hq : (Value.slice A2 ats.length c2).ownBlock with
            | none => exact Or.inl rfl
            | some g => exact Or.inr (by simp)
          · exact Or.inr (Ne.symm h))
        have hne1 : (Value.slice A2 ats.length c2).ownBlock ≠ some g1 := by
          intro e
          rcases hor1 with h | h
          · rcases hdis with hd | hd
            · rw [hd] at h; cases h
            · exact hd (h.trans e.symm)
          · have := (ho2.lt _ e).2; omega
        have hg1b : w.heap.size + 2 ≤ g1 := by
          have := (h1.lt g1 rfl).1; exact this
        have hbw1 : Below w.heap.size w w1 := (hbw.alloc (by omega) _).grown hg1 (by simp; omega) (fun k hk => by have := (ho1.lt _ hk).1; omega)
        have hsz1 : w.heap.size + 2 ≤ w1.heap.size := by omega
        clear hx0 hx1 ho1 ho2 hbw hg1 p0 p1 p2 f0 f1 f2 q0 q1 q2 y0 y1 y2 hdis
        obtain ⟨p0, p1, p2, f0, f1, f2⟩ := hx0'.three
        obtain ⟨q0, q1, q2, e0, e1, e2⟩ := hx1'.three
        have hx0s := hx0'.far (p := ⟨w.heap.size + 1, 1, none⟩) (by simp) (.slice (some ⟨g1, 0, none⟩) (rs.length + 1) cap1)
        have hx1s : Box (w1.setCell ⟨w.heap.size + 1, 1, none⟩ (.slice (some ⟨g1, 0, none⟩) (rs.length + 1) cap1)) (w.heap.size + 1) 71 #[.string s, .slice (some ⟨g1, 0, none⟩) (rs.length + 1) cap1, .slice A2 ats.length c2] := hx1'.set_ 1 (.slice (some ⟨g1, 0, none⟩) (rs.length + 1) cap1)
        have h1s := ownsRow_setCell_below h1 (a := ⟨w.heap.size + 1, 1, none⟩) (by simp) (.slice (some ⟨g1, 0, none⟩) (rs.length + 1) cap1)
        have ho2s := ownsRow_setCell_below ho2' (a := ⟨w.heap.size + 1, 1, none⟩) (by simp) (.slice (some ⟨g1, 0, none⟩) (rs.length + 1) cap1)
        have hbw1s := hbw1.setCell (p := ⟨w.heap.size + 1, 1, none⟩) (by simp) (.slice (some ⟨g1, 0, none⟩) (rs.length + 1) cap1)
        have hszs : (w1.setCell ⟨w.heap.size + 1, 1, none⟩ (.slice (some ⟨g1, 0, none⟩) (rs.length + 1) cap1)).heap.size = w1.heap.size := by simp [World.setCell]
        clear hx0' hx1' h1 ho2' hbw1
        go_wp2_with (at_builtin; refine wpList_append_lies _ rfl _ _ 69 rfl (w.heap.size + 2) 3 inf (.int .i64 0) 1 8 Tryz.underlying69 hinf hz0 hz1 hz2 rfl (by decide) _ _ _ rfl (ho2s.alloc _) ⟨w1.heap.size, 0, none⟩ 1 1 (intsC [pos]) rfl rfl ?d1 ?d2 ?d3 ?d4 ?d5 ?d6 (w1.heap.size + 1) ?d7 ?_)
        case d1 =>
          have h := new_cells0 (w1.setCell ⟨w.heap.size + 1, 1, none⟩ (.slice (some ⟨g1, 0, none⟩) (rs.length + 1) cap1)) 3 (intsC [pos])
          rw [hszs] at h
          exact h
        case d2 => exact intsC_one pos
        case d3 => decide
        case d4 => unfold maxLen; omega
        case d5 => omega
        case d6 => simp; omega
        case d7 => simp
        intro g2 cap2 w2 h2 hg2 hor2 hlt2
        have hx0'' := (hx0s.alloc (.cells #[.int .i64 (pos : Int)] 3)).grown hg2 (own_ne ho2s (by omega))
        have hx1'' := (hx1s.alloc (.cells #[.int .i64 (pos : Int)] 3)).grown hg2 (own_ne ho2s (by omega))
        have h1'' := (h1s.alloc (.cells #[.int .i64 (pos : Int)] 3)).kept hg2 (Or.inr (fun e => hne1 e.symm))
        have hne2 : some g1 ≠ some g2 := by
          intro e
          rcases hor2 with h | h
          · exact hne1 (h.trans e.symm)
          · injection e with e; omega
        have hbw2 : Below w.heap.size w w2 := (hbw1s.alloc (by omega) _).grown hg2 (by simp; omega) (fun k hk => by have := (ho2s.lt _ hk).1; omega)
        have hsz2 : w.heap.size + 2 ≤ w2.heap.size := by have := (h2.lt g2 rfl).1; omega
        clear hx0s hx1s h1s ho2s hbw1s hg2 p0 p1 p2 f0 f1 f2 q0 q1 q2 e0 e1 e2 hor1 hor2 hszs hne1
        obtain ⟨q0, q1, q2, e0, e1, e2⟩ := hx1''.three
        have hx0f := hx0''.far (p := ⟨w.heap.size + 1, 2, none⟩) (by simp) (.slice (some ⟨g2, 0, none⟩) (ats.length + 1) cap2)
        have hx1f : Box (w2.setCell ⟨w.heap.size + 1, 2, none⟩ (.slice (some ⟨g2, 0, none⟩) (ats.length + 1) cap2)) (w.heap.size + 1) 71 #[.string s, .slice (some ⟨g1, 0, none⟩) (rs.length + 1) cap1, .slice (some ⟨g2, 0, none⟩) (ats.length + 1) cap2] := hx1''.set_ 2 (.slice (some ⟨g2, 0, none⟩) (ats.length + 1) cap2)
        have h1f := ownsRow_setCell_below h1'' (a := ⟨w.heap.size + 1, 2, none⟩) (by simp) (.slice (some ⟨g2, 0, none⟩) (ats.length + 1) cap2)
        have h2f := ownsRow_setCell_below h2 (a := ⟨w.heap.size + 1, 2, none⟩) (by simp) (.slice (some ⟨g2, 0, none⟩) (ats.length + 1) cap2)
        have hbwf := hbw2.setCell (p := ⟨w.heap.size + 1, 2, none⟩) (by simp) (.slice (some ⟨g2, 0, none⟩) (ats.length + 1) cap2)
        have hszf : w.heap.size + 2 ≤ (w2.setCell ⟨w.heap.size + 1, 2, none⟩ (.slice (some ⟨g2, 0, none⟩) (ats.length + 1) cap2)).heap.size := by simpa [World.setCell] using hsz2
        rw [← intsC_append] at h1f h2f
        have HA := Lib.hid hx0f
        have HB := Lib.hid hx1f
        have HC := Lib.hid h1f
        have HD := Lib.hid h2f
        have HE := Lib.hid hne2
        clear hx0'' hx1'' h1'' h2 hbw2 hx0f hx1f h1f h2f hne2
        go_wp2_with fail
        go_roundw
        case rel =>
          have hlr : (rs ++ [r]).length = rs.length + 1 := by simp
          have hla : (ats ++ [pos]).length = ats.length + 1 := by simp
          exact ⟨pos + wd, rs ++ [r], ats ++ [pos], some ⟨g1, 0, none⟩, cap1, some ⟨g2, 0, none⟩, cap2, by go_num, HA.out, by rw [hlr, hla]; exact HB.out, by rw [hlr]; exact HC.out, by rw [hla]; exact HD.out, Or.inr (by rw [hlr, hla]; exact HE.out), hbwf, hszf, by omega, by omega, by omega, HI2.out⟩
        case measure => simp [intOf]; omega
      · have HR2 : Hid (runeR (s.data.toList.drop pos) = (0, 0)) := by unfold Hid; rw [HR.out, hb]; simp
        have HX : Hid (runesGo (rn s.data.toList) 0 = (rs, ats, false)) := by
          have h := HI.out
          unfold RunesInv at h
          rw [HN.out] at h
          simp only [runesGo, hb, if_true, List.append_nil] at h
          exact h
        clear HI HR HN HT hb
        go_wp2_with fail
        refine (refRune_any s pos _ hp hs).mono ?_
        rintro e w' ⟨rfl, rfl⟩
        rw [HR2.out]
        simp only
        go_wp2_with fail
        refine bodyPost_ret (v := .tuple #[.agg #[.string s, .slice A1 rs.length c1, .slice A2 ats.length c2], .bool false]) (by simp [results, Tryz.results42, go_sem, p0, p1, p2]) rfl ?_
        refine ⟨A1, rs.length, c1, A2, ats.length, c2, ?_, ?_, ?_, below_set3 hbw (Nat.le_refl _) _ _ _⟩
        · rw [HX.out]
        · rw [HX.out]; exact ownsRow_less (own_set3 ho1 (by omega) _ _ _) (by omega)
        · rw [HX.out]; exact ownsRow_less (own_set3 ho2 (by omega) _ _ _) (by omega)
    · have HX : Hid (runesGo (rn s.data.toList) 0 = (rs, ats ++ [pos], true)) := by
        have h := HI.out
        unfold RunesInv at h
        rw [at_end s pos hp] at h
        simp only [runesGo, List.append_nil] at h
        exact h
      obtain rfl : pos = s.size := by omega
      clear HI
      go_wp2_with (at_builtin; refine wpList_append_lies _ rfl _ _ 69 rfl (w.heap.size + 2) 3 inf (.int .i64 0) 1 8 Tryz.underlying69 hinf hz0 hz1 hz2 rfl (by decide) _ _ _ rfl (ho2.alloc _) ⟨wr.heap.size, 0, none⟩ 1 1 (intsC [s.size]) rfl rfl ?e1 ?e2 ?e3 ?e4 ?e5 ?e6 (wr.heap.size + 1) ?e7 ?_)
      case e1 => exact new_cells0 wr _ (intsC [s.size])
      case e2 => exact intsC_one s.size
      case e3 => decide
      case e4 => unfold maxLen; omega
      case e5 => omega
      case e6 => simp; omega
      case e7 => simp
      intro g2 cap2 w2 h2 hg2 hor2 hlt2
      have hx0' := (hx0.alloc (.cells #[.int .i64 (s.size : Int)] 3)).grown hg2 (own_ne ho2 (by omega))
      have hx1' := (hx1.alloc (.cells #[.int .i64 (s.size : Int)] 3)).grown hg2 (own_ne ho2 (by omega))
      have ho1' := (ho1.alloc (.cells #[.int .i64 (s.size : Int)] 3)).kept hg2 hdis
      have hbw2 : Below w.heap.size w w2 := (hbw.alloc (by omega) _).grown hg2 (by simp; omega) (fun k hk => by have := (ho2.lt _ hk).1; omega)
      clear hx0 hx1 ho1 ho2 hbw hg2 p0 p1 p2 f0 f1 f2 q0 q1 q2 y0 y1 y2 hor2 hdis
      obtain ⟨p0, p1, p2, f0, f1, f2⟩ := hx0'.three
      obtain ⟨q0, q1, q2, e0, e1, e2⟩ := hx1'.three
      clear hx0' hx1'
      rw [← intsC_append] at h2
      have h2f := ownsRow_setCell_below h2 (a := ⟨w.heap.size + 1, 2, none⟩) (by simp) (.slice (some ⟨g2, 0, none⟩) (ats.length + 1) cap2)
      have h1f := ownsRow_setCell_below ho1' (a := ⟨w.heap.size + 1, 2, none⟩) (by simp) (.slice (some ⟨g2, 0, none⟩) (ats.length + 1) cap2)
      have hbwf := hbw2.setCell (p := ⟨w.heap.size + 1, 2, none⟩) (by simp) (.slice (some ⟨g2, 0, none⟩) (ats.length + 1) cap2)
      clear h2 ho1' hbw2
      have HA := Lib.hid h1f
      have HB := Lib.hid h2f
      clear h1f h2f
      go_wp2_with fail
      refine bodyPost_ret (v := .tuple #[.agg #[.string s, .slice A1 rs.length c1, .slice (some ⟨g2, 0, none⟩) (ats.length + 1) cap2], .bool true]) (by simp [results, Tryz.results42, go_sem, p0, p1, p2]) rfl ?_
      refine ⟨A1, rs.length, c1, some ⟨g2, 0, none⟩, ats.length + 1, cap2, ?_, ?_, ?_, below_set3 hbwf (Nat.le_refl _) _ _ _⟩
      · rw [HX.out]
      · rw [HX.out]; exact ownsRow_less (own_set3 HA.out (by omega) _ _ _) (by omega)
      · rw [HX.out]; exact ownsRow_less (own_set3 (by rw [List.length_append]; exact HB.out) (by omega) _ _ _) (by omega)
end Go.Proofs.YtinocaggponpmaaGreatDoor.Lx
