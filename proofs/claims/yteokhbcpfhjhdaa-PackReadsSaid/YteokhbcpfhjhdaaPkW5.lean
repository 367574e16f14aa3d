/-
  Contracts of slices.Clone and of pack's Writer.
-/
import Derived.Test.YteokhbcpfhjhdaaPkW4
import Derived.Lib.ConvBytes
import Derived.Lib.SliceRun
namespace Go.Proofs.Yteokhbcpfhjhdaa.Pk
open Go.RowKit

def ClonePost (l : List UInt8) (w : World) (e : Ending) (w' : World) : Prop :=
  ∃ A c, e = .returned (.slice A l.length c) ∧ w'.ownsRow w.heap.size 5 1 (.slice A l.length c) l.length (u8C l) ∧ Below w.heap.size w w'

theorem own_empty (w : World) (fr : World) (h : fr = w.alloc (.cells #[] 5)) : fr.ownsRow w.heap.size 5 1 (.slice (some ⟨w.heap.size, 0, none⟩) 0 0) 0 [] := by
  subst h
  exact ⟨rfl, .inr ⟨w.heap.size, 0, #[], rfl, Nat.le_refl _, heap_alloc_new w _, Nat.le_refl _, by unfold maxLen; omega, rfl, rfl⟩⟩

set_option maxHeartbeats 1000000 in
theorem clone_all (A : Option Addr) (l : List UInt8) (c : Nat) (w : World) (hl : Lie w A l) (hs : l.length ≤ 140737488355328) :
    Calls Try.prog 30 #[.slice A l.length c] w (ClonePost l w) := by
  rcases A with _ | ad
  · have h0 : l = [] := by
      rcases l with _ | ⟨b, t⟩
      · rfl
      · obtain ⟨ad, h, _⟩ := hl (by simp)
        cases h
    subst h0
    have hnil : ∀ w : World, (binOp .eql 25 (.slice none 0 c) (.slice none 0 0)).run Try.prog w = .ok (.bool true) w := fun w => Lib.run_eql_slice_nil (P := Try.prog) w 25 5 none 0 c 0 0 Try.underlying25
    go_enter Try.func30, Try.ntmps30
    go_wp2
    go_ret
    exact ⟨none, 0, rfl, World.ownsRow_nil _ _ _ _, Below.refl _ _⟩
  · have hnil : ∀ w : World, (binOp .eql 25 (.slice (some ad) l.length c) (.slice none 0 0)).run Try.prog w = .ok (.bool false) w := fun w => Lib.run_eql_slice_nil (P := Try.prog) w 25 5 (some ad) l.length c 0 0 Try.underlying25
    go_enter Try.func30, Try.ntmps30
    go_wp2_with (at_builtin; refine wpList_append_lie rfl (.tmp 5) (.tmp 6) rfl rfl (own_empty w _ rfl) rfl (hl.alloc _) ?c1 ?c2 ?c3 ?_)
    case c1 => unfold maxLen; omega
    case c2 => omega
    case c3 => simp
    intro A' c' w1 hown hgr hat
    go_wp2
    go_ret
    exact ⟨A', c', rfl, hown, ((Below.refl _ w).alloc (Nat.le_refl _) _).grown hgr (by simp) (fun k hk => by simp [Value.ownBlock] at hk; omega)⟩

theorem own_keep {w w' : World} {base : Nat} {e : TypeId} {size : Nat} {v : Value} {n : Nat} {xs : List Value} (h : w.ownsRow base e size v n xs) (hb : Below w.heap.size w w') : w'.ownsRow base e size v n xs := by
  refine ⟨h.1, ?_⟩
  rcases h.2 with h | ⟨g, cap, cur, hv, hbg, hh, r⟩
  · exact .inl h
  · exact .inr ⟨g, cap, cur, hv, hbg, (hb.block g (Array.getElem?_eq_some_iff.1 hh).1).trans hh, r⟩
theorem own_less {w : World} {base base' : Nat} {e : TypeId} {size : Nat} {v : Value} {n : Nat} {xs : List Value} (h : w.ownsRow base e size v n xs) (hb : base' ≤ base) : w.ownsRow base' e size v n xs := by
  refine ⟨h.1, ?_⟩
  rcases h.2 with h | ⟨g, cap, cur, hv, hbg, r⟩
  · exact .inl h
  · exact .inr ⟨g, cap, cur, hv, by omega, r⟩

/-- A Writer at a block: what was laid down. -/
def Wr (w : World) (g : Nat) (l : List UInt8) : Prop :=
  ∃ A c, Box w g 33 #[.slice A l.length c] ∧ w.ownsRow (g + 1) 5 1 (.slice A l.length c) l.length (u8C l)
theorem Wr.lt {w : World} {g : Nat} {l : List UInt8} (h : Wr w g l) : g < w.heap.size := by
  obtain ⟨A, c, hx, _⟩ := h
  exact hx.lt
theorem Wr.below {w w' : World} {g : Nat} {l : List UInt8} (h : Wr w g l) (hb : Below w.heap.size w w') : Wr w' g l := by
  obtain ⟨A, c, hx, ho⟩ := h
  exact ⟨A, c, hx.below hb hx.lt, own_keep ho hb⟩
theorem Wr.new (w : World) : Wr (w.alloc (.cells #[.slice none 0 0] 33)) w.heap.size [] := ⟨none, 0, Box.new w _ _, World.ownsRow_nil _ _ _ _⟩
def WPost (g : Nat) (l : List UInt8) (w : World) (e : Ending) (w' : World) : Prop := e = .returned (.tuple #[]) ∧ Wr w' g l ∧ Below g w w'

theorem wadd_end {w w1 : World} {g : Nat} {l m : List UInt8} {A A' : Option Addr} {c c' : Nat} (hx : Box w g 33 #[.slice A l.length c]) (ho : w.ownsRow (g + 1) 5 1 (.slice A l.length c) l.length (u8C l))
    (hown : w1.ownsRow (g + 1) 5 1 (.slice A' (l.length + m.length) c') (l.length + m.length) (u8C l ++ u8C m)) (hgr : w.grownBy w1 (Value.slice A l.length c).ownBlock) :
    Wr (w1.setCell ⟨g, 0, none⟩ (.slice A' (l.length + m.length) c')) g (l ++ m) ∧ Below g w (w1.setCell ⟨g, 0, none⟩ (.slice A' (l.length + m.length) c')) := by
  have hlt : ∀ k, (Value.slice A l.length c).ownBlock = some k → g + 1 ≤ k := fun k hk => (ho.lt k hk).1
  constructor
  · refine ⟨A', c', ?_, ?_⟩
    · have h := (hx.grown hgr (fun e => by have := hlt g e.symm; omega)).set_ 0 (.slice A' (l.length + m.length) c')
      rw [List.length_append]
      exact h
    · rw [List.length_append, u8C_append]
      exact ownsRow_setCell_below hown (a := ⟨g, 0, none⟩) (by simp) _
  · exact ((Below.refl g w).grown hgr (Nat.le_of_lt hx.lt) (fun k hk => by have := hlt k hk; omega)).setCell (p := ⟨g, 0, none⟩) (Nat.le_refl _) _

set_option maxHeartbeats 1000000 in
theorem wadd_all (g : Nat) (l : List UInt8) (A : Option Addr) (m : List UInt8) (c : Nat) (w : World) (hw : Wr w g l) (hl : Lie w A m) (hs : l.length + m.length ≤ 140737488355328) :
    Calls Try.prog 29 #[.pointer (some ⟨g, 0, none⟩), .slice A m.length c] w (WPost g (l ++ m) w) := by
  obtain ⟨A0, c0, hx, ho⟩ := hw
  have hc : w.cell? ⟨g, 0, none⟩ = some (.slice A0 l.length c0) := hx.cell 0
  have hlt := hx.lt
  go_enter Try.func29, Try.ntmps29
  go_wp2_with (at_builtin; refine wpList_append_lie rfl (.tmp 10) (.tmp 11) rfl rfl ho rfl hl ?c1 ?c2 ?c3 ?_)
  case c1 => unfold maxLen; omega
  case c2 => omega
  case c3 => omega
  intro A' c' w1 hown hgr hat
  have hx1 := hx.grown hgr (fun e => by have := (ho.lt g e.symm).1; omega)
  have hc1 : w1.cell? ⟨g, 0, none⟩ = some (.slice A0 l.length c0) := hx1.cell 0
  have hf1 := hx1.frozen 0
  obtain ⟨e1, e2⟩ := wadd_end hx ho hown hgr
  clear hx ho hown hgr hat hx1 hc
  go_wp2
  go_end0
  exact ⟨rfl, e1, e2⟩

theorem lit_add (b j : Nat) : (⟨b, 0, none⟩ : Addr).add j = ⟨b, j, none⟩ := by unfold Addr.add; split <;> simp_all
theorem Lie.of_grp {w : World} {b : Nat} {t : TypeId} {l : List UInt8} (h : Box w b t (grpA l)) (hl : l.length ≤ 10) : Lie w (some ⟨b, 0, none⟩) l := fun _ =>
  ⟨_, rfl, h.lt, fun j hj => by
    rw [lit_add, h.cell j, grpA_at l j (by omega)]
    unfold gAt
    simp [List.getD_eq_getElem?_getD, List.getElem?_eq_getElem hj]⟩

set_option maxHeartbeats 1000000 in
theorem wint_all (g : Nat) (l : List UInt8) (n : Int) (w : World) (hw : Wr w g l) (hn : i64 n) (hs : l.length + 10 ≤ 140737488355328) :
    Calls Try.prog 14 #[.pointer (some ⟨g, 0, none⟩), .int .i64 n] w (WPost g (l ++ bs n) w) := by
  have hbl := bs_len n
  have hlt := hw.lt
  have hsl : ∀ (b : Nat) (w : World), (Instr.sliceAt 54 (.pointer (some ⟨b, 0, none⟩)) none (some (.int .i64 ((bs n).length : Int))) none).run Try.prog w = .ok (.slice (some ⟨b, 0, none⟩) (bs n).length 10) w := fun b w => by
    have e : Try.prog.arrayLen 54 = 10 := by kernel_rfl
    have h := run_sliceAt_array_h (P := Try.prog) w 54 ⟨b, 0, none⟩ (by kernel_rfl) .i64 ((bs n).length : Int) (by omega) (by rw [e]; omega)
    obtain ⟨i0, hi0, hz0, hz1, hz2⟩ := info_parts info_u8
    have e2 : Try.prog.elem 54 = 5 := by kernel_rfl
    have e3 : ((sizeOf 5).run Try.prog w) = .ok 1 w := by simp [sizeOf, typeInfo, hi0, hz1]
    rw [e, e2, e3] at h
    exact h
  go_enter Try.func14, Try.ntmps14
  go_wp2_with fail
  refine (encode_any n w hn).mono ?_
  rintro e w1 ⟨rfl, hb1⟩
  unfold grpA
  have hb2 : Below w.heap.size w (w1.alloc (.cells (grpA (bs n)) 56)) := hb1.alloc hb1.size _
  have hw2 := hw.below hb2
  have hL := Lie.of_grp (Box.new w1 56 (grpA (bs n))) hbl
  clear hb1
  go_wp2_with fail
  refine (wadd_all g l _ (bs n) 10 _ hw2 hL (by omega)).mono ?_
  rintro e w3 ⟨rfl, hw3, hb3⟩
  go_wp2
  go_end0
  exact ⟨rfl, hw3, (hb2.mono (by omega)).trans hb3⟩

theorem Lie.of_list (w : World) (t : TypeId) (l : List UInt8) : Lie (w.alloc (.cells (u8C l).toArray t)) (some ⟨w.heap.size, 0, none⟩) l := fun _ =>
  ⟨_, rfl, by simp, fun j hj => by
    rw [lit_add, (Box.new w t (u8C l).toArray).cell j]
    simp [u8C, List.getElem?_eq_getElem hj]⟩

set_option maxHeartbeats 1000000 in
theorem wbool_all (g : Nat) (l : List UInt8) (b : Bool) (w : World) (hw : Wr w g l) (hs : l.length + 10 ≤ 140737488355328) :
    Calls Try.prog 21 #[.pointer (some ⟨g, 0, none⟩), .bool b] w (WPost g (l ++ [if b then 1 else 0]) w) := by
  have hlt := hw.lt
  cases b with
  | true =>
    have hb2 : Below w.heap.size w (w.alloc (.cells (u8C [1]).toArray 5)) := (Below.refl _ w).alloc (Nat.le_refl _) _
    have hw2 := hw.below hb2
    have hL := Lie.of_list w 5 [1]
    go_enter Try.func21, Try.ntmps21
    go_wp2_with fail
    refine (wadd_all g l _ [1] 1 _ hw2 hL (by simp; omega)).mono ?_
    rintro e w3 ⟨rfl, hw3, hb3⟩
    go_wp2
    refine bodyPost_ret (v := .tuple #[]) (by simp [results, Try.results21]) rfl ⟨rfl, hw3, (hb2.mono (by omega)).trans hb3⟩
  | false =>
    have hb2 : Below w.heap.size w (w.alloc (.cells (u8C [0]).toArray 5)) := (Below.refl _ w).alloc (Nat.le_refl _) _
    have hw2 := hw.below hb2
    have hL := Lie.of_list w 5 [0]
    go_enter Try.func21, Try.ntmps21
    go_wp2_with fail
    refine (wadd_all g l _ [0] 1 _ hw2 hL (by simp; omega)).mono ?_
    rintro e w3 ⟨rfl, hw3, hb3⟩
    go_wp2
    go_end0
    exact ⟨rfl, hw3, (hb2.mono (by omega)).trans hb3⟩

set_option maxHeartbeats 1000000 in
theorem wbytes_all (g : Nat) (l : List UInt8) (w : World) (hw : Wr w g l) (hs : l.length ≤ 140737488355328) :
    Calls Try.prog 15 #[.pointer (some ⟨g, 0, none⟩)] w (ClonePost l w) := by
  obtain ⟨A0, c0, hx, ho⟩ := hw
  have hc : w.cell? ⟨g, 0, none⟩ = some (.slice A0 l.length c0) := hx.cell 0
  have hL := Lie.of_own ho
  go_enter Try.func15, Try.ntmps15
  go_wp2_with fail
  refine (clone_all A0 l c0 w hL hs).mono ?_
  rintro e w1 ⟨A1, c1, rfl, ho1, hb1⟩
  go_wp2
  go_ret
  exact ⟨A1, c1, rfl, ho1, hb1⟩

/-- A string's bytes made a slice. -/
theorem bytesWorld_below (w : World) (s : ByteArray) : Below w.heap.size w (Lib.bytesWorld w 5 s) :=
  ⟨rfl, rfl, rfl, by rw [Lib.bytesWorld_size]; omega, fun k hk => Lib.bytesWorld_at_old w _ s k hk⟩
theorem Lie.of_str (w : World) (s : ByteArray) : Lie (Lib.bytesWorld w 5 s) (some ⟨w.heap.size, 0, none⟩) s.data.toList := fun _ =>
  ⟨_, rfl, by rw [Lib.bytesWorld_size]; exact Nat.lt_succ_self _, fun j hj => by
    rw [lit_add, Lib.bytesWorld_cell w _ s j (by simpa using hj)]
    simp [List.getD_eq_getElem?_getD, List.getElem?_eq_getElem hj]⟩

set_option maxHeartbeats 1000000 in
theorem wtext_all (g : Nat) (l : List UInt8) (s : ByteArray) (w : World) (hw : Wr w g l) (hs : l.length + 10 + s.size ≤ 140737488355328) :
    Calls Try.prog 23 #[.pointer (some ⟨g, 0, none⟩), .string s] w (WPost g (l ++ bs (s.size : Int) ++ s.data.toList) w) := by
  have hbl := bs_len (s.size : Int)
  have hlt := hw.lt
  have hcv := fun w : World => Lib.run_convert_string_bytes (P := Try.prog) w 9 25 5 s Try.underlying9 Try.underlying25 Try.underlying5
  go_enter Try.func23, Try.ntmps23
  go_wp2_with fail
  refine (wint_all g l (s.size : Int) w hw (by unfold i64; omega) (by omega)).mono ?_
  rintro e w1 ⟨rfl, hw1, hb1⟩
  have hb2 := bytesWorld_below w1 s
  have hw2 := hw1.below hb2
  have hL := Lie.of_str w1 s
  go_wp2_with fail
  have hsz : s.data.toList.length = s.size := by simp
  refine (wadd_all g (l ++ bs (s.size : Int)) _ s.data.toList _ _ hw2 hL (by simp; omega)).mono ?_
  rintro e w3 ⟨rfl, hw3, hb3⟩
  go_wp2
  go_end0
  exact ⟨rfl, hw3, (hb1.trans (hb2.mono (Nat.le_of_lt hw1.lt))).trans hb3⟩
end Go.Proofs.Yteokhbcpfhjhdaa.Pk
