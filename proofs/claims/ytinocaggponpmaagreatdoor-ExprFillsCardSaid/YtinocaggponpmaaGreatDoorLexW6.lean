/-
  The contract of lex's text (a text in quotes).
-/
import Derived.Test.YtinocaggponpmaaGreatDoorLexW5
import Derived.Laws.Strings2
namespace Go.Proofs.YtinocaggponpmaaGreatDoor.Lx
open Go.RowKit

def zeroTok : Obj := .cells #[.int .i64 0, .string ⟨#[]⟩, .int .i64 0, .int .i64 0] 52

theorem next_any_at1 (w : World) (o : Obj) (s : ByteArray) (pos : Nat) (h : pos < s.size) (ty : TypeId) :
    (Instr.next (.pointer (some ⟨w.heap.size + 1, 0, none⟩)) true ty).run Tryz.prog ((w.alloc o).iter s pos) =
      .ok (.tuple #[.bool true, .int .i64 pos, .int .i32 (Utf8.decode s pos).1]) ((w.alloc o).iter s (pos + (Utf8.decode s pos).2)) := by
  have := run_next_any (P := Tryz.prog) (w.alloc o) s pos ty h
  simpa using this
theorem next_end_at1 (w : World) (o : Obj) (s : ByteArray) (pos : Nat) (h : ¬ pos < s.size) (ty : TypeId) :
    (Instr.next (.pointer (some ⟨w.heap.size + 1, 0, none⟩)) true ty).run Tryz.prog ((w.alloc o).iter s pos) =
      .ok (.tuple #[.bool false]) ((w.alloc o).iter s pos) := by
  have := run_next_end (P := Tryz.prog) (w.alloc o) s pos ty h
  simpa using this
theorem iterPos_at1 (w : World) (o : Obj) (s : ByteArray) (pos : Nat) : ((w.alloc o).iter s pos).iterPos (w.heap.size + 1) = pos := by
  have := World.iterPos_iter (w.alloc o) s pos
  simpa using this

theorem box_iter (w : World) (s : ByteArray) (t : TypeId) (a b c d : Value) (q : Nat) :
    ((w.alloc (.cells #[a, b, c, d] t)).iter s q).cell? ⟨w.heap.size, 0, none⟩ = some a ∧ ((w.alloc (.cells #[a, b, c, d] t)).iter s q).cell? ⟨w.heap.size, 1, none⟩ = some b ∧
    ((w.alloc (.cells #[a, b, c, d] t)).iter s q).cell? ⟨w.heap.size, 2, none⟩ = some c ∧ ((w.alloc (.cells #[a, b, c, d] t)).iter s q).cell? ⟨w.heap.size, 3, none⟩ = some d ∧
    ((w.alloc (.cells #[a, b, c, d] t)).iter s q).frozen? ⟨w.heap.size, 0, none⟩ = false ∧ ((w.alloc (.cells #[a, b, c, d] t)).iter s q).frozen? ⟨w.heap.size, 1, none⟩ = false ∧
    ((w.alloc (.cells #[a, b, c, d] t)).iter s q).frozen? ⟨w.heap.size, 2, none⟩ = false ∧ ((w.alloc (.cells #[a, b, c, d] t)).iter s q).frozen? ⟨w.heap.size, 3, none⟩ = false := by
  have h : Box ((w.alloc (.cells #[a, b, c, d] t)).iter s q) w.heap.size t #[a, b, c, d] :=
    (Box.new w t #[a, b, c, d]).below ((Below.refl (w.alloc (.cells #[a, b, c, d] t)).heap.size _).alloc (Nat.le_refl _) _) (by simp)
  exact h.four
theorem below_iter1 (w : World) (o : Obj) (s : ByteArray) (q : Nat) : Below w.heap.size w ((w.alloc o).iter s q) :=
  ((Below.refl _ w).alloc (Nat.le_refl _) _).alloc (by simp) _

def textX (l : List UInt8) : Int × Nat := textGo 0 (dec l).2 (rn (l.drop (dec l).2))

set_option maxHeartbeats 4000000 in
theorem text_any (s : ByteArray) (w : World) (hs : s.size ≤ 20000) :
    Calls Tryz.prog 111 #[.string s] w fun e w' => e = tokE (textT s.data.toList) ∧ Below w.heap.size w w' := by
  go_enter Tryz.func111, Tryz.ntmps111
  go_wp2
  go_loopw [5] (fun n w' => ∃ pos k : Nat, w' = (w.alloc (.cells #[.int .i64 0, .string ⟨#[]⟩, .int .i64 0, .int .i64 0] 52)).iter s pos ∧ n = .int .i64 k ∧ k ≤ pos ∧ pos ≤ s.size ∧ ((pos = 0 ∧ k = 0) ∨ (1 ≤ pos ∧ Hid (textX s.data.toList = textGo k pos (at_ s pos))))) (fun _ w' => s.size - w'.iterPos (w.heap.size + 1))
  case atStart => exact ⟨0, 0, rfl, rfl, by omega, by omega, Or.inl ⟨rfl, rfl⟩⟩
  case round =>
    obtain ⟨pos, k, rfl, rfl, hk, hpl, hrel⟩ := hrel
    have hbx := box_iter w s 52 (.int .i64 0) (.string ⟨#[]⟩) (.int .i64 0) (.int .i64 0)
    have c0 := fun q => (hbx q).1
    have c1 := fun q => (hbx q).2.1
    have c2 := fun q => (hbx q).2.2.1
    have c3 := fun q => (hbx q).2.2.2.1
    have f0 := fun q => (hbx q).2.2.2.2.1
    have f1 := fun q => (hbx q).2.2.2.2.2.1
    have f2 := fun q => (hbx q).2.2.2.2.2.2.1
    have f3 := fun q => (hbx q).2.2.2.2.2.2.2
    clear hbx
    by_cases hp : pos < s.size
    · have hnx := next_any_at1 w (.cells #[.int .i64 0, .string ⟨#[]⟩, .int .i64 0, .int .i64 0] 52) s pos hp
      have hwd := width_le s pos hp
      have hle := decode_le s pos
      have HN := Lib.hid (at_next s pos hp)
      have HT := Lib.hid (take_len s pos hp)
      rcases hrel with ⟨h0, h0'⟩ | ⟨h1, HI⟩
      · subst h0 h0'
        have HX : Hid (textX s.data.toList = textGo 0 (Utf8.decode s 0).2 (at_ s (Utf8.decode s 0).2)) := by
          unfold Hid textX at_
          rw [decode_drop, List.drop_zero]
        generalize hd : Utf8.decode s 0 = d at *
        have Hd := Lib.hid hd; clear hd
        obtain ⟨r, wd⟩ := d
        go_wp2
        go_roundw
        case rel => exact ⟨wd, 0, rfl, rfl, by omega, by omega, Or.inr ⟨by omega, HX⟩⟩
        case measure => simp only [iterPos_at1]; omega
      · generalize hd : Utf8.decode s pos = d at *
        have Hd := Lib.hid hd; clear hd
        obtain ⟨r, wd⟩ := d
        have hb0 : ((pos : Int) == 0) = false := by simp; omega
        by_cases h34 : r = 34
        · have hb : ((r : Int) == 34) = true := by simp [h34]
          have H34 := Lib.hid h34; clear h34
          by_cases h20 : 20 < k
          · have HX : Hid (textX s.data.toList = (2, 0)) := by
              unfold Hid; rw [HI.out, HN.out]; simp only [textGo]; rw [if_pos H34.out, if_pos h20]
            go_wp2
            refine bodyPost_ret (v := .tuple #[.agg #[.int .i64 0, .string ⟨#[]⟩, .int .i64 0, .int .i64 0], .int .i64 0, .int .i64 2]) (by simp [results, Tryz.results111, go_sem, c0, c1, c2, c3]) rfl ⟨tokE_of ?_ (by omega), ?_⟩
            · unfold textT; have := HX.out; unfold textX at this; simp only [this]; rfl
            · exact below_set4 (below_iter1 _ _ _ _) (Nat.le_refl _) _ _ _ _
          · have HX : Hid (textX s.data.toList = (0, pos)) := by
              unfold Hid; rw [HI.out, HN.out]; simp only [textGo]; rw [if_pos H34.out, if_neg h20]
            have hsl : ∀ W, (Instr.slice 9 (.string s) (some (.int .i64 1)) (some (.int .i64 (pos : Int))) none).run Tryz.prog W = .ok (.string (s.extract 1 pos)) W := fun W => by
              have := run_slice_string (P := Tryz.prog) (w := W) 9 s .i64 .i64 1 (pos : Int) Tryz.underlying9 (by omega) (by omega) (by omega)
              simpa using this
            go_wp2
            refine bodyPost_ret (v := .tuple #[.agg #[.int .i64 3, .string (s.extract 1 pos), .int .i64 0, .int .i64 0], .int .i64 ((pos : Int) + 1), .int .i64 0]) (by simp [results, Tryz.results111, go_sem, c0, c1, c2, c3]) rfl ⟨tokE_of ?_ (by omega), ?_⟩
            · unfold textT; have := HX.out; unfold textX at this; simp only [this]; rw [extract_mid]; simp
            · exact below_set4 (below_iter1 _ _ _ _) (Nat.le_refl _) _ _ _ _
        · have hb : ((r : Int) == 34) = false := by simp; omega
          have H34 := Lib.hid h34; clear h34
          by_cases h32 : r < 32
          · have HX : Hid (textX s.data.toList = (11, 0)) := by
              unfold Hid; rw [HI.out, HN.out]; simp only [textGo]; rw [if_neg H34.out, if_pos h32]
            go_wp2
            refine bodyPost_ret (v := .tuple #[.agg #[.int .i64 0, .string ⟨#[]⟩, .int .i64 0, .int .i64 0], .int .i64 0, .int .i64 11]) (by simp [results, Tryz.results111, go_sem, c0, c1, c2, c3]) rfl ⟨tokE_of ?_ (by omega), ?_⟩
            · unfold textT; have := HX.out; unfold textX at this; simp only [this]; rfl
            · exact below_set4 (below_iter1 _ _ _ _) (Nat.le_refl _) _ _ _ _
          · have HX : Hid (textX s.data.toList = textGo (k + 1) (pos + wd) (at_ s (pos + wd))) := by
              unfold Hid; rw [HI.out, HN.out]; simp only [textGo]; rw [if_neg H34.out, if_neg h32, HT.out]
            have h32' : 32 ≤ r := by omega
            clear h32
            go_wp2
            go_roundw
            case rel => exact ⟨pos + wd, k + 1, rfl, by go_num, by omega, by omega, Or.inr ⟨by omega, HX⟩⟩
            case measure => simp only [iterPos_at1]; omega
    · have hnx := next_end_at1 w (.cells #[.int .i64 0, .string ⟨#[]⟩, .int .i64 0, .int .i64 0] 52) s pos hp
      have HX : Hid (textX s.data.toList = (11, 0)) := by
        unfold Hid
        rcases hrel with ⟨h0, h0'⟩ | ⟨h1, HI⟩
        · subst h0
          have hz : s.data.toList = [] := List.eq_nil_of_length_eq_zero (by rw [Array.length_toList]; show s.size = 0; omega)
          unfold textX; rw [hz]; rfl
        · rw [HI.out, at_end s pos hp]; rfl
      clear hrel
      go_wp2
      refine bodyPost_ret (v := .tuple #[.agg #[.int .i64 0, .string ⟨#[]⟩, .int .i64 0, .int .i64 0], .int .i64 0, .int .i64 11]) (by simp [results, Tryz.results111, go_sem, c0, c1, c2, c3]) rfl ⟨tokE_of ?_ (by omega), ?_⟩
      · unfold textT; have := HX.out; unfold textX at this; simp only [this]; rfl
      · exact below_set4 (below_iter1 _ _ _ _) (Nat.le_refl _) _ _ _ _
end Go.Proofs.YtinocaggponpmaaGreatDoor.Lx
