/-
  The contracts of lex's Cut and Show.
-/
import Derived.Test.YtinocaggponpmaaGreatDoorLexW8
import Derived.Lib.AppendIntMem
namespace Go.Proofs.YtinocaggponpmaaGreatDoor.Lx
open Go.RowKit

theorem cutL_long (l : List UInt8) (h : 8192 < l.length) : cutL l = ([], 2, 0) := by unfold cutL; rw [if_pos h]
theorem cutL_short (l : List UInt8) (h : ¬ 8192 < l.length) : cutL l = match badAt 0 (rn l) with | some a => ([], 10, (a : Int)) | none => tokensL l := by unfold cutL; rw [if_neg h]; rfl
theorem badAt_bound (cs : List (Nat × List UInt8)) : ∀ k a, badAt k cs = some a → k ≤ a := by
  induction cs with
  | nil => intro k a h; simp [badAt] at h
  | cons c cs ih =>
    intro k a h
    unfold badAt at h
    split at h
    · simp at h; omega
    · have := ih _ _ h; omega

set_option maxHeartbeats 4000000 in
theorem Cut_any (s : ByteArray) (w : World) (hs : s.size ≤ 9223372036854775807) :
    Calls Tryz.prog 22 #[.string s] w (TokPost (cutL s.data.toList) w) := by
  have hll : s.data.toList.length = s.size := Array.length_toList
  by_cases hbig : 8192 < s.size
  · have HX : Hid (cutL s.data.toList = ([], 2, 0)) := cutL_long _ (by rw [hll]; exact hbig)
    clear hll
    go_enter Tryz.func22, Tryz.ntmps22
    go_wp2_with fail
    go_ret3
    exact ⟨.slice none 0 0, by rw [HX.out]; rfl, by rw [HX.out]; exact World.ownsRow_nil _ _ _ _, Below.refl _ _⟩
  · have hsm : s.size ≤ 8192 := by omega
    have HX := Lib.hid (cutL_short s.data.toList (by rw [hll]; exact hbig))
    clear hbig hll
    go_enter Tryz.func22, Tryz.ntmps22
    go_wp2_with fail
    go_loopw [5] (fun n w' => ∃ pos k : Nat, w' = w.iter s pos ∧ n = .int .i64 k ∧ k ≤ pos ∧ pos ≤ s.size ∧ Hid (badAt k (Lx.at_ s pos) = badAt 0 (rn s.data.toList))) (fun _ w' => s.size - w'.iterPos w.heap.size)
    case atStart => exact ⟨0, 0, rfl, rfl, by omega, by omega, rfl⟩
    case round =>
      obtain ⟨pos, k, rfl, rfl, hk, hpl, HI⟩ := hrel
      by_cases hp : pos < s.size
      · have hnx : ∀ ty, (Instr.next (.pointer (some ⟨w.heap.size, 0, none⟩)) true ty).run Tryz.prog (w.iter s pos) = _ := fun ty => run_next_any w s pos ty hp
        have hwd := width_le s pos hp
        have hle := decode_le s pos
        have HN := Lib.hid (at_next s pos hp)
        have HV := Lib.hid (invE_at s pos)
        generalize hd : Utf8.decode s pos = d at *
        have Hd := Lib.hid hd; clear hd
        obtain ⟨r, wd⟩ := d
        rcases hbd : badC (r, (s.data.toList.drop pos).take wd) with _ | _
        · have HG : Hid (badAt (k + 1) (Lx.at_ s (pos + wd)) = badAt 0 (rn s.data.toList)) := by
            unfold Hid; rw [← HI.out, HN.out]; simp only [badAt]; rw [if_neg (by rw [hbd]; simp)]
          have hiv : invE (r : Int) (s.extract pos s.size) = false := by rw [HV.out]; exact hbd
          clear hbd HV
          go_wp2_with (go_at_call 39; refine (invalid_any _ _ _).mono ?_; rintro e w' ⟨rfl, rfl⟩)
          go_roundw
          case rel => exact ⟨pos + wd, k + 1, rfl, by go_num, by omega, by omega, HG.out⟩
          case measure => simp; omega
        · have HG : Hid (cutL s.data.toList = ([], 10, (k : Int))) := by
            unfold Hid; rw [HX.out, ← HI.out, HN.out]; simp only [badAt]; rw [if_pos hbd]
          have hiv : invE (r : Int) (s.extract pos s.size) = true := by rw [HV.out]; exact hbd
          clear hbd HV
          go_wp2_with (go_at_call 39; refine (invalid_any _ _ _).mono ?_; rintro e w' ⟨rfl, rfl⟩)
          go_ret3
          exact ⟨.slice none 0 0, by rw [HG.out]; rfl, by rw [HG.out]; exact World.ownsRow_nil _ _ _ _, (Below.refl _ _).alloc (Nat.le_refl _) _⟩
      · have hnx : ∀ ty, (Instr.next (.pointer (some ⟨w.heap.size, 0, none⟩)) true ty).run Tryz.prog (w.iter s pos) = _ := fun ty => run_next_end w s pos ty hp
        have HG : Hid (cutL s.data.toList = tokensL s.data.toList) := by
          unfold Hid; rw [HX.out, ← HI.out, at_end s pos hp]; rfl
        go_wp2_with fail
        refine (tokens_any s _ (by omega)).mono ?_
        rintro e w1 ⟨v, rfl, hown, hb⟩
        have hb2 : Below w.heap.size w w1 := ((Below.refl _ w).alloc (Nat.le_refl _) (.stringIter s pos)).trans (hb.mono (by show w.heap.size ≤ (w.alloc _).heap.size; simp))
        have hown2 : w1.ownsRow w.heap.size 52 4 v (tokensL s.data.toList).1.length (toksC (tokensL s.data.toList).1) := ownsRow_less hown (by show w.heap.size ≤ (w.alloc _).heap.size; simp)
        clear hown hb
        have HO := Lib.hid hown2
        obtain ⟨A, c, rfl⟩ := ownsRow_slice hown2
        clear hown2
        go_wp2_with fail
        go_ret3
        exact ⟨_, by rw [HG.out]; rfl, by rw [HG.out]; exact HO.out, hb2⟩

/-- The library's table of tens lies where it was laid. -/
def Tab (w : World) : Prop := Lib.TabIs Tryz.prog w "internal/strconv.uint64pow10" .u64 Lib.pow10Tab
theorem tab_global : Tryz.prog.globalNamed "internal/strconv.uint64pow10" = some 1 := by kernel_rfl
theorem Tab.below {w w' : World} (h : Tab w) (hb : Below w.heap.size w w') : Tab w' := by
  have hlt : 1 < w.heap.size := by
    unfold Tab Lib.TabIs World.var? at h
    simp only [tab_global, Option.bind_some] at h
    rcases hh : w.heap[1]? with _ | o
    · rw [hh] at h; simp at h
    · exact (Array.getElem?_eq_some_iff.1 hh).1
  exact var?_below hb tab_global hlt h

theorem Itoa_any (n : Int) (w : World) (h0 : -9223372036854775808 ≤ n) (h1 : n ≤ 9223372036854775807) (ht : Tab w) :
    Calls Tryz.prog 124 #[.int .i64 n] w fun e w' => e = .returned (.string ⟨(Lib.itoa n).toArray⟩) ∧ Below w.heap.size w w' :=
  (Tryz.strconv_Itoa n h0 h1 w ht).mono fun _ _ h => by
    obtain ⟨h, k, os, e⟩ := h
    rw [e]
    exact ⟨h, Lib.below_grow w.heap.size w (Nat.le_refl _) k os⟩

theorem Show_any (n : Int) (w : World) (h0 : -9223372036854775808 ≤ n) (h1 : n ≤ 9223372036854775807) (ht : Tab w) :
    Calls Tryz.prog 93 #[.int .i64 n] w fun e w' => e = .returned (.string ⟨(Lib.itoa n).toArray⟩) ∧ Below w.heap.size w w' := by
  go_enter Tryz.func93, Tryz.ntmps93
  go_wp2_with fail
  refine (Itoa_any n w h0 h1 ht).mono ?_
  rintro e w1 ⟨rfl, hb⟩
  go_wp2_with fail
  go_ret
  exact ⟨rfl, hb⟩
end Go.Proofs.YtinocaggponpmaaGreatDoor.Lx
