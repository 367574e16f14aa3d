/-
  The document's bit, needs, Bits.
-/
import Derived.Test.YtohljihndoodfaaDoorRgL2
namespace Go.Proofs.YtohljihndoodfaaDoor.Rg
open Go.RowKit Lx Ep

theorem in10_cases {op : Int} (h : in10 op = true) : op = 0 ∨ op = 1 ∨ op = 2 ∨ op = 3 ∨ op = 4 ∨ op = 5 ∨ op = 6 ∨ op = 7 ∨ op = 8 ∨ op = 9 := by
  unfold in10 at h; simp at h; omega
theorem out10 {op : Int} (h : in10 op = false) : (op == 0) = false ∧ (op == 1) = false ∧ (op == 2) = false ∧ (op == 3) = false ∧ (op == 4) = false ∧ (op == 5) = false ∧ (op == 6) = false ∧ (op == 7) = false ∧ (op == 8) = false ∧ (op == 9) = false := by
  unfold in10 at h; simp at h; simp; omega
/-- Does an instruction name a bit? -/
def ownB (op : Int) : Bool := in10 op && decide (usesP op = 1)
def needP (op : Int) : Int := if in10 op = true then takesP op else 1
def SameB (v : Value) (w : World) (e : Ending) (w' : World) : Prop := e = .returned v ∧ w = w'
set_option maxRecDepth 100000 in
theorem rbit_any (op : Int) (w : World) : Calls Tryd.prog 55 #[.int .i64 op] w (SameB (.bool (ownB op)) w) := by
  cases h : in10 op
  · have hX : ownB op = false := by unfold ownB; rw [h]; rfl
    rw [hX]
    obtain ⟨d0, d1, d2, d3, d4, d5, d6, d7, d8, d9⟩ := out10 h
    clear h hX
    go_enter Tryd.func55, Tryd.ntmps55
    go_wp2
    go_ret
    exact ⟨rfl, rfl⟩
  · rcases in10_cases h with rfl | rfl | rfl | rfl | rfl | rfl | rfl | rfl | rfl | rfl
    all_goals
      go_enter Tryd.func55, Tryd.ntmps55
      go_wp2
      go_ret
      exact ⟨rfl, rfl⟩
set_option maxRecDepth 100000 in
theorem rneeds_any (op : Int) (w : World) : Calls Tryd.prog 58 #[.int .i64 op] w (SameB (.int .i64 (needP op)) w) := by
  cases h : in10 op
  · have hX : needP op = 1 := by unfold needP; rw [h]; rfl
    rw [hX]
    obtain ⟨d0, d1, d2, d3, d4, d5, d6, d7, d8, d9⟩ := out10 h
    clear h hX
    go_enter Tryd.func58, Tryd.ntmps58
    go_wp2
    go_ret
    exact ⟨rfl, rfl⟩
  · rcases in10_cases h with rfl | rfl | rfl | rfl | rfl | rfl | rfl | rfl | rfl | rfl
    all_goals
      go_enter Tryd.func58, Tryd.ntmps58
      go_wp2
      go_ret
      exact ⟨rfl, rfl⟩

theorem place_nn1 {R : List Nm} {x : Nm} : (x ∈ R → 0 ≤ placeP R x) ∧ (x ∉ R → placeP R x < 0) := by
  unfold placeP
  constructor
  · intro h; rw [if_pos h]; omega
  · intro h; rw [if_neg h]; omega
theorem bits_take {l : List Ru} {k : Nat} (hk : k < l.length) : bitsP (l.take (k + 1)) = if isBit l[k].kd = true then addD (bitsP (l.take k)) l[k].nm else bitsP (l.take k) := by
  unfold bitsP rawB
  rw [List.take_succ_eq_append_getElem hk, List.filter_append]
  by_cases h : isBit l[k].kd = true
  · rw [if_pos h]
    simp [h, distP, List.foldl_append]
  · rw [if_neg h]
    simp [h]
def BiRel (l : List Ru) (len : Nat) (w : World) (v i : Value) (wr : World) : Prop :=
  ∃ (k n : Nat) (acc : List Nm) (A : Option Addr) (c : Nat), k ≤ len ∧ i = .int .i64 (k : Int) ∧ v = .slice A n c ∧ n ≤ k ∧ Hid (acc.length = n ∧ acc = bitsP (l.take k)) ∧ Hid (RowN w.heap.size wr A c acc) ∧ Hid (Below w.heap.size w wr)
set_option maxRecDepth 100000 in
set_option maxHeartbeats 4000000 in
theorem rBits_any (l : List Ru) (A : Option Addr) (cap : Nat) (w : World) (hR : Rungs w A l) (hl : l.length ≤ 1000) (hx : ∀ r ∈ l, r.nm.length ≤ maxLen) : Calls Tryd.prog 13 #[.slice A l.length cap] w (NamesPost (bitsP l) w) := by
  have HR := Lib.hid hR
  have HX := Lib.hid hx
  clear hR hx
  generalize hL : l.length = len at *
  have HL := Lib.hid hL
  clear hL
  go_enter Tryd.func13, Tryd.ntmps13
  go_wp2
  go_loopw [3, 4] (BiRel l len w) (fun _ i _ => len - (intOf i).toNat)
  case atStart => exact ⟨0, 0, [], none, 0, by omega, rfl, rfl, by omega, ⟨rfl, rfl⟩, RowN.nil_ _ _, Below.refl _ _⟩
  case round =>
    rename World => wr
    obtain ⟨k, n, acc, NA, nc, hk, rfl, rfl, hnk, HAc, HRw, HBl⟩ := hrel
    by_cases hlt : k < len
    · have hki : k < l.length := by rw [HL.out]; exact hlt
      obtain ⟨g, off, rfl, hg, hcd, c0, c1, -⟩ := Rungs.at3 (HR.out.below HBl.out) hki
      have HT := Lib.hid (bits_take hki)
      generalize l[k] = r at *
      have hklt : ((k : Nat) : Int) < (len : Int) := by omega
      have hcase : ((r.kd == 0) = true ∨ ((r.kd == 0) = false ∧ (r.kd == 1) = true) ∨ ((r.kd == 0) = false ∧ (r.kd == 1) = false ∧ (r.kd == 2) = true)) ∧ isBit r.kd = true ∨ ((r.kd == 0) = false ∧ (r.kd == 1) = false ∧ (r.kd == 2) = false) ∧ isBit r.kd = false := by
        unfold isBit
        simp
        omega
      rcases hcase with ⟨hb, hbit⟩ | ⟨⟨hb0, hb1, hb2⟩, hbit⟩
      · rw [hbit] at HT
        simp only [if_true] at HT
        have hPl := Place_any acc NA nc r.nm wr HRw.out.strs (by have := HAc.out.1; omega)
        rw [HAc.out.1] at hPl
        by_cases hmem : r.nm ∈ acc
        · have hp : ¬ placeP acc r.nm < 0 := by have := (place_nn1 (R := acc) (x := r.nm)).1 hmem; omega
          have HAc2 : Hid (acc.length = n ∧ acc = bitsP (l.take (k + 1))) := ⟨HAc.out.1, by rw [HT.out, ← HAc.out.2]; unfold addD; rw [if_pos hmem]⟩
          generalize placeP acc r.nm = pl at *
          clear HT HAc hmem hbit
          rcases hb with h1 | ⟨h1, h2⟩ | ⟨h1, h2, h3⟩
          all_goals
            go_wp2_with fail
            refine hPl.mono ?_
            rintro e w2 ⟨rfl, rfl⟩
            go_wp2
            go_roundw
            case rel => exact ⟨k + 1, n, acc, NA, nc, by omega, by go_num, rfl, by omega, HAc2, HRw, HBl⟩
            case measure => simp [intOf]; omega
        · have hp : placeP acc r.nm < 0 := (place_nn1 (R := acc) (x := r.nm)).2 hmem
          obtain ⟨A2, c2, w2, hr2, hrow2, -, hb2⟩ := run_app_n (n := n) r.nm rfl HRw.out HAc.out.1 (by omega) HBl.out.size
          have HRow2 := Lib.hid hrow2
          have HB2 := Lib.hid (hb2 w HBl.out)
          have HAc2 : Hid ((acc ++ [r.nm]).length = n + 1 ∧ acc ++ [r.nm] = bitsP (l.take (k + 1))) := ⟨by rw [List.length_append, HAc.out.1]; rfl, by rw [HT.out, ← HAc.out.2]; unfold addD; rw [if_neg hmem]⟩
          generalize placeP acc r.nm = pl at *
          clear HT HAc hmem hbit hrow2 hb2 HRw
          rcases hb with h1 | ⟨h1, h2⟩ | ⟨h1, h2, h3⟩
          all_goals
            go_wp2_with fail
            refine hPl.mono ?_
            rintro e w3 ⟨rfl, rfl⟩
            go_wp2_with (at_builtin; refine wpList_append_run rfl (.tmp 37) (.tmp 43) _ _ rfl rfl rfl hr2 ?_)
            go_roundw
            case rel => exact ⟨k + 1, n + 1, acc ++ [r.nm], A2, c2, by omega, by go_num, rfl, by omega, HAc2, HRow2, HB2⟩
            case measure => simp [intOf]; omega
      · have HAc2 : Hid (acc.length = n ∧ acc = bitsP (l.take (k + 1))) := ⟨HAc.out.1, by rw [HT.out, hbit]; exact HAc.out.2⟩
        clear HT HAc hbit
        go_wp2
        go_roundw
        case rel => exact ⟨k + 1, n, acc, NA, nc, by omega, by go_num, rfl, by omega, HAc2, HRw, HBl⟩
        case measure => simp [intOf]; omega
    · have e1 : l.take k = l := List.take_of_length_le (by rw [HL.out]; omega)
      have HF : Hid (NamesPost (bitsP l) w (.returned (.slice NA n nc)) wr) := by
        obtain ⟨h1, h2⟩ := HAc.out
        rw [e1] at h2
        subst h2
        subst h1
        exact ⟨NA, nc, rfl, HRw.out, HBl.out⟩
      go_wp2
      go_ret
      exact HF.out
end Go.Proofs.YtohljihndoodfaaDoor.Rg
