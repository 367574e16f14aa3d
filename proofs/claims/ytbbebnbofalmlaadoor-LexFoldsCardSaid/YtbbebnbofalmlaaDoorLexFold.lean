/-
  The contract of lex's Fold.
-/
import Derived.Test.YtbbebnbofalmlaaDoorLexW2
import Derived.Laws.IdiomStrings
import Derived.Lib.OthersKept
namespace Go.Proofs.YtbbebnbofalmlaaDoor.Lx
open Go.RowKit

def foldB (b : UInt8) : UInt8 := if 65 ≤ b ∧ b ≤ 90 then b + 32 else b
def foldL (l : List UInt8) : List UInt8 := l.map foldB
theorem foldB_of (b : UInt8) (h1 : 65 ≤ b.toNat) (h2 : b.toNat ≤ 90) : (foldB b).toNat = b.toNat + 32 := by
  unfold foldB
  rw [if_pos ⟨UInt8.le_iff_toNat_le.2 h1, UInt8.le_iff_toNat_le.2 h2⟩, UInt8.toNat_add]
  show (b.toNat + 32) % 256 = _
  omega
theorem foldB_not (b : UInt8) (h : b.toNat < 65 ∨ 90 < b.toNat) : foldB b = b := by
  unfold foldB
  rw [if_neg]
  intro ⟨h1, h2⟩
  have h1' := UInt8.le_iff_toNat_le.1 h1
  have h2' := UInt8.le_iff_toNat_le.1 h2
  have e1 : (65 : UInt8).toNat = 65 := rfl
  have e2 : (90 : UInt8).toNat = 90 := rfl
  omega

/-- Of a rune's bytes none but a lone one is below 128. -/
theorem decode_bytes (s : ByteArray) (pos : Nat) (h : pos < s.size) (hb : 128 ≤ (s[pos]'h).toNat) :
    ∀ k, k < (Utf8.decode s pos).2 → 128 ≤ (s.get! (pos + k)).toNat := by
  have h0 : s.get! (pos + 0) = s[pos]'h := get_at s pos h
  have hn : ¬ (s[pos]'h).toNat < 128 := by omega
  intro k hk
  by_cases hk0 : k = 0
  · subst hk0; rw [h0]; exact hb
  · simp only [Utf8.decode, h0, hn, if_false] at hk
    have hlt : ∀ j, (s.get! (pos + j)).toNat < 256 := fun j => (s.get! (pos + j)).toNat_lt
    have h1 := hlt 1; have h2 := hlt 2; have h3 := hlt 3
    repeat' split at hk
    all_goals simp_all
    all_goals rcases (show k = 1 ∨ k = 2 ∨ k = 3 from by omega) with rfl | rfl | rfl
    all_goals omega

/-- The bytes with those ahead of a place folded. -/
def foldTo (l : List UInt8) (pos : Nat) : List UInt8 := foldL (l.take pos) ++ l.drop pos
theorem foldTo_length (l : List UInt8) (pos : Nat) : (foldTo l pos).length = l.length := by simp [foldTo, foldL]; omega
theorem foldTo_zero (l : List UInt8) : foldTo l 0 = l := by simp [foldTo, foldL]
theorem foldTo_end (l : List UInt8) (pos : Nat) (h : l.length ≤ pos) : foldTo l pos = foldL l := by
  simp [foldTo, List.take_of_length_le h, List.drop_eq_nil_of_le h]
theorem foldTo_at (l : List UInt8) (pos j : Nat) (hj : j < l.length) : (foldTo l pos)[j]? = some (if j < pos then foldB l[j] else l[j]) := by
  unfold foldTo foldL
  by_cases h : j < pos
  · rw [if_pos h, List.getElem?_append_left (by simp; omega)]
    simp [h, List.getElem?_eq_getElem hj]
  · rw [if_neg h, List.getElem?_append_right (by simp; omega)]
    simp only [List.length_map, List.length_take, List.getElem?_drop]
    rw [show pos + (j - min pos l.length) = j from by omega, List.getElem?_eq_getElem hj]

theorem foldTo_same (l : List UInt8) (pos wd : Nat) (h : ∀ j (hj : j < l.length), pos ≤ j → j < pos + wd → foldB l[j] = l[j]) : foldTo l (pos + wd) = foldTo l pos := by
  apply List.ext_getElem?
  intro j
  by_cases hj : j < l.length
  · rw [foldTo_at l _ j hj, foldTo_at l _ j hj]
    by_cases h1 : j < pos
    · rw [if_pos h1, if_pos (by omega)]
    · rw [if_neg h1]
      by_cases h2 : j < pos + wd
      · rw [if_pos h2, h j hj (by omega) h2]
      · rw [if_neg h2]
  · rw [List.getElem?_eq_none (by rw [foldTo_length]; omega), List.getElem?_eq_none (by rw [foldTo_length]; omega)]
theorem foldTo_get (l : List UInt8) (pos j : Nat) (hj : j < (foldTo l pos).length) : (foldTo l pos)[j] = if j < pos then foldB (l[j]'(by rw [foldTo_length] at hj; exact hj)) else l[j]'(by rw [foldTo_length] at hj; exact hj) := by
  have h := foldTo_at l pos j (by rw [foldTo_length] at hj; exact hj)
  rw [List.getElem?_eq_getElem hj] at h
  exact Option.some.inj h

/-- The row of bytes that the call made. -/
def RowB (w : World) (g : Nat) (l : List UInt8) : Prop := ∀ j (hj : j < l.length), w.cell? ⟨g, j, none⟩ = some (.int .u8 (l[j].toNat : Int)) ∧ w.frozen? ⟨g, j, none⟩ = false

theorem RowB.below {w w' : World} {g B : Nat} {l : List UInt8} (h : RowB w g l) (hb : Below B w w') (hg : g < B) : RowB w' g l := fun j hj =>
  ⟨(hb.cell (p := ⟨g, j, none⟩) hg).trans (h j hj).1, (hb.frozen (p := ⟨g, j, none⟩) hg).trans (h j hj).2⟩
theorem iterAt_cell (w : World) (k g : Nat) (s : ByteArray) (pos j : Nat) (h : g ≠ k) : (w.iterAt k s pos).cell? ⟨g, j, none⟩ = w.cell? ⟨g, j, none⟩ := World.cell?_of_block (Lib.iterAt_other w k g s pos h)
theorem iterAt_frozen (w : World) (k g : Nat) (s : ByteArray) (pos j : Nat) (h : g ≠ k) : (w.iterAt k s pos).frozen? ⟨g, j, none⟩ = w.frozen? ⟨g, j, none⟩ := World.frozen?_of_block (Lib.iterAt_other w k g s pos h)
theorem RowB.iterAt {w : World} {g k : Nat} {l : List UInt8} (h : RowB w g l) (hk : g ≠ k) (s : ByteArray) (pos : Nat) : RowB (w.iterAt k s pos) g l := fun j hj =>
  ⟨(iterAt_cell w k g s pos j hk).trans (h j hj).1, (iterAt_frozen w k g s pos j hk).trans (h j hj).2⟩
/-- One byte of the row set. -/
theorem RowB.set_ {w : World} {g : Nat} {l l' : List UInt8} (h : RowB w g l) (i : Nat) (v : UInt8) (hl : l'.length = l.length) (hi : i < l.length) (he : ∀ j (hj : j < l'.length), l'[j] = if j = i then v else l[j]'(by omega)) :
    RowB (w.setCell ⟨g, i, none⟩ (.int .u8 (v.toNat : Int))) g l' := by
  intro j hj
  have hj' : j < l.length := by omega
  rw [he j hj]
  refine ⟨?_, ?_⟩
  · by_cases hji : j = i
    · subst hji
      rw [if_pos rfl]
      exact World.cell?_setCell_same _ _ _ (h j hj').1
    · rw [if_neg hji, World.cell?_setCell_other _ _ _ _ (by intro e; injection e with _ e2; exact hji e2.symm)]
      exact (h j hj').1
  · rw [World.frozen?_setCell]
    exact (h j hj').2

theorem addr_add (g j : Nat) : (⟨g, 0, none⟩ : Addr).add j = ⟨g, j, none⟩ := by
  unfold Addr.add
  split <;> simp_all

def FoldRel (s : ByteArray) (w : World) (wr : World) : Prop :=
  ∃ pos, wr.heap[w.heap.size + 1]? = some (.stringIter s pos) ∧ Below w.heap.size w wr ∧ pos ≤ s.size ∧ RowB wr w.heap.size (foldTo s.data.toList pos)

set_option maxHeartbeats 4000000 in
theorem Fold_any (s : ByteArray) (w : World) (hs : s.size ≤ 20000) :
    Calls Tryd.prog 26 #[.string s] w fun e w' => e = .returned (.string ⟨(foldL s.data.toList).toArray⟩) ∧ Below w.heap.size w w' := by
  have hll : s.data.toList.length = s.size := Array.length_toList
  have hconv := run_bytes_of_string (P := Tryd.prog) w 9 54 5 s Tryd.underlying9 Tryd.underlying54 Tryd.underlying5
  have hcap := grownCap_ge w s.size 0 5
  generalize hC : bytesRow s (grownCap w s.size 0 5) = C at hconv
  have hrow : RowB (w.alloc (.cells C 5 (C.size, C.size + 1))) w.heap.size s.data.toList := by
    intro j hj
    have hj' : j < s.data.size := by simpa using hj
    have hjC : j < C.size := by
      rw [← hC]; unfold bytesRow; simp; omega
    refine ⟨?_, ?_⟩
    · rw [World.cell?_alloc_mark, ← hC, bytesRow_at s _ j hj']
      simp
    · rw [World.frozen?_alloc_mark]
      simp; omega
  generalize grownCap w s.size 0 5 = cap at *
  clear hC
  go_enter Tryd.func26, Tryd.ntmps26
  go_wp2
  go_loopw [] (FoldRel s w) (fun wr => s.size - wr.iterPos (w.heap.size + 1))
  case atStart =>
    have hit := World.iter_heap ((w.alloc (.cells C 5 (C.size, C.size + 1))).drew) s 0
    refine ⟨0, by simpa using hit, (((Below.refl _ w).alloc (Nat.le_refl _) _).drew).alloc (by simp) _, by omega, ?_⟩
    rw [foldTo_zero]
    have hr0 : RowB (w.alloc (.cells C 5 (C.size, C.size + 1))).drew w.heap.size s.data.toList := hrow
    exact hr0.below ((Below.refl (w.heap.size + 1) _).alloc (by simp) _) (by omega)
  case round =>
    clear hrow hconv hcap
    obtain ⟨pos, hit, hbw, hpl, hrow⟩ := hrel
    have hsz : w.heap.size + 1 < wr.heap.size := (Array.getElem?_eq_some_iff.1 hit).1
    by_cases hp : pos < s.size
    · have hnx : ∀ ty, (Instr.next (.pointer (some ⟨w.heap.size + 1, 0, none⟩)) true ty).run Tryd.prog wr = _ := fun ty => Lib.run_next_any_at wr (w.heap.size + 1) s pos ty hit hp
      have hwd := width_le s pos hp
      have hle := decode_le s pos
      have hit2 := Lib.iterAt_heap wr (w.heap.size + 1) s pos (pos + (Utf8.decode s pos).2) hit
      have hbw2 := Lib.below_iterAt hbw (k := w.heap.size + 1) (by omega) s (pos + (Utf8.decode s pos).2)
      have hrow2 := hrow.iterAt (k := w.heap.size + 1) (by omega) s (pos + (Utf8.decode s pos).2)
      by_cases hAZ : 65 ≤ (Utf8.decode s pos).1 ∧ (Utf8.decode s pos).1 ≤ 90
      · obtain ⟨h65, h90⟩ := hAZ
        have hlo : (s[pos]'hp).toNat < 128 := Nat.lt_of_not_le fun h => by have := (decode_high s pos hp h).1; omega
        have hd := decode_ascii s pos hp hlo
        rw [hd] at hnx hwd hle hit2 hbw2 hrow2 h65 h90
        simp only at hnx hwd hle hit2 hbw2 hrow2 h65 h90
        clear hd
        have hpj : pos < (foldTo s.data.toList pos).length := by rw [foldTo_length, hll]; exact hp
        obtain ⟨hc, hz⟩ := hrow2 pos hpj
        rw [foldTo_get, if_neg (by omega)] at hc
        have hby : s.data.toList[pos]'(by rw [hll]; exact hp) = s[pos]'hp := rfl
        rw [hby] at hc
        have hset := hrow2.set_ (l' := foldTo s.data.toList (pos + 1)) pos (foldB (s[pos]'hp)) (by rw [foldTo_length, foldTo_length]) hpj (by
          intro j hj
          rw [foldTo_get, foldTo_get]
          by_cases hji : j = pos
          · subst hji; rw [if_pos (by omega), if_pos rfl]; rfl
          · rw [if_neg hji]
            by_cases h1 : j < pos
            · rw [if_pos h1, if_pos (by omega)]
            · rw [if_neg h1, if_neg (by omega)])
        rw [foldB_of _ h65 h90] at hset
        have hbw3 := hbw2.setCell (p := ⟨w.heap.size, pos, none⟩) (Nat.le_refl _) (.int .u8 (((s[pos]'hp).toNat + 32 : Nat) : Int))
        have hit3 : ((wr.iterAt (w.heap.size + 1) s (pos + 1)).setCell ⟨w.heap.size, pos, none⟩ (.int .u8 (((s[pos]'hp).toNat + 32 : Nat) : Int))).heap[w.heap.size + 1]? = some (.stringIter s (pos + 1)) := by
          rw [Below.heap_setCell _ _ _ _ (by simp)]; exact hit2
        have HS := Lib.hid hset
        have HB := Lib.hid hbw3
        have HI := Lib.hid hit3
        clear hset hbw3 hit3 hrow2 hrow hby hpj hll
        generalize (s[pos]'hp).toNat = b at *
        go_wp2
        go_roundw
        case rel => exact ⟨pos + 1, HI.out, HB.out, by omega, HS.out⟩
        case measure =>
          have h := HI.out
          simp only [Int.natCast_add, Int.cast_ofNat_Int] at h
          simp only [World.iterPos, h, hit]
          omega
      · have hsame : foldTo s.data.toList (pos + (Utf8.decode s pos).2) = foldTo s.data.toList pos := by
          apply foldTo_same
          intro j hj h1 h2
          apply foldB_not
          by_cases hlo : (s[pos]'hp).toNat < 128
          · have hd := decode_ascii s pos hp hlo
            rw [hd] at h2 hAZ
            simp only at h2 hAZ
            have : j = pos := by omega
            subst this
            show (s[j]'hp).toNat < 65 ∨ 90 < (s[j]'hp).toNat
            omega
          · have := decode_bytes s pos hp (by omega) (j - pos) (by omega)
            rw [show pos + (j - pos) = j from by omega] at this
            have e : s.get! j = s.data.toList[j] := by
              have := get_at s j (by rw [hll] at hj; exact hj)
              exact this
            rw [e] at this
            omega
        have hrow3 : RowB (wr.iterAt (w.heap.size + 1) s (pos + (Utf8.decode s pos).2)) w.heap.size (foldTo s.data.toList (pos + (Utf8.decode s pos).2)) := by rw [hsame]; exact hrow2
        have HR := Lib.hid hrow3
        clear hrow3 hsame hrow2 hrow hll
        generalize hd : Utf8.decode s pos = d at *
        have Hd := Lib.hid hd; clear hd
        obtain ⟨r, wd⟩ := d
        simp only at hAZ
        rcases (show r < 65 ∨ (65 ≤ r ∧ 90 < r) from by omega) with h | ⟨h, h'⟩
        all_goals
          clear hAZ
          go_wp2
          go_roundw
          case rel => exact ⟨pos + wd, hit2, hbw2, by omega, HR.out⟩
          case measure => simp only [World.iterPos, hit2, hit]; omega
    · have hnx : ∀ ty, (Instr.next (.pointer (some ⟨w.heap.size + 1, 0, none⟩)) true ty).run Tryd.prog wr = _ := fun ty => Lib.run_next_end_at wr (w.heap.size + 1) s pos ty hit hp
      rw [foldTo_end _ _ (by rw [hll]; omega)] at hrow
      have hfl : (foldL s.data.toList).length = s.size := by unfold foldL; rw [List.length_map, hll]
      have hback := run_convert_bytes_back (P := Tryd.prog) wr 54 9 5 ⟨w.heap.size, 0, none⟩ cap (foldL s.data.toList) Tryd.underlying54 Tryd.underlying5 Tryd.underlying9 (fun j hj => by rw [addr_add]; exact (hrow j hj).1)
      rw [hfl] at hback
      clear hfl hll hrow
      go_wp2
      go_ret
      exact ⟨rfl, hbw⟩
end Go.Proofs.YtbbebnbofalmlaaDoor.Lx
