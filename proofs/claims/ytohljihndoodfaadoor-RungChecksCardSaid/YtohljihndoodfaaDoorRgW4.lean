/-
  Contracts of the checker's code and rung, of check and Check.
-/
import Derived.Test.YtohljihndoodfaaDoorRgW3
namespace Go.Proofs.YtohljihndoodfaaDoor.Rg
open Go.RowKit Lx Ep

theorem takesP_012 (op : Int) : 0 ≤ takesP op ∧ takesP op ≤ 2 := by
  unfold takesP
  have : op.toNat = 0 ∨ op.toNat = 1 ∨ op.toNat = 2 ∨ op.toNat = 3 ∨ op.toNat = 4 ∨ op.toNat = 5 ∨ op.toNat = 6 ∨ op.toNat = 7 ∨ op.toNat = 8 ∨ op.toNat = 9 ∨ 10 ≤ op.toNat := by omega
  rcases this with h | h | h | h | h | h | h | h | h | h | h
  all_goals first
    | (rw [h]; decide)
    | (rw [List.getD_eq_getElem?_getD, List.getElem?_eq_none (by simpa [operT9] using h)]; decide)
theorem codeGo_drop {bits : List Nm} {tag : Nm → Bool} {l : List In} {k : Nat} {d : Int} (h : k < l.length) : codeGo bits tag d (l.drop k) = if insP bits tag l[k] = 0 then (if d < takesP (l[k]).op then 1 else if 8 < d + (1 - takesP (l[k]).op) then 1 else codeGo bits tag (d + (1 - takesP (l[k]).op)) (l.drop (k + 1))) else insP bits tag l[k] := by
  rw [List.drop_eq_getElem_cons h, codeGo]

set_option maxHeartbeats 4000000 in
theorem code_any (l : List In) (A : Option Addr) (cap : Nat) (BA : Option Addr) (bits : List Nm) (bc : Nat) (ft : Nat) (bt : Array Value) (fp : Nat) (bp : Array Value) (tag : Nm → Bool) (w : World) (hT : Tabs w) (hC : Code w A l) (hK : Known w ft bt tag) (hB : Strs w BA bits) (hl : bits.length ≤ 1000000) (hll : l.length ≤ 1000) :
    Calls Tryd.prog 50 #[chkV BA bits.length bc ft bt fp bp, .slice A l.length cap] w (IntPost (codeGo bits tag 0 l) w) := by
  have HIn : Hid (∀ (i : In) wx, Below w.heap.size w wx → TrE wx i → Calls Tryd.prog 70 #[chkV BA bits.length bc ft bt fp bp, insV i] wx (IntPost (insP bits tag i) wx)) := fun i wx hb hE => instruction_any i BA bits bc ft bt fp bp tag wx (hT.below hb) hE (hK.below hb) (hB.below hb) hl
  have HT := Lib.hid hT
  have HC := Lib.hid hC
  have hG := hT.lt
  clear hT hC hK hB
  unfold chkV at *
  generalize hn : bits.length = n at *
  clear hn hl
  have HX : Hid (codeGo bits tag 0 (l.drop 0) = codeGo bits tag 0 l) := rfl
  generalize codeGo bits tag 0 l = X at *
  generalize hL : l.length = len at *
  have HL := Lib.hid hL
  clear hL
  have hx0 := Box.new w 73 #[.slice BA n bc, .func (.func ft) #[] bt, .func (.func fp) #[] bp]
  have hb0 := (Below.refl w.heap.size w).alloc (Nat.le_refl _) (.cells #[.slice BA n bc, .func (.func ft) #[] bt, .func (.func fp) #[] bp] 73)
  go_enter Tryd.func50, Tryd.ntmps50
  go_wp2
  have hs0 : w.heap.size < (w.alloc (.cells #[.slice BA n bc, .func (.func ft) #[] bt, .func (.func fp) #[] bp] 73)).heap.size := hx0.lt
  generalize w.alloc (.cells #[.slice BA n bc, .func (.func ft) #[] bt, .func (.func fp) #[] bp] 73) = w0 at *
  go_loopw [5, 12] (fun d i wr => ∃ (k : Nat) (z : Int), k ≤ len ∧ i = .int .i64 k ∧ d = .int .i64 z ∧ 0 ≤ z ∧ z ≤ 8 ∧ Hid (codeGo bits tag z (l.drop k) = X) ∧ Hid (Below w0.heap.size w0 wr)) (fun _ i _ => len - (intOf i).toNat)
  case atStart => exact ⟨0, 0, by omega, rfl, rfl, by omega, by omega, HX, Below.refl _ _⟩
  case round =>
    obtain ⟨k, z, hkl, rfl, rfl, hz0, hz8, HS, hbr⟩ := hrel
    have hwr : Hid (Below w.heap.size w wr) := hb0.trans (hbr.out.mono hb0.size)
    have kx := hx0.below hbr.out hs0
    by_cases hlt : k < len
    · have hki : k < l.length := by rw [HL.out]; exact hlt
      obtain ⟨g, off, rfl, hg, hE, c0, c1, c2, c3, c4, c5⟩ := Code.at6 (HC.out.below hwr.out) hki
      have HD := Lib.hid (codeGo_drop (bits := bits) (tag := tag) (d := z) hki)
      have HI := Lib.hid (HIn.out l[k])
      generalize l[k] = i at *
      have hklt : ((k : Nat) : Int) < (len : Int) := by omega
      have hx1 := Box.new wr 40 #[.int .i64 i.op, .string ⟨i.nm.toArray⟩, .int .i64 i.e.op, .int .i64 i.e.n, .string ⟨i.e.name.toArray⟩, .slice i.ea i.e.kids.length i.ec]
      have kx1 := kx.alloc (.cells #[.int .i64 i.op, .string ⟨i.nm.toArray⟩, .int .i64 i.e.op, .int .i64 i.e.n, .string ⟨i.e.name.toArray⟩, .slice i.ea i.e.kids.length i.ec] 40)
      have hwa : Below w.heap.size w (wr.alloc (.cells #[.int .i64 i.op, .string ⟨i.nm.toArray⟩, .int .i64 i.e.op, .int .i64 i.e.n, .string ⟨i.e.name.toArray⟩, .slice i.ea i.e.kids.length i.ec] 40)) := hwr.out.alloc hwr.out.size _
      have hIc := HI.out _ hwa (hE.below ((Below.refl _ wr).alloc (Nat.le_refl _) _))
      have hba := hbr.out.alloc hbr.out.size (.cells #[.int .i64 i.op, .string ⟨i.nm.toArray⟩, .int .i64 i.e.op, .int .i64 i.e.n, .string ⟨i.e.name.toArray⟩, .slice i.ea i.e.kids.length i.ec] 40)
      unfold insV at hIc
      have p0 := kx1.cell 0
      have p1 := kx1.cell 1
      have p2 := kx1.cell 2
      simp at p0 p1 p2
      have hqr : w.heap.size < wr.heap.size := Nat.lt_of_lt_of_le hs0 hbr.out.size
      generalize hm : i.e.kids.length = m at *
      clear hE HI hm
      have HOp : Hid (insP bits tag i = 0 → 0 ≤ i.op ∧ i.op < 10) := fun h => formed_op (insP_formed h)
      go_wp2_with fail
      refine hIc.mono ?_
      rintro e w2 ⟨rfl, hb2⟩
      have hx2 := hx1.below hb2 (by simp)
      have kx2 := kx1.below hb2 kx1.lt
      have hb2' := hba.trans (hb2.mono hba.size)
      have hw2 := hwa.trans (hb2.mono hwa.size)
      clear hIc hx1 kx1 p0 p1 p2 c0 c1 c2 c3 c4 c5 hba hwa hb2
      by_cases hi0 : insP bits tag i = 0
      · have hop := HOp.out hi0
        obtain ⟨o, ho⟩ := Int.eq_ofNat_of_zero_le hop.1
        have ho10 : o < 10 := by omega
        have HDz : Hid (codeGo bits tag z (l.drop k) = if z < takesP (o : Int) then 1 else if 8 < z + (1 - takesP (o : Int)) then 1 else codeGo bits tag (z + (1 - takesP (o : Int))) (l.drop (k + 1))) := by unfold Hid; rw [HD.out, if_pos hi0, ho]
        have HT2 := HT.out.below hw2
        have t0 := HT2.u o ho10
        have t1 := HT2.t o ho10
        have t2 := HT2.p o ho10
        have tb := takesP_012 (o : Int)
        have hG2 := HT2.lt
        rw [hi0]
        rw [ho] at hx2
        have x0 := hx2.cell 0
        simp at x0
        have ho3 : ((o : Nat) : Int) < 10 := by omega
        clear HD HOp hi0 hop HT2
        generalize takesP (o : Int) = tk at *
        generalize usesP (o : Int) = us at *
        by_cases h1 : z < tk
        · have HXz : Hid (X = 1) := by unfold Hid; rw [← HS.out, HDz.out, if_pos h1]
          clear HDz HS HIn
          go_wp2
          all_goals first | (exfalso; omega) | skip
          go_ret
          exact ⟨ret_int HXz.out.symm, hw2.alloc hw2.size _⟩
        · by_cases h2 : 8 < z + (1 - tk)
          · have HXz : Hid (X = 1) := by unfold Hid; rw [← HS.out, HDz.out, if_neg h1, if_pos h2]
            clear HDz HS HIn
            go_wp2
            all_goals first | (exfalso; omega) | skip
            go_ret
            exact ⟨ret_int HXz.out.symm, hw2.alloc hw2.size _⟩
          · have HXz : Hid (codeGo bits tag (z + (1 - tk)) (l.drop (k + 1)) = X) := by unfold Hid; rw [← HS.out, HDz.out, if_neg h1, if_neg h2]
            clear HDz HS HIn
            go_wp2
            all_goals first | (exfalso; omega) | skip
            go_roundw
            case rel => exact ⟨k + 1, z + (1 - tk), by omega, by go_num, by go_num, by omega, by omega, HXz, hb2'.alloc hb2'.size _⟩
            case measure => simp [intOf]; omega
      · have HXz : Hid (X = insP bits tag i) := by unfold Hid; rw [← HS.out, HD.out, if_neg hi0]
        have b0 : (insP bits tag i != 0) = true := by simpa using hi0
        clear HD HS HIn HOp hi0
        generalize insP bits tag i = y at *
        go_wp2
        go_ret
        exact ⟨ret_int HXz.out.symm, hw2⟩
    · have HXz : Hid (X = if z = 1 then 0 else 1) := by
        unfold Hid; rw [← HS.out, List.drop_eq_nil_of_le (by rw [HL.out]; omega), codeGo]
      clear HS HIn kx hx0
      by_cases h1 : z = 1
      · rw [if_pos h1] at HXz
        have b1 : (z != 1) = false := by simpa using h1
        clear h1
        go_wp2
        go_ret
        exact ⟨ret_int HXz.out.symm, hwr.out⟩
      · rw [if_neg h1] at HXz
        have b1 : (z != 1) = true := by simpa using h1
        clear h1
        go_wp2
        go_ret
        exact ⟨ret_int HXz.out.symm, hwr.out⟩
end Go.Proofs.YtohljihndoodfaaDoor.Rg
