/-
  Contracts of check, among and Check.
-/
import Derived.Test.YtohljihndoodfaaDoorRgW5
import Derived.Laws.EntriesVeiled
namespace Go.Proofs.YtohljihndoodfaaDoor.Rg
open Go.RowKit Lx Ep

theorem first_drop {f : Ru → Int} {l : List Ru} {k : Nat} (h : k < l.length) : firstE f (l.drop k) = if f l[k] = 0 then firstE f (l.drop (k + 1)) else f l[k] := by
  rw [List.drop_eq_getElem_cons h, firstE]
theorem checkP_12 {l : List Ru} {tag phase : Nm → Bool} (h : 12 < l.length) : checkP l tag phase = 2 := by unfold checkP; rw [if_pos h]

set_option maxRecDepth 100000 in
set_option maxHeartbeats 4000000 in
theorem check_any (l : List Ru) (A : Option Addr) (cap : Nat) (ft : Nat) (bt : Array Value) (fp : Nat) (bp : Array Value) (tag phase : Nm → Bool) (w : World) (hT : Tabs w) (hR : Rungs w A l) (hK : Known w ft bt tag) (hP : Known w fp bp phase) (hx : ∀ r ∈ l, r.nm.length ≤ maxLen) :
    Calls Tryd.prog 26 #[.slice A l.length cap, .func (.func ft) #[] bt, .func (.func fp) #[] bp] w (IntPost (checkP l tag phase) w) := by
  by_cases h12 : 12 < l.length
  · rw [checkP_12 h12]
    generalize l.length = len at *
    go_enter Tryd.func26, Tryd.ntmps26
    go_wp2
    all_goals first | (exfalso; omega) | skip
    go_ret
    exact ⟨rfl, Below.refl _ _⟩
  have hBi := Bits_any l A cap w hR (by omega) hx
  have HX : Hid (firstE (rungP (bitsP l) tag phase) (l.drop 0) = checkP l tag phase) := by
    unfold Hid checkP
    rw [if_neg h12]
    rfl
  have hbl := bitsP_len l
  have HRu : Hid (∀ (r : Ru) (BA : Option Addr) (bc : Nat) wx, Below w.heap.size w wx → Code wx r.ca r.code → Strs wx BA (bitsP l) → Calls Tryd.prog 35 #[chkV BA (bitsP l).length bc ft bt fp bp, ruV r] wx (IntPost (rungP (bitsP l) tag phase r) wx)) := fun r BA bc wx hb hC hS => rung_any r BA (bitsP l) bc ft bt fp bp tag phase wx (hT.below hb) hC (hK.below hb) (hP.below hb) hS (by omega)
  have HR := Lib.hid hR
  clear hR hK hP hx hT
  unfold chkV ruV at *
  generalize checkP l tag phase = X at *
  generalize hL : l.length = len at *
  have HL := Lib.hid hL
  clear hL
  generalize hf : rungP (bitsP l) tag phase = f at *
  generalize hB : bitsP l = B at *
  generalize hn : B.length = n at *
  have HN := Lib.hid hn
  clear hn hf hB
  go_enter Tryd.func26, Tryd.ntmps26
  go_wp2_with fail
  refine hBi.mono ?_
  rintro e w1 ⟨A1, c1, hv, hrow, hb1⟩
  rw [HN.out] at hv
  subst hv
  have HS1 := Lib.hid hrow.strs
  have hx0 := Box.new w1 73 #[.slice A1 n c1, .func (.func ft) #[] bt, .func (.func fp) #[] bp]
  have hb0 := hb1.alloc hb1.size (.cells #[.slice A1 n c1, .func (.func ft) #[] bt, .func (.func fp) #[] bp] 73)
  have hs0 : w1.heap.size < (w1.alloc (.cells #[.slice A1 n c1, .func (.func ft) #[] bt, .func (.func fp) #[] bp] 73)).heap.size := hx0.lt
  have HS0 : Hid (Strs (w1.alloc (.cells #[.slice A1 n c1, .func (.func ft) #[] bt, .func (.func fp) #[] bp] 73)) A1 B) := RowF.alloc HS1.out _
  clear hrow hb1 HS1 hBi
  go_wp2
  all_goals first | (exfalso; omega) | skip
  generalize hw0 : w1.alloc (.cells #[.slice A1 n c1, .func (.func ft) #[] bt, .func (.func fp) #[] bp] 73) = w0 at *
  clear hw0
  go_loopw [21] (fun i wr => ∃ (k : Nat), k ≤ len ∧ i = .int .i64 k ∧ Hid (firstE f (l.drop k) = X) ∧ Hid (Below w0.heap.size w0 wr)) (fun i _ => len - (intOf i).toNat)
  case atStart => exact ⟨0, by omega, rfl, HX, Below.refl _ _⟩
  case round =>
    obtain ⟨k, hkl, rfl, HS, hbr⟩ := hrel
    have hwr : Hid (Below w.heap.size w wr) := hb0.trans (hbr.out.mono hb0.size)
    have kx := hx0.below hbr.out hs0
    by_cases hlt : k < len
    · have hki : k < l.length := by rw [HL.out]; exact hlt
      obtain ⟨g, off, rfl, hg, hC, c0, c1', c2⟩ := Rungs.at3 (HR.out.below hwr.out) hki
      have HD := Lib.hid (first_drop (f := f) hki)
      have HI := Lib.hid (HRu.out l[k])
      generalize l[k] = r at *
      have hklt : ((k : Nat) : Int) < (len : Int) := by omega
      have kx1 := kx.alloc (.cells #[.int .i64 r.kd, .string ⟨r.nm.toArray⟩, .slice r.ca r.code.length r.cc] 43)
      have hwa : Below w.heap.size w (wr.alloc (.cells #[.int .i64 r.kd, .string ⟨r.nm.toArray⟩, .slice r.ca r.code.length r.cc] 43)) := hwr.out.alloc hwr.out.size _
      have hba := hbr.out.alloc hbr.out.size (.cells #[.int .i64 r.kd, .string ⟨r.nm.toArray⟩, .slice r.ca r.code.length r.cc] 43)
      have hIc := HI.out A1 c1 _ hwa (hC.below ((Below.refl _ wr).alloc (Nat.le_refl _) _)) ((HS0.out.below hbr.out).alloc _)
      have p0 := kx1.cell 0
      have p1 := kx1.cell 1
      have p2 := kx1.cell 2
      simp at p0 p1 p2
      have hqr : w1.heap.size < wr.heap.size := Nat.lt_of_lt_of_le hs0 hbr.out.size
      generalize hm : r.code.length = m at *
      clear hC HI hm kx1
      go_wp2_with fail
      refine hIc.mono ?_
      rintro e w2 ⟨rfl, hb2⟩
      have hb2' := hba.trans (hb2.mono hba.size)
      have hw2 := hwa.trans (hb2.mono hwa.size)
      clear hIc p0 p1 p2 c0 c1' c2 hba hwa hb2
      by_cases hi0 : f r = 0
      · have HXz : Hid (firstE f (l.drop (k + 1)) = X) := by unfold Hid; rw [← HS.out, HD.out, if_pos hi0]
        rw [hi0]
        clear HD HS HRu hi0
        go_wp2
        go_roundw
        case rel => exact ⟨k + 1, hlt, by go_num, HXz, hb2'⟩
        case measure => simp [intOf]; omega
      · have HXz : Hid (X = f r) := by unfold Hid; rw [← HS.out, HD.out, if_neg hi0]
        have b0 : (f r != 0) = true := by simpa using hi0
        clear HD HS HRu hi0
        generalize f r = y at *
        go_wp2
        go_ret
        exact ⟨ret_int HXz.out.symm, hw2⟩
    · have HXz : Hid (X = 0) := by
        unfold Hid; rw [← HS.out, List.drop_eq_nil_of_le (by rw [HL.out]; omega), firstE]
      clear HS HRu kx hx0
      go_wp2
      go_ret
      exact ⟨ret_int HXz.out.symm, hwr.out⟩

def AmPost (A : Option Addr) (n c : Nat) (w : World) (o : Ending) (w' : World) : Prop :=
  ∃ p, o = .returned (.func (.func 36) #[] #[.pointer (some ⟨p, 0, none⟩)]) ∧ Box w' p 23 #[.slice A n c] ∧ Below w.heap.size w w'
theorem among_mk (A : Option Addr) (n c : Nat) (w : World) : Calls Tryd.prog 27 #[.slice A n c] w (AmPost A n c w) := by
  have hx := Box.new w 23 #[.slice A n c]
  go_enter Tryd.func27, Tryd.ntmps27
  go_wp2
  go_ret
  exact ⟨_, rfl, hx, (Below.refl _ _).alloc (Nat.le_refl _) _⟩

set_option maxRecDepth 100000 in
set_option maxHeartbeats 4000000 in
theorem Check_any (l : List Ru) (A : Option Addr) (cap : Nat) (T P : List Nm) (TA PA : Option Addr) (tc pc : Nat) (w : World) (hT : Tabs w) (hR : Rungs w A l) (hTs : Strs w TA T) (hPs : Strs w PA P) (hTl : T.length ≤ 1000000) (hPl : P.length ≤ 1000000) (hx : ∀ r ∈ l, r.nm.length ≤ maxLen) :
    Calls Tryd.prog 14 #[.slice A l.length cap, .slice TA T.length tc, .slice PA P.length pc] w (IntPost (checkP l (fun x => decide (x ∈ T)) (fun x => decide (x ∈ P))) w) := by
  have HC : Hid (∀ p q wx, Below w.heap.size w wx → Box wx p 23 #[.slice TA T.length tc] → Box wx q 23 #[.slice PA P.length pc] → Calls Tryd.prog 26 #[.slice A l.length cap, .func (.func 36) #[] #[.pointer (some ⟨p, 0, none⟩)], .func (.func 36) #[] #[.pointer (some ⟨q, 0, none⟩)]] wx (IntPost (checkP l (fun x => decide (x ∈ T)) (fun x => decide (x ∈ P))) wx)) := fun p q wx hb h1 h2 =>
    check_any l A cap _ _ _ _ _ _ wx (hT.below hb) (hR.below hb) (.inr ⟨rfl, p, TA, tc, T, rfl, h1, hTs.below hb, hTl, rfl⟩) (.inr ⟨rfl, q, PA, pc, P, rfl, h2, hPs.below hb, hPl, rfl⟩) hx
  clear hT hR hTs hPs hTl hPl hx
  generalize checkP l (fun x => decide (x ∈ T)) (fun x => decide (x ∈ P)) = X at *
  generalize l.length = len at *
  generalize T.length = tn at *
  generalize P.length = pn at *
  go_enter Tryd.func14, Tryd.ntmps14
  go_wp2_with fail
  refine (among_mk TA tn tc w).mono ?_
  rintro e w1 ⟨p, rfl, hp, hb1⟩
  go_wp2_with fail
  refine (among_mk PA pn pc w1).mono ?_
  rintro e w2 ⟨q, rfl, hq, hb2⟩
  have hB2 := hb1.trans (hb2.mono hb1.size)
  have hp2 := hp.below hb2 hp.lt
  go_wp2_with fail
  refine (HC.out p q w2 hB2 hp2 hq).mono ?_
  rintro e w3 ⟨rfl, hb3⟩
  go_wp2
  go_ret
  exact ⟨rfl, hB2.trans (hb3.mono hB2.size)⟩
end Go.Proofs.YtohljihndoodfaaDoor.Rg
