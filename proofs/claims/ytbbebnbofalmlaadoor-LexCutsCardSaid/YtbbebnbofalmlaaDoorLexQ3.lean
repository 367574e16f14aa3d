/-
  The contract of the document's own token.
-/
import Derived.Test.YtbbebnbofalmlaaDoorLexQ2
import Derived.Test.YtbbebnbofalmlaaDoorLexR2
namespace Go.Proofs.YtbbebnbofalmlaaDoor.Lx
open Go.RowKit

def zE (e : Int) : Ending := .returned (.tuple #[.agg #[.int .i64 0, .string ⟨#[]⟩, .int .i64 0, .int .i64 0], .int .i64 0, .int .i64 e])
def tE (k : Int) (str : ByteArray) (n : Int) (i z : Nat) : Ending := .returned (.tuple #[.agg #[.int .i64 k, .string str, .int .i64 n, .int .i64 i], .int .i64 z, .int .i64 0])
def wdR (R : List Nat) (i : Nat) : Nat := ((R.drop i).takeWhile fun (r : Nat) => isWI (r : Int)).length
theorem wdR_le (R : List Nat) (i : Nat) (hi : i ≤ R.length) : i + wdR R i ≤ R.length := by
  have := (List.takeWhile_sublist (fun (r : Nat) => isWI (r : Int)) (l := R.drop i)).length_le
  rw [List.length_drop] at this
  unfold wdR
  omega
def ext (s : ByteArray) (P : List Nat) (i k : Nat) : ByteArray := s.extract (P.getD i 0) (P.getD k 0)
def two5 (str : ByteArray) : Prop := str.toList = [60, 61] ∨ str.toList = [62, 61] ∨ str.toList = [61, 61] ∨ str.toList = [33, 61] ∨ str.toList = [58, 61]


set_option maxRecDepth 100000 in
set_option maxHeartbeats 8000000 in
theorem token_2 (s : ByteArray) (A1 A2 : Option Addr) (R P : List Nat) (c1 c2 i : Nat) (w : World) (hss : s.size ≤ 20000) (hR : R.length ≤ 20000) (hi : i < R.length) (hrd : Rd w A1 R) (hrp : Rd w A2 P) (hpl : Places s R P) (h2 : clsI ((R.getD i 0 : Nat) : Int) = 2) (X : Ending) (HX : Hid (X = (if 12 < wdR R i then zE 2 else tE 1 (ext s P i (i + wdR R i)) 0 i (i + wdR R i)))) :
    Calls Tryd.prog 32 #[.agg #[.string s, .slice A1 R.length c1, .slice A2 P.length c2], .int .i64 i] w fun e w' => e = X ∧ Below w.heap.size w w' := by
  obtain ⟨g, rfl, hgl, hcell⟩ := hrd i hi
  have hbf : Below w.heap.size w ((w.alloc (.cells #[.string s, .slice (some ⟨g, 0, none⟩) R.length c1, .slice A2 P.length c2] 47)).alloc (.cells #[.int .i64 0, .string ⟨#[]⟩, .int .i64 0, .int .i64 0] 42)) := ((Below.refl _ w).alloc (Nat.le_refl _) _).alloc (by simp) _
  have hx0 : Box ((w.alloc (.cells #[.string s, .slice (some ⟨g, 0, none⟩) R.length c1, .slice A2 P.length c2] 47)).alloc (.cells #[.int .i64 0, .string ⟨#[]⟩, .int .i64 0, .int .i64 0] 42)) w.heap.size 47 #[.string s, .slice (some ⟨g, 0, none⟩) R.length c1, .slice A2 P.length c2] := (Box.new w _ _).alloc _
  have hx1 : Box ((w.alloc (.cells #[.string s, .slice (some ⟨g, 0, none⟩) R.length c1, .slice A2 P.length c2] 47)).alloc (.cells #[.int .i64 0, .string ⟨#[]⟩, .int .i64 0, .int .i64 0] 42)) (w.heap.size + 1) 42 #[.int .i64 0, .string ⟨#[]⟩, .int .i64 0, .int .i64 0] := by
    have := Box.new (w.alloc (.cells #[.string s, .slice (some ⟨g, 0, none⟩) R.length c1, .slice A2 P.length c2] 47)) 42 #[.int .i64 0, .string ⟨#[]⟩, .int .i64 0, .int .i64 0]
    simpa using this
  have HR0 := Lib.hid (hrd.below hbf)
  have HP0 := Lib.hid (hrp.below hbf)
  have HPl := Lib.hid hpl
  clear hrd hrp hcell hpl
  go_enter Tryd.func32, Tryd.ntmps32
  go_wp2_with fail
  generalize ((w.alloc (.cells #[.string s, .slice (some ⟨g, 0, none⟩) R.length c1, .slice A2 P.length c2] 47)).alloc (.cells #[.int .i64 0, .string ⟨#[]⟩, .int .i64 0, .int .i64 0] 42)) = W0 at *
  have hm := wdR_le R i (Nat.le_of_lt hi)
  with_reducible refine (word_ref s (some ⟨g, 0, none⟩) A2 R c1 P.length c2 i W0 hR (Nat.le_of_lt hi) HR0.out).mono ?_
  rintro e w1 ⟨rfl, hb1⟩
  have hx0b := hx0.below hb1 (Array.getElem?_eq_some_iff.1 hx0).1
  obtain ⟨p0, p1, p2, _, _, _⟩ := hx0b.three
  have hx1b := hx1.below hb1 (Array.getElem?_eq_some_iff.1 hx1).1
  have hbf1 := hbf.trans (hb1.mono hbf.size)
  have HR1 := Lib.hid (HR0.out.below hb1)
  have HP1 := Lib.hid (HP0.out.below hb1)
  clear HR0 HP0 hbf hb1 hx0 hx1
  obtain ⟨q0, q1, q2, q3, f0, f1, f2, f3⟩ := hx1b.four
  obtain ⟨g', eg, _, hcell⟩ := HR1.out i hi
  injection eg with eg
  injection eg with eg
  subst eg
  have hc := hcell i hi
  have HC := Lib.hid hcell
  clear hcell
  have hx1 := hx1b
  generalize hmm : ((R.drop i).takeWhile fun (r : Nat) => isWI (r : Int)).length = m
  have hm' : i + m ≤ R.length := by rw [← hmm]; exact hm
  have HM : Hid (wdR R i = m) := hmm
  clear hmm hm
  generalize hrr : R.getD i 0 = r at *
  have HRR := Lib.hid hrr
  clear hrr
  have b2 : (clsI (r : Int) == 2) = true := beq_iff_eq.2 h2
  clear h2
  by_cases h12 : 12 < m
  · have HF : Hid (X = zE 2) := by unfold Hid; rw [HX.out, HM.out, if_pos h12]
    go_wp2_with (go_at_call 17; refine (refClass_any _ _).mono ?_; rintro e w' ⟨rfl, rfl⟩)
    refine bodyPost_ret (v := .tuple #[.agg #[.int .i64 0, .string ⟨#[]⟩, .int .i64 0, .int .i64 0], .int .i64 0, .int .i64 2]) (by simp [results, Tryd.results32, go_sem, q0, q1, q2, q3]) rfl ⟨HF.out.symm, below_set4 hbf1 (by omega) _ _ _ _⟩
  · have HF : Hid (X = tE 1 (s.extract (P.getD i 0) (P.getD (i + m) 0)) 0 i (i + m)) := by unfold Hid; rw [HX.out, HM.out, if_neg h12]; rfl
    have hk1 : i < P.length ∧ (i + m) < P.length ∧ P.length ≤ 20001 := by have := HPl.out.len; omega
    have hm1 := HPl.out.mono i ((i + m)) (by omega) (by omega)
    have hm2 := HPl.out.le ((i + m)) (by omega)
    go_wp2_with (go_at_call 17; refine (refClass_any _ _).mono ?_; rintro e w' ⟨rfl, rfl⟩)
    with_reducible refine (part_at s (some ⟨g, 0, none⟩) A2 P R.length c1 c2 i (i + m) (i : Int) ((i : Int) + m) w1 rfl (by omega) hk1.1 hk1.2.1 hm1 hm2 hss hk1.2.2 HP1.out).mono ?_
    rintro e w2 ⟨rfl, hb2⟩
    have hx2 := hx1.below hb2 (Array.getElem?_eq_some_iff.1 hx1).1
    have hbf2 := hbf1.trans (hb2.mono hbf1.size)
    clear q0 q1 q2 q3 f0 f1 f2 f3
    obtain ⟨q0, q1, q2, q3, f0, f1, f2, f3⟩ := hx2.four
    generalize s.extract (P.getD i 0) (P.getD (i + m) 0) = str at *
    go_wp2_with fail
    refine bodyPost_ret (v := .tuple #[.agg #[.int .i64 1, .string str, .int .i64 0, .int .i64 i], .int .i64 ((i : Int) + m), .int .i64 0]) (by simp [results, Tryd.results32, go_sem, q0, q1, q2, q3]) rfl ⟨by rw [HF.out]; unfold tE; simp, below_set4 hbf2 (by omega) _ _ _ _⟩

set_option maxRecDepth 100000 in
set_option maxHeartbeats 8000000 in
theorem token_3 (s : ByteArray) (A1 A2 : Option Addr) (R P : List Nat) (c1 c2 i : Nat) (w : World) (hss : s.size ≤ 20000) (hR : R.length ≤ 20000) (hi : i < R.length) (hrd : Rd w A1 R) (hrp : Rd w A2 P) (hpl : Places s R P) (h2 : clsI ((R.getD i 0 : Nat) : Int) = 3) (X : Ending) (HX : Hid (X = (match numberL (ext s P i (i + wdR R i)).data.toList with | none => zE 11 | some n => tE 2 (ext s P i (i + wdR R i)) n i (i + wdR R i)))) :
    Calls Tryd.prog 32 #[.agg #[.string s, .slice A1 R.length c1, .slice A2 P.length c2], .int .i64 i] w fun e w' => e = X ∧ Below w.heap.size w w' := by
  obtain ⟨g, rfl, hgl, hcell⟩ := hrd i hi
  have hbf : Below w.heap.size w ((w.alloc (.cells #[.string s, .slice (some ⟨g, 0, none⟩) R.length c1, .slice A2 P.length c2] 47)).alloc (.cells #[.int .i64 0, .string ⟨#[]⟩, .int .i64 0, .int .i64 0] 42)) := ((Below.refl _ w).alloc (Nat.le_refl _) _).alloc (by simp) _
  have hx0 : Box ((w.alloc (.cells #[.string s, .slice (some ⟨g, 0, none⟩) R.length c1, .slice A2 P.length c2] 47)).alloc (.cells #[.int .i64 0, .string ⟨#[]⟩, .int .i64 0, .int .i64 0] 42)) w.heap.size 47 #[.string s, .slice (some ⟨g, 0, none⟩) R.length c1, .slice A2 P.length c2] := (Box.new w _ _).alloc _
  have hx1 : Box ((w.alloc (.cells #[.string s, .slice (some ⟨g, 0, none⟩) R.length c1, .slice A2 P.length c2] 47)).alloc (.cells #[.int .i64 0, .string ⟨#[]⟩, .int .i64 0, .int .i64 0] 42)) (w.heap.size + 1) 42 #[.int .i64 0, .string ⟨#[]⟩, .int .i64 0, .int .i64 0] := by
    have := Box.new (w.alloc (.cells #[.string s, .slice (some ⟨g, 0, none⟩) R.length c1, .slice A2 P.length c2] 47)) 42 #[.int .i64 0, .string ⟨#[]⟩, .int .i64 0, .int .i64 0]
    simpa using this
  have HR0 := Lib.hid (hrd.below hbf)
  have HP0 := Lib.hid (hrp.below hbf)
  have HPl := Lib.hid hpl
  clear hrd hrp hcell hpl
  go_enter Tryd.func32, Tryd.ntmps32
  go_wp2_with fail
  generalize ((w.alloc (.cells #[.string s, .slice (some ⟨g, 0, none⟩) R.length c1, .slice A2 P.length c2] 47)).alloc (.cells #[.int .i64 0, .string ⟨#[]⟩, .int .i64 0, .int .i64 0] 42)) = W0 at *
  have hm := wdR_le R i (Nat.le_of_lt hi)
  with_reducible refine (word_ref s (some ⟨g, 0, none⟩) A2 R c1 P.length c2 i W0 hR (Nat.le_of_lt hi) HR0.out).mono ?_
  rintro e w1 ⟨rfl, hb1⟩
  have hx0b := hx0.below hb1 (Array.getElem?_eq_some_iff.1 hx0).1
  obtain ⟨p0, p1, p2, _, _, _⟩ := hx0b.three
  have hx1b := hx1.below hb1 (Array.getElem?_eq_some_iff.1 hx1).1
  have hbf1 := hbf.trans (hb1.mono hbf.size)
  have HR1 := Lib.hid (HR0.out.below hb1)
  have HP1 := Lib.hid (HP0.out.below hb1)
  clear HR0 HP0 hbf hb1 hx0 hx1
  obtain ⟨q0, q1, q2, q3, f0, f1, f2, f3⟩ := hx1b.four
  obtain ⟨g', eg, _, hcell⟩ := HR1.out i hi
  injection eg with eg
  injection eg with eg
  subst eg
  have hc := hcell i hi
  have HC := Lib.hid hcell
  clear hcell
  have hx1 := hx1b
  generalize hmm : ((R.drop i).takeWhile fun (r : Nat) => isWI (r : Int)).length = m
  have hm' : i + m ≤ R.length := by rw [← hmm]; exact hm
  have HM : Hid (wdR R i = m) := hmm
  clear hmm hm
  generalize hrr : R.getD i 0 = r at *
  have HRR := Lib.hid hrr
  clear hrr
  have b2 : (clsI (r : Int) == 2) = false := beq_eq_false_iff_ne.2 (by omega)
  have b3 : (clsI (r : Int) == 3) = true := beq_iff_eq.2 h2
  clear h2
  have hk1 : i < P.length ∧ (i + m) < P.length ∧ P.length ≤ 20001 := by have := HPl.out.len; omega
  have hm1 := HPl.out.mono i ((i + m)) (by omega) (by omega)
  have hm2 := HPl.out.le ((i + m)) (by omega)
  have hstr : (s.extract (P.getD i 0) (P.getD (i + m) 0)).size ≤ 20000 := by rw [ByteArray.size_extract]; omega
  have HPo : Hid (X = match numberL (s.extract (P.getD i 0) (P.getD (i + m) 0)).data.toList with | none => zE 11 | some n => tE 2 (s.extract (P.getD i 0) (P.getD (i + m) 0)) n i (i + m)) := by unfold Hid; rw [HX.out, HM.out]; rfl
  go_wp2_with (go_at_call 17; refine (refClass_any _ _).mono ?_; rintro e w' ⟨rfl, rfl⟩)
  with_reducible refine (part_at s (some ⟨g, 0, none⟩) A2 P R.length c1 c2 i (i + m) (i : Int) ((i : Int) + m) w1 rfl (by omega) hk1.1 hk1.2.1 hm1 hm2 hss hk1.2.2 HP1.out).mono ?_
  rintro e w2 ⟨rfl, hb2⟩
  have hx2 := hx1.below hb2 (Array.getElem?_eq_some_iff.1 hx1).1
  have hbf2 := hbf1.trans (hb2.mono hbf1.size)
  clear q0 q1 q2 q3 f0 f1 f2 f3
  obtain ⟨q0, q1, q2, q3, f0, f1, f2, f3⟩ := hx2.four
  have HP2 := Lib.hid (HP1.out.below hb2)
  obtain ⟨p0', p1', p2', _, _, _⟩ := (hx0b.below hb2 (Array.getElem?_eq_some_iff.1 hx0b).1).three
  clear p0 p1 p2
  generalize hstr' : s.extract (P.getD i 0) (P.getD (i + m) 0) = str at *
  have HST := Lib.hid hstr'
  clear hstr'
  go_wp2_with fail
  refine (refNumber_any str _ (by omega)).mono ?_
  rintro e w' ⟨he, rfl⟩
  rcases hn : numberL str.data.toList with _ | n
  · have HF : Hid (X = zE 11) := by unfold Hid; rw [HPo.out, hn]
    rw [hn] at he
    simp only [numE] at he
    subst he
    clear hn
    go_wp2_with fail
    refine bodyPost_ret (v := .tuple #[.agg #[.int .i64 0, .string ⟨#[]⟩, .int .i64 0, .int .i64 0], .int .i64 0, .int .i64 11]) (by simp [results, Tryd.results32, go_sem, q0, q1, q2, q3]) rfl ⟨HF.out.symm, below_set4 hbf2 (by omega) _ _ _ _⟩
  · have HF : Hid (X = tE 2 str n i (i + m)) := by unfold Hid; rw [HPo.out, hn]
    rw [hn] at he
    simp only [numE] at he
    subst he
    clear hn
    go_wp2_with fail
    with_reducible refine (part_at s (some ⟨g, 0, none⟩) A2 P R.length c1 c2 i (i + m) (i : Int) ((i : Int) + m) w2 rfl (by omega) hk1.1 hk1.2.1 hm1 hm2 hss hk1.2.2 HP2.out).mono ?_
    rintro e w3 ⟨rfl, hb3⟩
    rw [HST.out]
    have hx3 := hx2.below hb3 (Array.getElem?_eq_some_iff.1 hx2).1
    have hbf3 := hbf2.trans (hb3.mono hbf2.size)
    clear q0 q1 q2 q3 f0 f1 f2 f3
    obtain ⟨q0, q1, q2, q3, f0, f1, f2, f3⟩ := hx3.four
    go_wp2_with fail
    refine bodyPost_ret (v := .tuple #[.agg #[.int .i64 2, .string str, .int .i64 n, .int .i64 i], .int .i64 ((i : Int) + m), .int .i64 0]) (by simp [results, Tryd.results32, go_sem, q0, q1, q2, q3]) rfl ⟨by rw [HF.out]; unfold tE; simp, below_set4 hbf3 (by omega) _ _ _ _⟩

set_option maxRecDepth 100000 in
set_option maxHeartbeats 8000000 in
theorem token_5 (s : ByteArray) (A1 A2 : Option Addr) (R P : List Nat) (c1 c2 i : Nat) (w : World) (hss : s.size ≤ 20000) (hR : R.length ≤ 20000) (hi : i < R.length) (hrd : Rd w A1 R) (hrp : Rd w A2 P) (hpl : Places s R P) (h2 : clsI ((R.getD i 0 : Nat) : Int) = 5) :
    Calls Tryd.prog 32 #[.agg #[.string s, .slice A1 R.length c1, .slice A2 P.length c2], .int .i64 i] w fun e w' => e = quoE s R P i ∧ Below w.heap.size w w' := by
  obtain ⟨g, rfl, hgl, hcell⟩ := hrd i hi
  have hbf : Below w.heap.size w ((w.alloc (.cells #[.string s, .slice (some ⟨g, 0, none⟩) R.length c1, .slice A2 P.length c2] 47)).alloc (.cells #[.int .i64 0, .string ⟨#[]⟩, .int .i64 0, .int .i64 0] 42)) := ((Below.refl _ w).alloc (Nat.le_refl _) _).alloc (by simp) _
  have hx0 : Box ((w.alloc (.cells #[.string s, .slice (some ⟨g, 0, none⟩) R.length c1, .slice A2 P.length c2] 47)).alloc (.cells #[.int .i64 0, .string ⟨#[]⟩, .int .i64 0, .int .i64 0] 42)) w.heap.size 47 #[.string s, .slice (some ⟨g, 0, none⟩) R.length c1, .slice A2 P.length c2] := (Box.new w _ _).alloc _
  have hx1 : Box ((w.alloc (.cells #[.string s, .slice (some ⟨g, 0, none⟩) R.length c1, .slice A2 P.length c2] 47)).alloc (.cells #[.int .i64 0, .string ⟨#[]⟩, .int .i64 0, .int .i64 0] 42)) (w.heap.size + 1) 42 #[.int .i64 0, .string ⟨#[]⟩, .int .i64 0, .int .i64 0] := by
    have := Box.new (w.alloc (.cells #[.string s, .slice (some ⟨g, 0, none⟩) R.length c1, .slice A2 P.length c2] 47)) 42 #[.int .i64 0, .string ⟨#[]⟩, .int .i64 0, .int .i64 0]
    simpa using this
  have HR0 := Lib.hid (hrd.below hbf)
  have HP0 := Lib.hid (hrp.below hbf)
  have HPl := Lib.hid hpl
  clear hrd hrp hcell hpl
  go_enter Tryd.func32, Tryd.ntmps32
  go_wp2_with fail
  generalize ((w.alloc (.cells #[.string s, .slice (some ⟨g, 0, none⟩) R.length c1, .slice A2 P.length c2] 47)).alloc (.cells #[.int .i64 0, .string ⟨#[]⟩, .int .i64 0, .int .i64 0] 42)) = W0 at *
  have hm := wdR_le R i (Nat.le_of_lt hi)
  with_reducible refine (word_ref s (some ⟨g, 0, none⟩) A2 R c1 P.length c2 i W0 hR (Nat.le_of_lt hi) HR0.out).mono ?_
  rintro e w1 ⟨rfl, hb1⟩
  have hx0b := hx0.below hb1 (Array.getElem?_eq_some_iff.1 hx0).1
  obtain ⟨p0, p1, p2, _, _, _⟩ := hx0b.three
  have hx1b := hx1.below hb1 (Array.getElem?_eq_some_iff.1 hx1).1
  have hbf1 := hbf.trans (hb1.mono hbf.size)
  have HR1 := Lib.hid (HR0.out.below hb1)
  have HP1 := Lib.hid (HP0.out.below hb1)
  clear HR0 HP0 hbf hb1 hx0 hx1
  obtain ⟨q0, q1, q2, q3, f0, f1, f2, f3⟩ := hx1b.four
  obtain ⟨g', eg, _, hcell⟩ := HR1.out i hi
  injection eg with eg
  injection eg with eg
  subst eg
  have hc := hcell i hi
  have HC := Lib.hid hcell
  clear hcell
  have hx1 := hx1b
  generalize hmm : ((R.drop i).takeWhile fun (r : Nat) => isWI (r : Int)).length = m
  have hm' : i + m ≤ R.length := by rw [← hmm]; exact hm
  have HM : Hid (wdR R i = m) := hmm
  clear hmm hm
  generalize hrr : R.getD i 0 = r at *
  have HRR := Lib.hid hrr
  clear hrr
  have b2 : (clsI (r : Int) == 2) = false := beq_eq_false_iff_ne.2 (by omega)
  have b3 : (clsI (r : Int) == 3) = false := beq_eq_false_iff_ne.2 (by omega)
  have b5 : (clsI (r : Int) == 5) = true := beq_iff_eq.2 h2
  clear h2
  obtain ⟨xk, str, xn, xa, xz, xe, hq⟩ : ∃ (k : Int) (str : ByteArray) (n a z e : Int), quoE s R P i = .returned (.tuple #[.agg #[.int .i64 k, .string str, .int .i64 n, .int .i64 a], .int .i64 z, .int .i64 e]) := by
    unfold quoE
    split
    · exact ⟨_, _, _, _, _, _, rfl⟩
    · exact ⟨_, _, _, _, _, _, rfl⟩
  have HF := Lib.hid hq
  clear hq
  go_wp2_with (go_at_call 17; refine (refClass_any _ _).mono ?_; rintro e w' ⟨rfl, rfl⟩)
  with_reducible refine (quoted_ref s (some ⟨g, 0, none⟩) A2 R P c1 c2 i w1 hss hR hi HR1.out HP1.out HPl.out).mono ?_
  rintro e w2 ⟨he, hb2⟩
  rw [HF.out] at he
  subst he
  have hx2 := hx1.below hb2 (Array.getElem?_eq_some_iff.1 hx1).1
  have hbf2 := hbf1.trans (hb2.mono hbf1.size)
  clear q0 q1 q2 q3 f0 f1 f2 f3
  obtain ⟨q0, q1, q2, q3, f0, f1, f2, f3⟩ := hx2.four
  go_wp2_with fail
  refine bodyPost_ret (v := .tuple #[.agg #[.int .i64 xk, .string str, .int .i64 xn, .int .i64 xa], .int .i64 xz, .int .i64 xe]) (by simp [results, Tryd.results32, go_sem, q0, q1, q2, q3]) rfl ⟨HF.out.symm, below_set4 hbf2 (by omega) _ _ _ _⟩

set_option maxRecDepth 100000 in
set_option maxHeartbeats 8000000 in
theorem token_0 (s : ByteArray) (A1 A2 : Option Addr) (R P : List Nat) (c1 c2 i : Nat) (w : World) (_hss : s.size ≤ 20000) (hR : R.length ≤ 20000) (hi : i < R.length) (hrd : Rd w A1 R) (hrp : Rd w A2 P) (hpl : Places s R P) (h2 : clsI ((R.getD i 0 : Nat) : Int) ≠ 2 ∧ clsI ((R.getD i 0 : Nat) : Int) ≠ 3 ∧ clsI ((R.getD i 0 : Nat) : Int) ≠ 5 ∧ clsI ((R.getD i 0 : Nat) : Int) ≠ 4) :
    Calls Tryd.prog 32 #[.agg #[.string s, .slice A1 R.length c1, .slice A2 P.length c2], .int .i64 i] w fun e w' => e = zE 11 ∧ Below w.heap.size w w' := by
  obtain ⟨g, rfl, hgl, hcell⟩ := hrd i hi
  have hbf : Below w.heap.size w ((w.alloc (.cells #[.string s, .slice (some ⟨g, 0, none⟩) R.length c1, .slice A2 P.length c2] 47)).alloc (.cells #[.int .i64 0, .string ⟨#[]⟩, .int .i64 0, .int .i64 0] 42)) := ((Below.refl _ w).alloc (Nat.le_refl _) _).alloc (by simp) _
  have hx0 : Box ((w.alloc (.cells #[.string s, .slice (some ⟨g, 0, none⟩) R.length c1, .slice A2 P.length c2] 47)).alloc (.cells #[.int .i64 0, .string ⟨#[]⟩, .int .i64 0, .int .i64 0] 42)) w.heap.size 47 #[.string s, .slice (some ⟨g, 0, none⟩) R.length c1, .slice A2 P.length c2] := (Box.new w _ _).alloc _
  have hx1 : Box ((w.alloc (.cells #[.string s, .slice (some ⟨g, 0, none⟩) R.length c1, .slice A2 P.length c2] 47)).alloc (.cells #[.int .i64 0, .string ⟨#[]⟩, .int .i64 0, .int .i64 0] 42)) (w.heap.size + 1) 42 #[.int .i64 0, .string ⟨#[]⟩, .int .i64 0, .int .i64 0] := by
    have := Box.new (w.alloc (.cells #[.string s, .slice (some ⟨g, 0, none⟩) R.length c1, .slice A2 P.length c2] 47)) 42 #[.int .i64 0, .string ⟨#[]⟩, .int .i64 0, .int .i64 0]
    simpa using this
  have HR0 := Lib.hid (hrd.below hbf)
  have HP0 := Lib.hid (hrp.below hbf)
  have HPl := Lib.hid hpl
  clear hrd hrp hcell hpl
  go_enter Tryd.func32, Tryd.ntmps32
  go_wp2_with fail
  generalize ((w.alloc (.cells #[.string s, .slice (some ⟨g, 0, none⟩) R.length c1, .slice A2 P.length c2] 47)).alloc (.cells #[.int .i64 0, .string ⟨#[]⟩, .int .i64 0, .int .i64 0] 42)) = W0 at *
  have hm := wdR_le R i (Nat.le_of_lt hi)
  with_reducible refine (word_ref s (some ⟨g, 0, none⟩) A2 R c1 P.length c2 i W0 hR (Nat.le_of_lt hi) HR0.out).mono ?_
  rintro e w1 ⟨rfl, hb1⟩
  have hx0b := hx0.below hb1 (Array.getElem?_eq_some_iff.1 hx0).1
  obtain ⟨p0, p1, p2, _, _, _⟩ := hx0b.three
  have hx1b := hx1.below hb1 (Array.getElem?_eq_some_iff.1 hx1).1
  have hbf1 := hbf.trans (hb1.mono hbf.size)
  have HR1 := Lib.hid (HR0.out.below hb1)
  have HP1 := Lib.hid (HP0.out.below hb1)
  clear HR0 HP0 hbf hb1 hx0 hx1
  obtain ⟨q0, q1, q2, q3, f0, f1, f2, f3⟩ := hx1b.four
  obtain ⟨g', eg, _, hcell⟩ := HR1.out i hi
  injection eg with eg
  injection eg with eg
  subst eg
  have hc := hcell i hi
  have HC := Lib.hid hcell
  clear hcell
  have hx1 := hx1b
  generalize hmm : ((R.drop i).takeWhile fun (r : Nat) => isWI (r : Int)).length = m
  have hm' : i + m ≤ R.length := by rw [← hmm]; exact hm
  have HM : Hid (wdR R i = m) := hmm
  clear hmm hm
  generalize hrr : R.getD i 0 = r at *
  have HRR := Lib.hid hrr
  clear hrr
  have b2 : (clsI (r : Int) == 2) = false := beq_eq_false_iff_ne.2 h2.1
  have b3 : (clsI (r : Int) == 3) = false := beq_eq_false_iff_ne.2 h2.2.1
  have b5 : (clsI (r : Int) == 5) = false := beq_eq_false_iff_ne.2 h2.2.2.1
  have b4 : (clsI (r : Int) == 4) = false := beq_eq_false_iff_ne.2 h2.2.2.2
  clear h2
  go_wp2_with (go_at_call 17; refine (refClass_any _ _).mono ?_; rintro e w' ⟨rfl, rfl⟩)
  refine bodyPost_ret (v := .tuple #[.agg #[.int .i64 0, .string ⟨#[]⟩, .int .i64 0, .int .i64 0], .int .i64 0, .int .i64 11]) (by simp [results, Tryd.results32, go_sem, q0, q1, q2, q3]) rfl ⟨rfl, below_set4 hbf1 (by omega) _ _ _ _⟩

set_option maxRecDepth 100000 in
set_option maxHeartbeats 8000000 in
theorem token_4a (s : ByteArray) (A1 A2 : Option Addr) (R P : List Nat) (c1 c2 i : Nat) (w : World) (hss : s.size ≤ 20000) (hR : R.length ≤ 20000) (hi : i < R.length) (hrd : Rd w A1 R) (hrp : Rd w A2 P) (hpl : Places s R P) (h2 : clsI ((R.getD i 0 : Nat) : Int) = 4) (hl : ¬ i + 1 < R.length) :
    Calls Tryd.prog 32 #[.agg #[.string s, .slice A1 R.length c1, .slice A2 P.length c2], .int .i64 i] w fun e w' => e = tE 4 (ext s P i (i + 1)) 0 i (i + 1) ∧ Below w.heap.size w w' := by
  obtain ⟨g, rfl, hgl, hcell⟩ := hrd i hi
  have hbf : Below w.heap.size w ((w.alloc (.cells #[.string s, .slice (some ⟨g, 0, none⟩) R.length c1, .slice A2 P.length c2] 47)).alloc (.cells #[.int .i64 0, .string ⟨#[]⟩, .int .i64 0, .int .i64 0] 42)) := ((Below.refl _ w).alloc (Nat.le_refl _) _).alloc (by simp) _
  have hx0 : Box ((w.alloc (.cells #[.string s, .slice (some ⟨g, 0, none⟩) R.length c1, .slice A2 P.length c2] 47)).alloc (.cells #[.int .i64 0, .string ⟨#[]⟩, .int .i64 0, .int .i64 0] 42)) w.heap.size 47 #[.string s, .slice (some ⟨g, 0, none⟩) R.length c1, .slice A2 P.length c2] := (Box.new w _ _).alloc _
  have hx1 : Box ((w.alloc (.cells #[.string s, .slice (some ⟨g, 0, none⟩) R.length c1, .slice A2 P.length c2] 47)).alloc (.cells #[.int .i64 0, .string ⟨#[]⟩, .int .i64 0, .int .i64 0] 42)) (w.heap.size + 1) 42 #[.int .i64 0, .string ⟨#[]⟩, .int .i64 0, .int .i64 0] := by
    have := Box.new (w.alloc (.cells #[.string s, .slice (some ⟨g, 0, none⟩) R.length c1, .slice A2 P.length c2] 47)) 42 #[.int .i64 0, .string ⟨#[]⟩, .int .i64 0, .int .i64 0]
    simpa using this
  have HR0 := Lib.hid (hrd.below hbf)
  have HP0 := Lib.hid (hrp.below hbf)
  have HPl := Lib.hid hpl
  clear hrd hrp hcell hpl
  go_enter Tryd.func32, Tryd.ntmps32
  go_wp2_with fail
  generalize ((w.alloc (.cells #[.string s, .slice (some ⟨g, 0, none⟩) R.length c1, .slice A2 P.length c2] 47)).alloc (.cells #[.int .i64 0, .string ⟨#[]⟩, .int .i64 0, .int .i64 0] 42)) = W0 at *
  have hm := wdR_le R i (Nat.le_of_lt hi)
  with_reducible refine (word_ref s (some ⟨g, 0, none⟩) A2 R c1 P.length c2 i W0 hR (Nat.le_of_lt hi) HR0.out).mono ?_
  rintro e w1 ⟨rfl, hb1⟩
  have hx0b := hx0.below hb1 (Array.getElem?_eq_some_iff.1 hx0).1
  obtain ⟨p0, p1, p2, _, _, _⟩ := hx0b.three
  have hx1b := hx1.below hb1 (Array.getElem?_eq_some_iff.1 hx1).1
  have hbf1 := hbf.trans (hb1.mono hbf.size)
  have HR1 := Lib.hid (HR0.out.below hb1)
  have HP1 := Lib.hid (HP0.out.below hb1)
  clear HR0 HP0 hbf hb1 hx0 hx1
  obtain ⟨q0, q1, q2, q3, f0, f1, f2, f3⟩ := hx1b.four
  obtain ⟨g', eg, _, hcell⟩ := HR1.out i hi
  injection eg with eg
  injection eg with eg
  subst eg
  have hc := hcell i hi
  have HC := Lib.hid hcell
  clear hcell
  have hx1 := hx1b
  generalize hmm : ((R.drop i).takeWhile fun (r : Nat) => isWI (r : Int)).length = m
  have hm' : i + m ≤ R.length := by rw [← hmm]; exact hm
  have HM : Hid (wdR R i = m) := hmm
  clear hmm hm
  generalize hrr : R.getD i 0 = r at *
  have HRR := Lib.hid hrr
  clear hrr
  have b2 : (clsI (r : Int) == 2) = false := beq_eq_false_iff_ne.2 (by omega)
  have b3 : (clsI (r : Int) == 3) = false := beq_eq_false_iff_ne.2 (by omega)
  have b5 : (clsI (r : Int) == 5) = false := beq_eq_false_iff_ne.2 (by omega)
  have b4 : (clsI (r : Int) == 4) = true := beq_iff_eq.2 h2
  clear h2
  have hk1 : i < P.length ∧ (i + 1) < P.length ∧ P.length ≤ 20001 := by have := HPl.out.len; omega
  have hm1 := HPl.out.mono i ((i + 1)) (by omega) (by omega)
  have hm2 := HPl.out.le ((i + 1)) (by omega)
  go_wp2_with (go_at_call 17; refine (refClass_any _ _).mono ?_; rintro e w' ⟨rfl, rfl⟩)
  with_reducible refine (part_at s (some ⟨g, 0, none⟩) A2 P R.length c1 c2 i (i + 1) (i : Int) ((i : Int) + 1) w1 rfl (by omega) hk1.1 hk1.2.1 hm1 hm2 hss hk1.2.2 HP1.out).mono ?_
  rintro e w2 ⟨rfl, hb2⟩
  have hx2 := hx1.below hb2 (Array.getElem?_eq_some_iff.1 hx1).1
  have hbf2 := hbf1.trans (hb2.mono hbf1.size)
  clear q0 q1 q2 q3 f0 f1 f2 f3
  obtain ⟨q0, q1, q2, q3, f0, f1, f2, f3⟩ := hx2.four
  have HS : Hid (ext s P i (i + 1) = s.extract (P.getD i 0) (P.getD (i + 1) 0)) := rfl
  generalize s.extract (P.getD i 0) (P.getD (i + 1) 0) = str at *
  go_wp2_with fail
  refine bodyPost_ret (v := .tuple #[.agg #[.int .i64 4, .string str, .int .i64 0, .int .i64 i], .int .i64 ((i : Int) + 1), .int .i64 0]) (by simp [results, Tryd.results32, go_sem, q0, q1, q2, q3]) rfl ⟨by rw [HS.out]; unfold tE; simp, below_set4 hbf2 (by omega) _ _ _ _⟩

set_option maxRecDepth 100000 in
set_option maxHeartbeats 8000000 in
theorem token_4b (s : ByteArray) (A1 A2 : Option Addr) (R P : List Nat) (c1 c2 i : Nat) (w : World) (hss : s.size ≤ 20000) (hR : R.length ≤ 20000) (hi : i < R.length) (hrd : Rd w A1 R) (hrp : Rd w A2 P) (hpl : Places s R P) (h2 : clsI ((R.getD i 0 : Nat) : Int) = 4) (hl : i + 1 < R.length) (h61 : R.getD (i + 1) 0 ≠ 61) :
    Calls Tryd.prog 32 #[.agg #[.string s, .slice A1 R.length c1, .slice A2 P.length c2], .int .i64 i] w fun e w' => e = tE 4 (ext s P i (i + 1)) 0 i (i + 1) ∧ Below w.heap.size w w' := by
  obtain ⟨g, rfl, hgl, hcell⟩ := hrd i hi
  have hbf : Below w.heap.size w ((w.alloc (.cells #[.string s, .slice (some ⟨g, 0, none⟩) R.length c1, .slice A2 P.length c2] 47)).alloc (.cells #[.int .i64 0, .string ⟨#[]⟩, .int .i64 0, .int .i64 0] 42)) := ((Below.refl _ w).alloc (Nat.le_refl _) _).alloc (by simp) _
  have hx0 : Box ((w.alloc (.cells #[.string s, .slice (some ⟨g, 0, none⟩) R.length c1, .slice A2 P.length c2] 47)).alloc (.cells #[.int .i64 0, .string ⟨#[]⟩, .int .i64 0, .int .i64 0] 42)) w.heap.size 47 #[.string s, .slice (some ⟨g, 0, none⟩) R.length c1, .slice A2 P.length c2] := (Box.new w _ _).alloc _
  have hx1 : Box ((w.alloc (.cells #[.string s, .slice (some ⟨g, 0, none⟩) R.length c1, .slice A2 P.length c2] 47)).alloc (.cells #[.int .i64 0, .string ⟨#[]⟩, .int .i64 0, .int .i64 0] 42)) (w.heap.size + 1) 42 #[.int .i64 0, .string ⟨#[]⟩, .int .i64 0, .int .i64 0] := by
    have := Box.new (w.alloc (.cells #[.string s, .slice (some ⟨g, 0, none⟩) R.length c1, .slice A2 P.length c2] 47)) 42 #[.int .i64 0, .string ⟨#[]⟩, .int .i64 0, .int .i64 0]
    simpa using this
  have HR0 := Lib.hid (hrd.below hbf)
  have HP0 := Lib.hid (hrp.below hbf)
  have HPl := Lib.hid hpl
  clear hrd hrp hcell hpl
  go_enter Tryd.func32, Tryd.ntmps32
  go_wp2_with fail
  generalize ((w.alloc (.cells #[.string s, .slice (some ⟨g, 0, none⟩) R.length c1, .slice A2 P.length c2] 47)).alloc (.cells #[.int .i64 0, .string ⟨#[]⟩, .int .i64 0, .int .i64 0] 42)) = W0 at *
  have hm := wdR_le R i (Nat.le_of_lt hi)
  with_reducible refine (word_ref s (some ⟨g, 0, none⟩) A2 R c1 P.length c2 i W0 hR (Nat.le_of_lt hi) HR0.out).mono ?_
  rintro e w1 ⟨rfl, hb1⟩
  have hx0b := hx0.below hb1 (Array.getElem?_eq_some_iff.1 hx0).1
  obtain ⟨p0, p1, p2, _, _, _⟩ := hx0b.three
  have hx1b := hx1.below hb1 (Array.getElem?_eq_some_iff.1 hx1).1
  have hbf1 := hbf.trans (hb1.mono hbf.size)
  have HR1 := Lib.hid (HR0.out.below hb1)
  have HP1 := Lib.hid (HP0.out.below hb1)
  clear HR0 HP0 hbf hb1 hx0 hx1
  obtain ⟨q0, q1, q2, q3, f0, f1, f2, f3⟩ := hx1b.four
  obtain ⟨g', eg, _, hcell⟩ := HR1.out i hi
  injection eg with eg
  injection eg with eg
  subst eg
  have hc := hcell i hi
  have HC := Lib.hid hcell
  clear hcell
  have hx1 := hx1b
  generalize hmm : ((R.drop i).takeWhile fun (r : Nat) => isWI (r : Int)).length = m
  have hm' : i + m ≤ R.length := by rw [← hmm]; exact hm
  have HM : Hid (wdR R i = m) := hmm
  clear hmm hm
  generalize hrr : R.getD i 0 = r at *
  have HRR := Lib.hid hrr
  clear hrr
  have b2 : (clsI (r : Int) == 2) = false := beq_eq_false_iff_ne.2 (by omega)
  have b3 : (clsI (r : Int) == 3) = false := beq_eq_false_iff_ne.2 (by omega)
  have b5 : (clsI (r : Int) == 5) = false := beq_eq_false_iff_ne.2 (by omega)
  have b4 : (clsI (r : Int) == 4) = true := beq_iff_eq.2 h2
  clear h2
  have hc2 := HC.out (i + 1) hl
  have b61 : (((R.getD (i + 1) 0 : Nat) : Int) == 61) = false := beq_eq_false_iff_ne.2 (by omega)
  clear h61
  generalize R.getD (i + 1) 0 = r1 at *
  have hk1 : i < P.length ∧ (i + 1) < P.length ∧ P.length ≤ 20001 := by have := HPl.out.len; omega
  have hm1 := HPl.out.mono i ((i + 1)) (by omega) (by omega)
  have hm2 := HPl.out.le ((i + 1)) (by omega)
  go_wp2_with (go_at_call 17; refine (refClass_any _ _).mono ?_; rintro e w' ⟨rfl, rfl⟩)
  with_reducible refine (part_at s (some ⟨g, 0, none⟩) A2 P R.length c1 c2 i (i + 1) (i : Int) ((i : Int) + 1) w1 rfl (by omega) hk1.1 hk1.2.1 hm1 hm2 hss hk1.2.2 HP1.out).mono ?_
  rintro e w2 ⟨rfl, hb2⟩
  have hx2 := hx1.below hb2 (Array.getElem?_eq_some_iff.1 hx1).1
  have hbf2 := hbf1.trans (hb2.mono hbf1.size)
  clear q0 q1 q2 q3 f0 f1 f2 f3
  obtain ⟨q0, q1, q2, q3, f0, f1, f2, f3⟩ := hx2.four
  have HS : Hid (ext s P i (i + 1) = s.extract (P.getD i 0) (P.getD (i + 1) 0)) := rfl
  generalize s.extract (P.getD i 0) (P.getD (i + 1) 0) = str at *
  go_wp2_with fail
  refine bodyPost_ret (v := .tuple #[.agg #[.int .i64 4, .string str, .int .i64 0, .int .i64 i], .int .i64 ((i : Int) + 1), .int .i64 0]) (by simp [results, Tryd.results32, go_sem, q0, q1, q2, q3]) rfl ⟨by rw [HS.out]; unfold tE; simp, below_set4 hbf2 (by omega) _ _ _ _⟩

set_option maxRecDepth 100000 in
set_option maxHeartbeats 8000000 in
theorem token_4c (s : ByteArray) (A1 A2 : Option Addr) (R P : List Nat) (c1 c2 i : Nat) (w : World) (hss : s.size ≤ 20000) (hR : R.length ≤ 20000) (hi : i < R.length) (hrd : Rd w A1 R) (hrp : Rd w A2 P) (hpl : Places s R P) (h2 : clsI ((R.getD i 0 : Nat) : Int) = 4) (hl : i + 1 < R.length) (h61 : R.getD (i + 1) 0 = 61) (ht : two5 (ext s P i (i + 2))) :
    Calls Tryd.prog 32 #[.agg #[.string s, .slice A1 R.length c1, .slice A2 P.length c2], .int .i64 i] w fun e w' => e = tE 4 (ext s P i (i + 2)) 0 i (i + 2) ∧ Below w.heap.size w w' := by
  obtain ⟨g, rfl, hgl, hcell⟩ := hrd i hi
  have hbf : Below w.heap.size w ((w.alloc (.cells #[.string s, .slice (some ⟨g, 0, none⟩) R.length c1, .slice A2 P.length c2] 47)).alloc (.cells #[.int .i64 0, .string ⟨#[]⟩, .int .i64 0, .int .i64 0] 42)) := ((Below.refl _ w).alloc (Nat.le_refl _) _).alloc (by simp) _
  have hx0 : Box ((w.alloc (.cells #[.string s, .slice (some ⟨g, 0, none⟩) R.length c1, .slice A2 P.length c2] 47)).alloc (.cells #[.int .i64 0, .string ⟨#[]⟩, .int .i64 0, .int .i64 0] 42)) w.heap.size 47 #[.string s, .slice (some ⟨g, 0, none⟩) R.length c1, .slice A2 P.length c2] := (Box.new w _ _).alloc _
  have hx1 : Box ((w.alloc (.cells #[.string s, .slice (some ⟨g, 0, none⟩) R.length c1, .slice A2 P.length c2] 47)).alloc (.cells #[.int .i64 0, .string ⟨#[]⟩, .int .i64 0, .int .i64 0] 42)) (w.heap.size + 1) 42 #[.int .i64 0, .string ⟨#[]⟩, .int .i64 0, .int .i64 0] := by
    have := Box.new (w.alloc (.cells #[.string s, .slice (some ⟨g, 0, none⟩) R.length c1, .slice A2 P.length c2] 47)) 42 #[.int .i64 0, .string ⟨#[]⟩, .int .i64 0, .int .i64 0]
    simpa using this
  have HR0 := Lib.hid (hrd.below hbf)
  have HP0 := Lib.hid (hrp.below hbf)
  have HPl := Lib.hid hpl
  clear hrd hrp hcell hpl
  go_enter Tryd.func32, Tryd.ntmps32
  go_wp2_with fail
  generalize ((w.alloc (.cells #[.string s, .slice (some ⟨g, 0, none⟩) R.length c1, .slice A2 P.length c2] 47)).alloc (.cells #[.int .i64 0, .string ⟨#[]⟩, .int .i64 0, .int .i64 0] 42)) = W0 at *
  have hm := wdR_le R i (Nat.le_of_lt hi)
  with_reducible refine (word_ref s (some ⟨g, 0, none⟩) A2 R c1 P.length c2 i W0 hR (Nat.le_of_lt hi) HR0.out).mono ?_
  rintro e w1 ⟨rfl, hb1⟩
  have hx0b := hx0.below hb1 (Array.getElem?_eq_some_iff.1 hx0).1
  obtain ⟨p0, p1, p2, _, _, _⟩ := hx0b.three
  have hx1b := hx1.below hb1 (Array.getElem?_eq_some_iff.1 hx1).1
  have hbf1 := hbf.trans (hb1.mono hbf.size)
  have HR1 := Lib.hid (HR0.out.below hb1)
  have HP1 := Lib.hid (HP0.out.below hb1)
  clear HR0 HP0 hbf hb1 hx0 hx1
  obtain ⟨q0, q1, q2, q3, f0, f1, f2, f3⟩ := hx1b.four
  obtain ⟨g', eg, _, hcell⟩ := HR1.out i hi
  injection eg with eg
  injection eg with eg
  subst eg
  have hc := hcell i hi
  have HC := Lib.hid hcell
  clear hcell
  have hx1 := hx1b
  generalize hmm : ((R.drop i).takeWhile fun (r : Nat) => isWI (r : Int)).length = m
  have hm' : i + m ≤ R.length := by rw [← hmm]; exact hm
  have HM : Hid (wdR R i = m) := hmm
  clear hmm hm
  generalize hrr : R.getD i 0 = r at *
  have HRR := Lib.hid hrr
  clear hrr
  have b2 : (clsI (r : Int) == 2) = false := beq_eq_false_iff_ne.2 (by omega)
  have b3 : (clsI (r : Int) == 3) = false := beq_eq_false_iff_ne.2 (by omega)
  have b5 : (clsI (r : Int) == 5) = false := beq_eq_false_iff_ne.2 (by omega)
  have b4 : (clsI (r : Int) == 4) = true := beq_iff_eq.2 h2
  clear h2
  have hc2 := HC.out (i + 1) hl
  have b61 : (((R.getD (i + 1) 0 : Nat) : Int) == 61) = true := by rw [h61]; rfl
  clear h61
  generalize R.getD (i + 1) 0 = r1 at *
  have hk1 : i < P.length ∧ (i + 2) < P.length ∧ P.length ≤ 20001 := by have := HPl.out.len; omega
  have hm1 := HPl.out.mono i ((i + 2)) (by omega) (by omega)
  have hm2 := HPl.out.le ((i + 2)) (by omega)
  go_wp2_with (go_at_call 17; refine (refClass_any _ _).mono ?_; rintro e w' ⟨rfl, rfl⟩)
  with_reducible refine (part_at s (some ⟨g, 0, none⟩) A2 P R.length c1 c2 i (i + 2) (i : Int) ((i : Int) + 2) w1 rfl (by omega) hk1.1 hk1.2.1 hm1 hm2 hss hk1.2.2 HP1.out).mono ?_
  rintro e w2 ⟨rfl, hb2⟩
  have hx2 := hx1.below hb2 (Array.getElem?_eq_some_iff.1 hx1).1
  have hbf2 := hbf1.trans (hb2.mono hbf1.size)
  clear q0 q1 q2 q3 f0 f1 f2 f3
  obtain ⟨q0, q1, q2, q3, f0, f1, f2, f3⟩ := hx2.four
  have HP2 := Lib.hid (HP1.out.below hb2)
  obtain ⟨p0', p1', p2', _, _, _⟩ := (hx0b.below hb2 (Array.getElem?_eq_some_iff.1 hx0b).1).three
  clear p0 p1 p2
  have HE : Hid (ext s P i (i + 2) = s.extract (P.getD i 0) (P.getD (i + 2) 0)) := rfl
  generalize s.extract (P.getD i 0) (P.getD (i + 2) 0) = str at *
  rw [HE.out] at ht
  rcases ht with ht | ht | ht | ht | ht
  all_goals
    go_wp2_with fail
    with_reducible refine (part_at s (some ⟨g, 0, none⟩) A2 P R.length c1 c2 i (i + 2) (i : Int) ((i : Int) + 1 + 1) w2 rfl (by omega) hk1.1 hk1.2.1 hm1 hm2 hss hk1.2.2 HP2.out).mono ?_
    rintro e w3 ⟨rfl, hb3⟩
    have hx3 := hx2.below hb3 (Array.getElem?_eq_some_iff.1 hx2).1
    have hbf3 := hbf2.trans (hb3.mono hbf2.size)
    clear q0 q1 q2 q3 f0 f1 f2 f3
    obtain ⟨q0, q1, q2, q3, f0, f1, f2, f3⟩ := hx3.four
    rw [show s.extract (P.getD i 0) (P.getD (i + 2) 0) = _ from HE.out]
    go_wp2_with fail
    refine bodyPost_ret (v := .tuple #[.agg #[.int .i64 4, .string str, .int .i64 0, .int .i64 i], .int .i64 ((i : Int) + 1 + 1), .int .i64 0]) (by simp [results, Tryd.results32, go_sem, q0, q1, q2, q3]) rfl ⟨by rw [HE.out]; unfold tE; simp; omega, below_set4 hbf3 (by omega) _ _ _ _⟩

set_option maxRecDepth 100000 in
set_option maxHeartbeats 8000000 in
theorem token_4d (s : ByteArray) (A1 A2 : Option Addr) (R P : List Nat) (c1 c2 i : Nat) (w : World) (hss : s.size ≤ 20000) (hR : R.length ≤ 20000) (hi : i < R.length) (hrd : Rd w A1 R) (hrp : Rd w A2 P) (hpl : Places s R P) (h2 : clsI ((R.getD i 0 : Nat) : Int) = 4) (hl : i + 1 < R.length) (h61 : R.getD (i + 1) 0 = 61) (ht : ¬ two5 (ext s P i (i + 2))) :
    Calls Tryd.prog 32 #[.agg #[.string s, .slice A1 R.length c1, .slice A2 P.length c2], .int .i64 i] w fun e w' => e = tE 4 (ext s P i (i + 1)) 0 i (i + 1) ∧ Below w.heap.size w w' := by
  obtain ⟨g, rfl, hgl, hcell⟩ := hrd i hi
  have hbf : Below w.heap.size w ((w.alloc (.cells #[.string s, .slice (some ⟨g, 0, none⟩) R.length c1, .slice A2 P.length c2] 47)).alloc (.cells #[.int .i64 0, .string ⟨#[]⟩, .int .i64 0, .int .i64 0] 42)) := ((Below.refl _ w).alloc (Nat.le_refl _) _).alloc (by simp) _
  have hx0 : Box ((w.alloc (.cells #[.string s, .slice (some ⟨g, 0, none⟩) R.length c1, .slice A2 P.length c2] 47)).alloc (.cells #[.int .i64 0, .string ⟨#[]⟩, .int .i64 0, .int .i64 0] 42)) w.heap.size 47 #[.string s, .slice (some ⟨g, 0, none⟩) R.length c1, .slice A2 P.length c2] := (Box.new w _ _).alloc _
  have hx1 : Box ((w.alloc (.cells #[.string s, .slice (some ⟨g, 0, none⟩) R.length c1, .slice A2 P.length c2] 47)).alloc (.cells #[.int .i64 0, .string ⟨#[]⟩, .int .i64 0, .int .i64 0] 42)) (w.heap.size + 1) 42 #[.int .i64 0, .string ⟨#[]⟩, .int .i64 0, .int .i64 0] := by
    have := Box.new (w.alloc (.cells #[.string s, .slice (some ⟨g, 0, none⟩) R.length c1, .slice A2 P.length c2] 47)) 42 #[.int .i64 0, .string ⟨#[]⟩, .int .i64 0, .int .i64 0]
    simpa using this
  have HR0 := Lib.hid (hrd.below hbf)
  have HP0 := Lib.hid (hrp.below hbf)
  have HPl := Lib.hid hpl
  clear hrd hrp hcell hpl
  go_enter Tryd.func32, Tryd.ntmps32
  go_wp2_with fail
  generalize ((w.alloc (.cells #[.string s, .slice (some ⟨g, 0, none⟩) R.length c1, .slice A2 P.length c2] 47)).alloc (.cells #[.int .i64 0, .string ⟨#[]⟩, .int .i64 0, .int .i64 0] 42)) = W0 at *
  have hm := wdR_le R i (Nat.le_of_lt hi)
  with_reducible refine (word_ref s (some ⟨g, 0, none⟩) A2 R c1 P.length c2 i W0 hR (Nat.le_of_lt hi) HR0.out).mono ?_
  rintro e w1 ⟨rfl, hb1⟩
  have hx0b := hx0.below hb1 (Array.getElem?_eq_some_iff.1 hx0).1
  obtain ⟨p0, p1, p2, _, _, _⟩ := hx0b.three
  have hx1b := hx1.below hb1 (Array.getElem?_eq_some_iff.1 hx1).1
  have hbf1 := hbf.trans (hb1.mono hbf.size)
  have HR1 := Lib.hid (HR0.out.below hb1)
  have HP1 := Lib.hid (HP0.out.below hb1)
  clear HR0 HP0 hbf hb1 hx0 hx1
  obtain ⟨q0, q1, q2, q3, f0, f1, f2, f3⟩ := hx1b.four
  obtain ⟨g', eg, _, hcell⟩ := HR1.out i hi
  injection eg with eg
  injection eg with eg
  subst eg
  have hc := hcell i hi
  have HC := Lib.hid hcell
  clear hcell
  have hx1 := hx1b
  generalize hmm : ((R.drop i).takeWhile fun (r : Nat) => isWI (r : Int)).length = m
  have hm' : i + m ≤ R.length := by rw [← hmm]; exact hm
  have HM : Hid (wdR R i = m) := hmm
  clear hmm hm
  generalize hrr : R.getD i 0 = r at *
  have HRR := Lib.hid hrr
  clear hrr
  have b2 : (clsI (r : Int) == 2) = false := beq_eq_false_iff_ne.2 (by omega)
  have b3 : (clsI (r : Int) == 3) = false := beq_eq_false_iff_ne.2 (by omega)
  have b5 : (clsI (r : Int) == 5) = false := beq_eq_false_iff_ne.2 (by omega)
  have b4 : (clsI (r : Int) == 4) = true := beq_iff_eq.2 h2
  clear h2
  have hc2 := HC.out (i + 1) hl
  have b61 : (((R.getD (i + 1) 0 : Nat) : Int) == 61) = true := by rw [h61]; rfl
  clear h61
  generalize R.getD (i + 1) 0 = r1 at *
  have hk1 : i < P.length ∧ (i + 2) < P.length ∧ P.length ≤ 20001 := by have := HPl.out.len; omega
  have hm1 := HPl.out.mono i ((i + 2)) (by omega) (by omega)
  have hm2 := HPl.out.le ((i + 2)) (by omega)
  go_wp2_with (go_at_call 17; refine (refClass_any _ _).mono ?_; rintro e w' ⟨rfl, rfl⟩)
  with_reducible refine (part_at s (some ⟨g, 0, none⟩) A2 P R.length c1 c2 i (i + 2) (i : Int) ((i : Int) + 2) w1 rfl (by omega) hk1.1 hk1.2.1 hm1 hm2 hss hk1.2.2 HP1.out).mono ?_
  rintro e w2 ⟨rfl, hb2⟩
  have hx2 := hx1.below hb2 (Array.getElem?_eq_some_iff.1 hx1).1
  have hbf2 := hbf1.trans (hb2.mono hbf1.size)
  clear q0 q1 q2 q3 f0 f1 f2 f3
  obtain ⟨q0, q1, q2, q3, f0, f1, f2, f3⟩ := hx2.four
  have HP2 := Lib.hid (HP1.out.below hb2)
  obtain ⟨p0', p1', p2', _, _, _⟩ := (hx0b.below hb2 (Array.getElem?_eq_some_iff.1 hx0b).1).three
  clear p0 p1 p2
  have HE : Hid (ext s P i (i + 2) = s.extract (P.getD i 0) (P.getD (i + 2) 0)) := rfl
  generalize s.extract (P.getD i 0) (P.getD (i + 2) 0) = str at *
  rw [HE.out] at ht
  have n1 : (str.toList == [60, 61]) = false := beq_eq_false_iff_ne.2 (fun h => ht (Or.inl h))
  have n2 : (str.toList == [62, 61]) = false := beq_eq_false_iff_ne.2 (fun h => ht (Or.inr (Or.inl h)))
  have n3 : (str.toList == [61, 61]) = false := beq_eq_false_iff_ne.2 (fun h => ht (Or.inr (Or.inr (Or.inl h))))
  have n4 : (str.toList == [33, 61]) = false := beq_eq_false_iff_ne.2 (fun h => ht (Or.inr (Or.inr (Or.inr (Or.inl h)))))
  have n5 : (str.toList == [58, 61]) = false := beq_eq_false_iff_ne.2 (fun h => ht (Or.inr (Or.inr (Or.inr (Or.inr h)))))
  clear ht hk1 hm1 hm2
  have hk1 : i < P.length ∧ (i + 1) < P.length ∧ P.length ≤ 20001 := by have := HPl.out.len; omega
  have hm1 := HPl.out.mono i ((i + 1)) (by omega) (by omega)
  have hm2 := HPl.out.le ((i + 1)) (by omega)
  go_wp2_with fail
  with_reducible refine (part_at s (some ⟨g, 0, none⟩) A2 P R.length c1 c2 i (i + 1) (i : Int) ((i : Int) + 1) w2 rfl (by omega) hk1.1 hk1.2.1 hm1 hm2 hss hk1.2.2 HP2.out).mono ?_
  rintro e w3 ⟨rfl, hb3⟩
  have hx3 := hx2.below hb3 (Array.getElem?_eq_some_iff.1 hx2).1
  have hbf3 := hbf2.trans (hb3.mono hbf2.size)
  clear q0 q1 q2 q3 f0 f1 f2 f3
  obtain ⟨q0, q1, q2, q3, f0, f1, f2, f3⟩ := hx3.four
  have HS : Hid (ext s P i (i + 1) = s.extract (P.getD i 0) (P.getD (i + 1) 0)) := rfl
  generalize s.extract (P.getD i 0) (P.getD (i + 1) 0) = str1 at *
  go_wp2_with fail
  refine bodyPost_ret (v := .tuple #[.agg #[.int .i64 4, .string str1, .int .i64 0, .int .i64 i], .int .i64 ((i : Int) + 1), .int .i64 0]) (by simp [results, Tryd.results32, go_sem, q0, q1, q2, q3]) rfl ⟨by rw [HS.out]; unfold tE; simp, below_set4 hbf3 (by omega) _ _ _ _⟩

end Go.Proofs.YtbbebnbofalmlaaDoor.Lx
