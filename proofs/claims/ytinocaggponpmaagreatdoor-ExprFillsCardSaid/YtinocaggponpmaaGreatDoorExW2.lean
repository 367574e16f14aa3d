/-
  Contracts of expr.leaf, writeKid, write.
-/
import Derived.Test.YtinocaggponpmaaGreatDoorExW1
import Derived.Test.YtinocaggponpmaaGreatDoorExR3
namespace Go.Proofs.YtinocaggponpmaaGreatDoor.Ep
open Go.RowKit Lx

theorem textE_0 (op n : Int) (nm : List UInt8) (ks : List Ex) (h : opK op = 0) : textE (.mk op n nm ks) = if op = 0 then Lib.itoa n else nm := by rw [textE, if_pos h]
theorem textE_1 (op n : Int) (nm : List UInt8) (k : Ex) (h : opK op = 1) : textE (.mk op n nm [k]) = opS op ++ wrapT (enclB op k.op 0) (textE k) := by
  rw [textE, if_neg (by omega), textL, textL, if_pos h, if_pos rfl, List.append_nil]
theorem textE_2 (op n : Int) (nm : List UInt8) (k l : Ex) (h : opK op = 2) : textE (.mk op n nm [k, l]) = wrapT (enclB op k.op 0) (textE k) ++ (32 :: (opS op ++ [32])) ++ wrapT (enclB op l.op 1) (textE l) := by
  rw [textE, if_neg (by omega), textL, textL, textL, if_neg (by omega), if_pos rfl, if_neg (by omega), if_neg (by omega), if_pos rfl, List.append_nil]

theorem Tab.lt {w : World} (h : Tab w) : 1 < w.heap.size := by
  unfold Tab Lib.TabIs World.var? at h
  simp only [tab_global, Option.bind_some] at h
  rcases hh : w.heap[1]? with _ | o
  · rw [hh] at h; simp at h
  · exact (Array.getElem?_eq_some_iff.1 hh).1
theorem Tab.belowB {w w' : World} {B : Nat} (h : Tab w) (hb : Below B w w') (hB : 1 < B) : Tab w' := by
  unfold Tab Lib.TabIs World.var? at h ⊢
  simp only [tab_global, Option.bind_some] at h ⊢
  rw [hb.block _ hB]
  exact h
theorem Tab.alloc {w : World} (h : Tab w) (o : Obj) : Tab (w.alloc o) := Tab.belowB h ((Below.refl w.heap.size w).alloc (Nat.le_refl _) o) (Tab.lt h)

def leafS (op n : Int) (nm : List UInt8) : List UInt8 := if op = 0 then Lib.itoa n else nm
set_option maxHeartbeats 1000000 in
theorem leafS_any (op n : Int) (nm : List UInt8) (a : Option Addr) (len cap : Nat) (w : World) (hT : Tab w) (h0 : -9223372036854775808 ≤ n) (h1 : n ≤ 9223372036854775807) :
    Calls Tryz.prog 53 #[exV op n nm a len cap] w fun e w' => e = .returned (.string ⟨(leafS op n nm).toArray⟩) ∧ Below w.heap.size w w' := by
  unfold exV
  by_cases h : op = 0
  · have HX : Hid (leafS op n nm = Lib.itoa n) := by unfold Hid leafS; rw [if_pos h]
    have d : (op == 0) = true := by simpa using h
    clear h
    go_enter Tryz.func53, Tryz.ntmps53
    go_wp2_with fail
    refine (Show_any n _ h0 h1 (Tab.alloc hT _)).mono ?_
    rintro e w1 ⟨rfl, hb⟩
    go_wp2
    go_ret
    exact ⟨ret_str (by rw [HX.out]), below_new hb⟩
  · have HX : Hid (leafS op n nm = nm) := by unfold Hid leafS; rw [if_neg h]
    have d : (op == 0) = false := by simpa using h
    clear h
    go_enter Tryz.func53, Tryz.ntmps53
    go_wp2
    go_ret
    exact ⟨ret_str (by rw [HX.out]), (Below.refl _ _).alloc (Nat.le_refl _) _⟩

/-- A builder that holds a text, beside the tables; what lies below B is nobody's to write. -/
structure Wr (B b : Nat) (l : List UInt8) (w : World) : Prop where
  bd : Lib.IsBuilder 61 5 B b (Lib.byteCells l) w
  le : B ≤ w.heap.size
  ops : Ops w
  gop : 0 < B
  tab : Tab w
  gtab : 1 < B
theorem Wr.lt {B b : Nat} {l : List UInt8} {w : World} (h : Wr B b l w) : b < w.heap.size := by
  rcases h.bd with h | h <;> exact h.lt
theorem Wr.below {B b : Nat} {l : List UInt8} {w w' : World} (h : Wr B b l w) (hb : Below w.heap.size w w') : Wr B b l w' := by
  refine ⟨?_, Nat.le_trans h.le hb.size, h.ops.below hb (Nat.lt_of_lt_of_le h.gop h.le), Nat.lt_of_lt_of_le h.gop (Nat.le_refl _), Tab.belowB h.tab hb (Nat.lt_of_lt_of_le h.gtab h.le), h.gtab⟩
  have aux : ∀ p, Lib.BuilderAt 61 5 B b p (Lib.byteCells l) w → Lib.BuilderAt 61 5 B b p (Lib.byteCells l) w' := by
    rintro p ⟨h1, v, h2, h3, h4⟩
    exact ⟨h1, v, (hb.block b (Array.getElem?_eq_some_iff.1 h2).1).trans h2, ownsRow_below h3 hb, h4⟩
  rcases h.bd with h | h
  · exact Or.inl (aux _ h)
  · exact Or.inr (aux _ h)
theorem Wr.alloc {B b : Nat} {l : List UInt8} {w : World} (h : Wr B b l w) (o : Obj) : Wr B b l (w.alloc o) := h.below ((Below.refl _ _).alloc (Nat.le_refl _) o)
/-- What a text written leaves. -/
structure Wrote (B b : Nat) (l : List UInt8) (w w' : World) : Prop where
  wr : Wr B b l w'
  below : Below B w w'
  kw : KW b w w'
theorem writeS_wr (B b : Nat) (l s : List UInt8) (w : World) (h : Wr B b l w) (hl : l.length + s.length ≤ 100000) :
    Calls Tryz.prog 52 #[.pointer (some ⟨b, 0, none⟩), .string ⟨s.toArray⟩] w fun e w' => e = .returned (.tuple #[.int .i64 s.length, .nilIface]) ∧ Wrote B b (l ++ s) w w' := by
  have hsz : (⟨s.toArray⟩ : ByteArray).size = s.length := by show s.toArray.size = _; simp
  refine (writeS_any B b (Lib.byteCells l) ⟨s.toArray⟩ w h.bd (by rw [Lib.byteCells_length, hsz]; omega) h.le).mono ?_
  rintro e w' ⟨rfl, h1, h2, h3⟩
  rw [hsz]
  refine ⟨rfl, ⟨?_, Nat.le_trans h.le h2.size, h.ops.below h2 h.gop, h.gop, Tab.belowB h.tab h2 h.gtab, h.gtab⟩, h2, h3⟩
  rw [Lib.byteCells_append]
  exact Or.inr h1
theorem Wrote.trans {B b : Nat} {l m : List UInt8} {u v w : World} (h : Wrote B b l u v) (k : Wrote B b m v w) : Wrote B b m u w := ⟨k.wr, h.below.trans k.below, h.kw.trans k.kw⟩
theorem Wrote.after {B b : Nat} {m : List UInt8} {u v w : World} (h : Wrote B b m v w) (hb : Below u.heap.size u v) (hB : B ≤ u.heap.size) : Wrote B b m u w := ⟨h.wr, (hb.mono hB).trans h.below, (KW.of hb (Nat.le_refl _)).trans h.kw⟩

/-- write does what it must, of a tree. -/
def WriteOK (t : Ex) : Prop := ∀ (B b : Nat) (l : List UInt8) (v : Value) (w : World), goodE t → l.length + (textE t).length ≤ 100000 → Wr B b l w → TreeV (fun k => k < B) w t v →
  Calls Tryz.prog 33 #[.pointer (some ⟨b, 0, none⟩), v] w fun e w' => e = .returned (.tuple #[]) ∧ Wrote B b (l ++ textE t) w w'

theorem wrapT_len (e : Bool) (s : List UInt8) : s.length ≤ (wrapT e s).length := by
  unfold wrapT; split <;> simp; omega

set_option maxHeartbeats 4000000 in
theorem kid_of (k : Ex) (hW : WriteOK k) (B b : Nat) (l : List UInt8) (w : World) (op n : Int) (nm : List UInt8) (g off len cap i : Nat) (hk : goodE k) (hl : l.length + (wrapT (enclB op k.op i) (textE k)).length ≤ 100000) (h : Wr B b l w)
    (hin : inT op = true) (hg : g < B) (hi : i < len) (hlen : len ≤ 2) (ka : Option Addr) (kc : Nat) (c0 : w.cell? ⟨g, off + i * 4, none⟩ = some (.int .i64 k.op)) (c1 : w.cell? ⟨g, off + i * 4 + 1, none⟩ = some (.int .i64 k.n))
    (c2 : w.cell? ⟨g, off + i * 4 + 2, none⟩ = some (.string ⟨k.name.toArray⟩)) (c3 : w.cell? ⟨g, off + i * 4 + 3, none⟩ = some (.slice ka k.kids.length kc)) (hT : TreeV (fun k => k < B) w k (exV k.op k.n k.name ka k.kids.length kc)) :
    Calls Tryz.prog 54 #[.pointer (some ⟨b, 0, none⟩), exV op n nm (some ⟨g, off, none⟩) len cap, .int .i64 i] w fun e w' => e = .returned (.tuple #[]) ∧ Wrote B b (l ++ wrapT (enclB op k.op i) (textE k)) w w' := by
  have hgw : g < w.heap.size := Nat.lt_of_lt_of_le hg h.le
  have hbl := h.lt
  have hBw := h.le
  have hb0 : ∀ o, Below w.heap.size w (w.alloc o) := fun o => (Below.refl _ _).alloc (Nat.le_refl _) o
  have HB := Lib.hid hb0
  clear hb0
  generalize hX : wrapT (enclB op k.op i) (textE k) = X at *
  have HX := Lib.hid hX
  clear hX
  unfold exV
  go_enter Tryz.func54, Tryz.ntmps54
  go_wp2_with fail
  refine (encl_any op n _ g off len cap i k.op _ (h.ops.alloc _) (by rw [Below.cell (HB.out _) hgw]; exact c0) (by simp; omega) hi (by omega) hin).mono ?_
  rintro e w1 ⟨rfl, hb1⟩
  have hx1 := (Box.new w 25 _).below hb1 (by simp)
  have hbw1 := below_new hb1
  have hwr1 := h.below hbw1
  have hT1 := TreeV.below hT hbw1 (Nat.le_refl _)
  rw [← hbw1.cell (p := ⟨g, _, none⟩) hgw] at c0 c1 c2 c3
  obtain ⟨x0, x1, x2, x3, -, -, -, -⟩ := hx1.four
  have hxl := hx1.lt
  clear hb1 HB hT
  cases he : enclB op k.op i with
  | false =>
    have HW : Hid (X = textE k) := by unfold Hid; rw [← HX.out, he]; rfl
    clear he HX
    rw [HW.out] at hl
    go_wp2_with fail
    refine (hW B b l _ _ hk hl hwr1 hT1).mono ?_
    rintro e w2 ⟨rfl, hw2⟩
    go_wp2
    exact bodyPost_ret (v := .tuple #[]) (by simp [results, Tryz.results54]) rfl ⟨rfl, by rw [HW.out]; exact hw2.after hbw1 hBw⟩
  | true =>
    have HW : Hid (X = 40 :: (textE k ++ [41])) := by unfold Hid; rw [← HX.out, he]; rfl
    clear he HX
    rw [HW.out] at hl
    simp only [List.length_cons, List.length_append, List.length_nil] at hl
    go_wp2_with fail
    refine (writeS_wr B b l [40] _ hwr1 (by simp; omega)).mono ?_
    rintro e w2 ⟨rfl, hw2⟩
    have hx2 := hw2.kw.box hx1 (by omega) (by decide)
    rw [← hw2.below.cell (p := ⟨g, _, none⟩) hg] at c0 c1 c2 c3
    have hT2 := TreeV.keep hw2.below.size (fun q hq _ => hw2.below.block q hq) _ _ hT1
    clear x0 x1 x2 x3
    obtain ⟨x0, x1, x2, x3, -, -, -, -⟩ := hx2.four
    have hgw2 : g < w2.heap.size := Nat.lt_of_lt_of_le hg hw2.wr.le
    have hxl2 := hx2.lt
    go_wp2_with fail
    refine (hW B b _ _ _ hk (by simp; omega) hw2.wr hT2).mono ?_
    rintro e w3 ⟨rfl, hw3⟩
    go_wp2_with fail
    refine (writeS_wr B b _ [41] _ hw3.wr (by simp; omega)).mono ?_
    rintro e w4 ⟨rfl, hw4⟩
    have HF := Lib.hid (((hw2.trans hw3).trans hw4).after hbw1 hBw)
    go_wp2
    go_end0
    refine ⟨rfl, ?_⟩
    have := HF.out
    rw [HW.out]
    simpa using this

theorem opS_len (o : Nat) (h : o < 17) : (opS o).length ≤ 2 := by
  have : ∀ k : Fin 17, (opS (k.val : Int)).length ≤ 2 := by decide
  exact this ⟨o, h⟩
theorem cat_sign (s : List UInt8) : ((⟨#[32]⟩ : ByteArray) ++ ⟨s.toArray⟩ ++ ⟨#[32]⟩) = ⟨(32 :: (s ++ [32])).toArray⟩ := by
  apply ByteArray.ext
  apply Array.toList_inj.1
  simp

set_option maxHeartbeats 4000000 in
theorem write_ok (t : Ex) : WriteOK t := by
  induction t using Ex.ind with
  | h op n nm ks ih =>
    intro B b l v w hg hl h hT
    have IH := Lib.hid ih
    clear ih
    rw [goodE] at hg
    obtain ⟨hf, hn, hgl⟩ := hg
    obtain ⟨hin, hkl⟩ := formed_true hf
    obtain ⟨hi1, hi2⟩ := (inT_iff _).1 hin
    obtain ⟨o, rfl⟩ := Int.eq_ofNat_of_zero_le hi1
    have ho : o < 17 := by omega
    have hG := h.ops.lt
    have hK := h.ops.k o ho
    have hS := h.ops.s o ho
    have HF := Lib.hid hf
    have HG := Lib.hid hgl
    have HI := Lib.hid hin
    have hbl := h.lt
    have hBw := h.le
    unfold TreeV at hT
    obtain ⟨a, cap, rfl, hcap, hk⟩ := hT
    generalize hX : textE (.mk o n nm ks) = X at *
    have HX := Lib.hid hX
    clear hX hgl hf hkl hin hi1 hi2
    rcases opK_012 HI.out with hz | hz | hz
    · rw [hz] at hK
      have HT : Hid (X = leafS o n nm) := by unfold Hid; rw [← HX.out, textE_0 _ _ _ _ hz]; rfl
      clear hz hk HX
      generalize ks.length = len at *
      unfold exV
      go_enter Tryz.func33, Tryz.ntmps33
      go_wp2_with fail
      refine (leafS_any o n nm a len cap _ (Tab.alloc h.tab _) hn.1 hn.2).mono ?_
      rintro e w1 ⟨rfl, hb1⟩
      have hbw1 := below_new hb1
      have hwr1 := h.below hbw1
      rw [HT.out] at hl
      go_wp2_with fail
      refine (writeS_wr B b l _ _ hwr1 hl).mono ?_
      rintro e w2 ⟨rfl, hw2⟩
      have HF2 := Lib.hid (hw2.after hbw1 hBw)
      go_wp2
      go_end0
      exact ⟨rfl, by rw [HT.out]; exact HF2.out⟩
    · obtain ⟨k, rfl⟩ := kids_1 HF.out hz
      rw [hz] at hK
      have HT : Hid (X = opS o ++ wrapT (enclB o k.op 0) (textE k)) := by unfold Hid; rw [← HX.out, textE_1 _ _ _ _ hz]
      clear hz HX
      obtain ⟨g, off, rfl, hgB, hgw, hTL⟩ := hk (by simp)
      rw [TreeL] at hTL
      obtain ⟨⟨ka, kc, c0, c1, c2, c3, hkt⟩, -⟩ := hTL
      have hgk := HG.out
      rw [goodL] at hgk
      have hW := Lib.hid (IH.out k (by simp))
      have hl2 := hl
      rw [HT.out, List.length_append] at hl2
      have HL2 := Lib.hid hl2
      clear hl hl2 hk
      have hX0 := Box.new w 25 #[.int .i64 o, .int .i64 n, .string ⟨nm.toArray⟩, .slice (some ⟨g, off, none⟩) 1 cap]
      unfold exV
      go_enter Tryz.func33, Tryz.ntmps33
      go_wp2_with fail
      refine (writeS_wr B b l (opS o) _ (h.alloc _) (by have := HL2.out; omega)).mono ?_
      rintro e w1 ⟨rfl, hw1⟩
      have hx1 := hw1.kw.box hX0 (by omega) (by decide)
      have hw01 := hw1.after ((Below.refl w.heap.size w).alloc (Nat.le_refl _) _) hBw
      obtain ⟨x0, x1, x2, x3, -, -, -, -⟩ := hx1.four
      have hxl := hx1.lt
      rw [← hw01.below.cell (p := ⟨g, _, none⟩) hgB] at c0 c1 c2 c3
      have hkt1 := TreeV.keep hw01.below.size (fun q hq _ => hw01.below.block q hq) _ _ hkt
      clear hX0 hkt
      go_wp2_with fail
      refine (kid_of k hW.out B b _ _ o n nm g off 1 cap 0 hgk.1 (by have := HL2.out; rw [List.length_append]; omega) hw1.wr HI.out hgB (by omega) (by omega) ka kc (by simpa using c0) (by simpa using c1) (by simpa using c2) (by simpa using c3) hkt1).mono ?_
      rintro e w2 ⟨rfl, hw2⟩
      have HF2 := Lib.hid (hw01.trans hw2)
      go_wp2
      go_end0
      refine ⟨rfl, ?_⟩
      have := HF2.out
      rw [HT.out, ← List.append_assoc]
      exact this
    · obtain ⟨k, m, rfl⟩ := kids_2 HF.out hz
      rw [hz] at hK
      have HT : Hid (X = wrapT (enclB o k.op 0) (textE k) ++ (32 :: (opS o ++ [32])) ++ wrapT (enclB o m.op 1) (textE m)) := by unfold Hid; rw [← HX.out, textE_2 _ _ _ _ _ hz]
      clear hz HX
      obtain ⟨g, off, rfl, hgB, hgw, hTL⟩ := hk (by simp)
      rw [TreeL, TreeL] at hTL
      obtain ⟨⟨ka, kc, c0, c1, c2, c3, hkt⟩, ⟨ma, mc, e0, e1, e2, e3, hmt⟩, -⟩ := hTL
      have hgk := HG.out
      rw [goodL, goodL] at hgk
      have hW := Lib.hid (IH.out k (by simp))
      have hV := Lib.hid (IH.out m (by simp))
      have hl2 := hl
      rw [HT.out, List.length_append, List.length_append] at hl2
      have HL2 := Lib.hid hl2
      clear hl hl2 hk
      have hX0 := Box.new w 25 #[.int .i64 o, .int .i64 n, .string ⟨nm.toArray⟩, .slice (some ⟨g, off, none⟩) 2 cap]
      have hb0 : ∀ ob, Below w.heap.size w (w.alloc ob) := fun ob => (Below.refl _ _).alloc (Nat.le_refl _) ob
      have HB := Lib.hid hb0
      clear hb0
      unfold exV
      go_enter Tryz.func33, Tryz.ntmps33
      go_wp2_with fail
      refine (kid_of k hW.out B b l _ o n nm g off 2 cap 0 hgk.1 (by have := HL2.out; omega) (h.alloc _) HI.out hgB (by omega) (by omega) ka kc (by rw [Below.cell (HB.out _) hgw]; simpa using c0) (by rw [Below.cell (HB.out _) hgw]; simpa using c1) (by rw [Below.cell (HB.out _) hgw]; simpa using c2) (by rw [Below.cell (HB.out _) hgw]; simpa using c3) (hkt.alloc _)).mono ?_
      rintro e w1 ⟨rfl, hw1⟩
      have hx1 := hw1.kw.box hX0 (by omega) (by decide)
      have hw01 := hw1.after (HB.out _) hBw
      obtain ⟨x0, x1, x2, x3, -, -, -, -⟩ := hx1.four
      have hxl := hx1.lt
      have hS1 := hw1.wr.ops.s o ho
      have hG1 := hw1.wr.ops.lt
      clear hX0
      generalize hQ : wrapT (enclB o k.op 0) (textE k) = Q at *
      have HQ := Lib.hid hQ
      clear hQ
      have hol := opS_len o ho
      go_wp2_with fail
      rw [cat_sign]
      refine (writeS_wr B b _ _ _ hw1.wr (by have := HL2.out; rw [List.length_append]; omega)).mono ?_
      rintro e w2 ⟨rfl, hw2⟩
      have hx2 := hw2.kw.box hx1 (by omega) (by decide)
      have hw02 := hw01.trans hw2
      clear x0 x1 x2 x3
      obtain ⟨x0, x1, x2, x3, -, -, -, -⟩ := hx2.four
      have hxl2 := hx2.lt
      rw [← hw02.below.cell (p := ⟨g, _, none⟩) hgB] at e0 e1 e2 e3
      have hmt2 := TreeV.keep hw02.below.size (fun q hq _ => hw02.below.block q hq) _ _ hmt
      clear hmt hx1 hw1 hw01 hS1 hG1
      go_wp2_with fail
      refine (kid_of m hV.out B b _ _ o n nm g off 2 cap 1 hgk.2.1 (by have := HL2.out; rw [List.length_append, List.length_append]; omega) hw2.wr HI.out hgB (by omega) (by omega) ma mc (by simpa using e0) (by simpa using e1) (by simpa using e2) (by simpa using e3) hmt2).mono ?_
      rintro e w3 ⟨rfl, hw3⟩
      have HF2 := Lib.hid (hw02.trans hw3)
      go_wp2
      go_end0
      refine ⟨rfl, ?_⟩
      have := HF2.out
      rw [HT.out, ← List.append_assoc, ← List.append_assoc]
      exact this
end Go.Proofs.YtinocaggponpmaaGreatDoor.Ep
