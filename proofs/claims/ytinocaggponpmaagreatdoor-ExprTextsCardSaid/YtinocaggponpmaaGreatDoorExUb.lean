/-
  The document's last line: minus, not, brackets, numbers and names. Printed by wip/tools/genu5.py.
  All lines of the document's grammar; its Take and its Parse.
  The contract of the document's Parse.
-/
import Derived.Test.YtinocaggponpmaaGreatDoorExUa
import Derived.Test.YtinocaggponpmaaGreatDoorExP2
import Derived.Test.YtinocaggponpmaaGreatDoorExRa
import Derived.Test.YtinocaggponpmaaGreatDoorLexQ
namespace Go.Proofs.YtinocaggponpmaaGreatDoor.Ep
open Go.RowKit Lx

theorem operT_u (ts : List Tok) : operT ts 5 1 = if sgnT ts [45] = true then 2 else if sgnT ts [33] = true then 3 else -1 := by
  unfold operT
  simp [opsT, operGo]
theorem upost_er_at {S : Nat → Prop} {L : List Tok} {i b b' : Nat} {k : Int} {w w' : World} {f : Int} (hk : ((i + (b - b') : Nat) : Int) = k) (hf : f ≠ 0) (hb : b' ≤ b) (hB : Below w.heap.size w w') :
    UPost S L i b w (.er f b') (.returned (.tuple #[.agg #[.int .i64 0, .int .i64 0, .string ⟨#[]⟩, .slice none 0 0], .int .i64 f, .int .i64 k])) w' := by
  subst hk; exact upost_er hf hb hB
theorem upost_ok_at {S : Nat → Prop} {L : List Tok} {i b b' : Nat} {k : Int} {w w' : World} {t : Ex} {v : Value} {ts : List Tok} (hk : ((i + (b - b') : Nat) : Int) = k) (hb : b' < b) (hts : ts = L.drop (i + (b - b'))) (hT : TreeV S w' t v) (hB : Below w.heap.size w w') :
    UPost S L i b w (.ok t b' ts) (.returned (.tuple #[v, .int .i64 0, .int .i64 k])) w' := by
  subst hk; exact upost_ok hb hts hT hB
theorem tok_all (g c : Nat) (L : List Tok) (hl : L.length ≤ 3000) (hc : L.length ≤ c) (k : Nat) (w : World) (h : Eu.Toks w g L) :
    Calls Tryz.prog 77 #[.slice (some ⟨g, 0, none⟩) L.length c, .int .i64 (k : Int)] w (Eu.Val (.agg #[.int .i64 (nextT (L.drop k)).kind, .string ⟨(nextT (L.drop k)).text.toArray⟩, .int .i64 (nextT (L.drop k)).n, .int .i64 (nextT (L.drop k)).at_]) w) := Eu.token_all g c L k w h hl hc
/-- A token's sign, when it is known whether it is this one. -/
theorem sgn_is (kd n a : Int) (tx s : List UInt8) (b : Bool) (h : (decide (kd = 4) && (tx == s)) = b) (w : World) :
    Calls Tryz.prog 116 #[.agg #[.int .i64 kd, .string ⟨tx.toArray⟩, .int .i64 n, .int .i64 a], .string ⟨s.toArray⟩] w (Eu.Val (.bool b) w) := by
  subst h; exact Eu.sgn_all ⟨kd, tx, n, a⟩ s w

/-- Behind a bracket. -/
def openR (r : Res) : Res := match r with | .er f b' => .er f b' | .ok e b' ts' => if sgnT ts' [41] = true then (if b' = 0 then .er 2 0 else .ok e (b' - 1) ts'.tail) else .er 11 b'
theorem tree_under {w3 V : World} {S2 S : Nat → Prop} {tr : Ex} {a : Option Addr} {cp : Nat} {o : Int} {b0 b1 : Int} {bs : ByteArray} {b3 : Value} (hsz : V.heap.size = w3.heap.size) (hbk : ∀ q, S2 q → q < w3.heap.size → V.heap[q]? = w3.heap[q]?)
    (h2 : TreeV S2 w3 tr (exV tr.op tr.n tr.name a tr.kids.length cp)) (hS : ∀ q, S2 q ∨ q = w3.heap.size + 1 → S q) :
    TreeV S ((V.alloc (.cells #[.int .i64 b0, .int .i64 b1, .string bs, b3] 25)).alloc (.cells #[.int .i64 tr.op, .int .i64 tr.n, .string ⟨tr.name.toArray⟩, .slice a tr.kids.length cp] 25))
      (.mk o 0 [] [tr]) (exV o 0 [] (some ⟨w3.heap.size + 1, 0, none⟩) 1 1) := by
  have g2 := TreeV.keep (w' := V) (by omega) (fun q hq hlt => hbk q hq hlt) _ _ h2
  have hrow := Box.new (V.alloc (.cells #[.int .i64 b0, .int .i64 b1, .string bs, b3] 25)) 25 #[.int .i64 tr.op, .int .i64 tr.n, .string ⟨tr.name.toArray⟩, .slice a tr.kids.length cp]
  have e4 : (V.alloc (.cells #[.int .i64 b0, .int .i64 b1, .string bs, b3] 25)).heap.size = w3.heap.size + 1 := by simp [hsz]
  rw [e4] at hrow
  exact tree_one hrow (TreeV.low (fun q hq => hS q (Or.inl hq)) _ _ ((g2.alloc _).alloc _)) (hS _ (Or.inr rfl)) o

section
variable (g c : Nat) (L : List Tok) (first : Nat) (hl : L.length ≤ 3000) (hc : L.length ≤ c) (hfi : first ≤ 3000)
include hl hc hfi

omit hfi in
set_option maxRecDepth 100000 in
set_option maxHeartbeats 4000000 in
theorem un_none (i b : Nat) (w : World) (_hb : b ≤ 64) (_hib : i + b = first + 64) (hT : Eu.Toks w g L) (hk : (nextT (L.drop i)).kind ≠ 2 ∧ (nextT (L.drop i)).kind ≠ 1 ∧ ∀ s ∈ [[45], [33], [40]], sgnT (L.drop i) s = false) :
    Calls Tryz.prog 75 #[.slice (some ⟨g, 0, none⟩) L.length c, .int .i64 (first : Int), .int .i64 (i : Int)] w (UPost (fun k => w.heap.size ≤ k) L i b w (.er 11 b)) := by
  have HTok := Lib.hid (tok_all g c L hl hc)
  have HTok1 := Lib.hid (HTok.out i (w.alloc (.cells #[.int .i64 0, .int .i64 0, .string ⟨#[]⟩, .slice none 0 0] 25)) (Toks.alloc hT _))
  have hn : ∀ s ∈ [[45], [33], [40]], (decide ((nextT (L.drop i)).kind = 4) && ((nextT (L.drop i)).text == s)) = false := hk.2.2
  replace hk : (nextT (L.drop i)).kind ≠ 2 ∧ (nextT (L.drop i)).kind ≠ 1 := ⟨hk.1, hk.2.1⟩
  generalize ht : nextT (L.drop i) = t at *
  have HT0 := Lib.hid ht
  clear ht
  obtain ⟨kd, tx, tn, ta⟩ := t
  simp only at hk
  have HS1 := Lib.hid (sgn_is kd tn ta tx [45] false (by exact hn _ (by simp)))
  have HS2 := Lib.hid (sgn_is kd tn ta tx [33] false (by exact hn _ (by simp)))
  have HS3 := Lib.hid (sgn_is kd tn ta tx [40] false (by exact hn _ (by simp)))
  have d2 : (kd != 2) = true := by simpa using hk.1
  have d1 : (kd != 1) = true := by simpa using hk.2
  clear hn hk
  go_enter Tryz.func75, Tryz.ntmps75
  go_wp2_with fail
  refine HTok1.out.mono ?_
  rintro e w1 ⟨rfl, hb1⟩
  have hx1 := (Box.new w 25 #[.int .i64 0, .int .i64 0, .string ⟨#[]⟩, .slice none 0 0]).below hb1 (by simp)
  have hB1 : Below w.heap.size w w1 := ((Below.refl w.heap.size w).alloc (Nat.le_refl _) _).trans (hb1.mono (by simp))
  have hs1 : w.heap.size < w1.heap.size := by have := hb1.size; simp at this; omega
  have hy1 := Box.new w1 52 #[.int .i64 kd, .string ⟨tx.toArray⟩, .int .i64 tn, .int .i64 ta]
  have hx1 := hx1.alloc (.cells #[.int .i64 kd, .string ⟨tx.toArray⟩, .int .i64 tn, .int .i64 ta] 52)
  have hB1 := hB1.alloc hB1.size (.cells #[.int .i64 kd, .string ⟨tx.toArray⟩, .int .i64 tn, .int .i64 ta] 52)
  clear hb1 HTok1
  go_wp2_with fail
  refine (HS1.out _).mono ?_
  rintro e w2 ⟨rfl, hb2⟩
  have hx2 := hx1.below hb2 hx1.lt
  have hy2 := hy1.below hb2 hy1.lt
  have hB2 := hB1.trans (hb2.mono hB1.size)
  clear hx1 hy1 hB1 hb2 HS1
  obtain ⟨y0, y1, y2, y3, -, -, -, -⟩ := hy2.four
  go_wp2_with fail
  refine (HS2.out _).mono ?_
  rintro e w3 ⟨rfl, hb3⟩
  have hx3 := hx2.below hb3 hx2.lt
  have hy3 := hy2.below hb3 hy2.lt
  have hB3 := hB2.trans (hb3.mono hB2.size)
  clear hx2 hy2 hB2 hb3 HS2 y0 y1 y2 y3
  obtain ⟨y0, y1, y2, y3, -, -, -, -⟩ := hy3.four
  go_wp2_with fail
  refine (HS3.out _).mono ?_
  rintro e w4 ⟨rfl, hb4⟩
  have hx4 := hx3.below hb4 hx3.lt
  have hy4 := hy3.below hb4 hy3.lt
  have hB4 := hB3.trans (hb4.mono hB3.size)
  have hT4 := hT.below hB4
  clear hx3 hy3 hB3 hb4 HS3 y0 y1 y2 y3 hT
  obtain ⟨y0, y1, y2, y3, -, -, -, -⟩ := hy4.four
  obtain ⟨r0, r1, r2, r3, s0, s1, s2, s3⟩ := hx4.four
  have hxl := hx4.lt
  have hyl := hy4.lt
  go_wp2
  exact bodyPost_ret (v := .tuple #[exV 0 0 [] none 0 0, .int .i64 11, .int .i64 (i : Int)]) (by simp [results, Tryz.results75, go_sem, exV, r0, r1, r2, r3]) rfl
    (upost_er_at (show ((i + (b - b) : Nat) : Int) = (i : Int) by omega) (by decide) (Nat.le_refl _) (below_set4 hB4 (Nat.le_refl _) _ _ _ _))

omit hfi in
set_option maxRecDepth 100000 in
set_option maxHeartbeats 4000000 in
theorem un_minus_long (i b : Nat) (w : World) (hb : b ≤ 64) (hib : i + b = first + 64) (hT : Eu.Toks w g L) (h0 : b = 0) (hk : (nextT (L.drop i)).kind = 4 ∧ (nextT (L.drop i)).text = [45]) :
    Calls Tryz.prog 75 #[.slice (some ⟨g, 0, none⟩) L.length c, .int .i64 (first : Int), .int .i64 (i : Int)] w (UPost (fun k => w.heap.size ≤ k) L i b w (.er 2 0)) := by
  have HTok := Lib.hid (tok_all g c L hl hc)
  have HTok1 := Lib.hid (HTok.out i (w.alloc (.cells #[.int .i64 0, .int .i64 0, .string ⟨#[]⟩, .slice none 0 0] 25)) (Toks.alloc hT _))
  generalize ht : nextT (L.drop i) = t at *
  have HT0 := Lib.hid ht
  clear ht
  obtain ⟨kd, tx, tn, ta⟩ := t
  simp only at hk
  have HS1 := Lib.hid (sgn_is kd tn ta tx [45] true (by rw [hk.1, hk.2]; decide))
  have HS2 := Lib.hid (sgn_is kd tn ta tx [33] false (by rw [hk.1, hk.2]; decide))
  have HS3 := Lib.hid (sgn_is kd tn ta tx [40] false (by rw [hk.1, hk.2]; decide))
  have d2 : (kd == 2) = false := beq_eq_false_iff_ne.2 (by omega)
  have d1 : (kd == 1) = false := beq_eq_false_iff_ne.2 (by omega)
  clear hk
  go_enter Tryz.func75, Tryz.ntmps75
  go_wp2_with fail
  refine HTok1.out.mono ?_
  rintro e w1 ⟨rfl, hb1⟩
  have hx1 := (Box.new w 25 #[.int .i64 0, .int .i64 0, .string ⟨#[]⟩, .slice none 0 0]).below hb1 (by simp)
  have hB1 : Below w.heap.size w w1 := ((Below.refl w.heap.size w).alloc (Nat.le_refl _) _).trans (hb1.mono (by simp))
  have hs1 : w.heap.size < w1.heap.size := by have := hb1.size; simp at this; omega
  have hy1 := Box.new w1 52 #[.int .i64 kd, .string ⟨tx.toArray⟩, .int .i64 tn, .int .i64 ta]
  have hx1 := hx1.alloc (.cells #[.int .i64 kd, .string ⟨tx.toArray⟩, .int .i64 tn, .int .i64 ta] 52)
  have hB1 := hB1.alloc hB1.size (.cells #[.int .i64 kd, .string ⟨tx.toArray⟩, .int .i64 tn, .int .i64 ta] 52)
  clear hb1 HTok1
  go_wp2_with fail
  refine (HS1.out _).mono ?_
  rintro e w2 ⟨rfl, hb2⟩
  have hx2 := hx1.below hb2 hx1.lt
  have hy2 := hy1.below hb2 hy1.lt
  have hB2 := hB1.trans (hb2.mono hB1.size)
  clear hx1 hy1 hB1 hb2 HS1
  obtain ⟨y0, y1, y2, y3, -, -, -, -⟩ := hy2.four
  go_wp2_with fail
  refine (HS2.out _).mono ?_
  rintro e w3 ⟨rfl, hb3⟩
  have hx3 := hx2.below hb3 hx2.lt
  have hy3 := hy2.below hb3 hy2.lt
  have hB3 := hB2.trans (hb3.mono hB2.size)
  clear hx2 hy2 hB2 hb3 HS2 y0 y1 y2 y3
  obtain ⟨y0, y1, y2, y3, -, -, -, -⟩ := hy3.four
  go_wp2_with fail
  refine (HS3.out _).mono ?_
  rintro e w4 ⟨rfl, hb4⟩
  have hx4 := hx3.below hb4 hx3.lt
  have hy4 := hy3.below hb4 hy3.lt
  have hB4 := hB3.trans (hb4.mono hB3.size)
  have hT4 := hT.below hB4
  clear hx3 hy3 hB3 hb4 HS3 y0 y1 y2 y3 hT
  obtain ⟨y0, y1, y2, y3, -, -, -, -⟩ := hy4.four
  obtain ⟨r0, r1, r2, r3, s0, s1, s2, s3⟩ := hx4.four
  have hxl := hx4.lt
  have hyl := hy4.lt
  have d : decide ((64 : Int) ≤ (i : Int) - (first : Int)) = true := decide_eq_true (by omega)
  subst h0
  clear HT0
  go_wp2
  exact bodyPost_ret (v := .tuple #[exV 0 0 [] none 0 0, .int .i64 2, .int .i64 (i : Int)]) (by simp [results, Tryz.results75, go_sem, exV, r0, r1, r2, r3]) rfl
    (upost_er_at (show ((i + (0 - 0) : Nat) : Int) = (i : Int) by omega) (by decide) (Nat.zero_le _) (below_set4 hB4 (Nat.le_refl _) _ _ _ _))

omit hfi in
set_option maxRecDepth 100000 in
set_option maxHeartbeats 4000000 in
theorem un_not_long (i b : Nat) (w : World) (hb : b ≤ 64) (hib : i + b = first + 64) (hT : Eu.Toks w g L) (h0 : b = 0) (hk : (nextT (L.drop i)).kind = 4 ∧ (nextT (L.drop i)).text = [33]) :
    Calls Tryz.prog 75 #[.slice (some ⟨g, 0, none⟩) L.length c, .int .i64 (first : Int), .int .i64 (i : Int)] w (UPost (fun k => w.heap.size ≤ k) L i b w (.er 2 0)) := by
  have HTok := Lib.hid (tok_all g c L hl hc)
  have HTok1 := Lib.hid (HTok.out i (w.alloc (.cells #[.int .i64 0, .int .i64 0, .string ⟨#[]⟩, .slice none 0 0] 25)) (Toks.alloc hT _))
  generalize ht : nextT (L.drop i) = t at *
  have HT0 := Lib.hid ht
  clear ht
  obtain ⟨kd, tx, tn, ta⟩ := t
  simp only at hk
  have HS1 := Lib.hid (sgn_is kd tn ta tx [45] false (by rw [hk.1, hk.2]; decide))
  have HS2 := Lib.hid (sgn_is kd tn ta tx [33] true (by rw [hk.1, hk.2]; decide))
  have HS3 := Lib.hid (sgn_is kd tn ta tx [40] false (by rw [hk.1, hk.2]; decide))
  have d2 : (kd == 2) = false := beq_eq_false_iff_ne.2 (by omega)
  have d1 : (kd == 1) = false := beq_eq_false_iff_ne.2 (by omega)
  clear hk
  go_enter Tryz.func75, Tryz.ntmps75
  go_wp2_with fail
  refine HTok1.out.mono ?_
  rintro e w1 ⟨rfl, hb1⟩
  have hx1 := (Box.new w 25 #[.int .i64 0, .int .i64 0, .string ⟨#[]⟩, .slice none 0 0]).below hb1 (by simp)
  have hB1 : Below w.heap.size w w1 := ((Below.refl w.heap.size w).alloc (Nat.le_refl _) _).trans (hb1.mono (by simp))
  have hs1 : w.heap.size < w1.heap.size := by have := hb1.size; simp at this; omega
  have hy1 := Box.new w1 52 #[.int .i64 kd, .string ⟨tx.toArray⟩, .int .i64 tn, .int .i64 ta]
  have hx1 := hx1.alloc (.cells #[.int .i64 kd, .string ⟨tx.toArray⟩, .int .i64 tn, .int .i64 ta] 52)
  have hB1 := hB1.alloc hB1.size (.cells #[.int .i64 kd, .string ⟨tx.toArray⟩, .int .i64 tn, .int .i64 ta] 52)
  clear hb1 HTok1
  go_wp2_with fail
  refine (HS1.out _).mono ?_
  rintro e w2 ⟨rfl, hb2⟩
  have hx2 := hx1.below hb2 hx1.lt
  have hy2 := hy1.below hb2 hy1.lt
  have hB2 := hB1.trans (hb2.mono hB1.size)
  clear hx1 hy1 hB1 hb2 HS1
  obtain ⟨y0, y1, y2, y3, -, -, -, -⟩ := hy2.four
  go_wp2_with fail
  refine (HS2.out _).mono ?_
  rintro e w3 ⟨rfl, hb3⟩
  have hx3 := hx2.below hb3 hx2.lt
  have hy3 := hy2.below hb3 hy2.lt
  have hB3 := hB2.trans (hb3.mono hB2.size)
  clear hx2 hy2 hB2 hb3 HS2 y0 y1 y2 y3
  obtain ⟨y0, y1, y2, y3, -, -, -, -⟩ := hy3.four
  go_wp2_with fail
  refine (HS3.out _).mono ?_
  rintro e w4 ⟨rfl, hb4⟩
  have hx4 := hx3.below hb4 hx3.lt
  have hy4 := hy3.below hb4 hy3.lt
  have hB4 := hB3.trans (hb4.mono hB3.size)
  have hT4 := hT.below hB4
  clear hx3 hy3 hB3 hb4 HS3 y0 y1 y2 y3 hT
  obtain ⟨y0, y1, y2, y3, -, -, -, -⟩ := hy4.four
  obtain ⟨r0, r1, r2, r3, s0, s1, s2, s3⟩ := hx4.four
  have hxl := hx4.lt
  have hyl := hy4.lt
  have d : decide ((64 : Int) ≤ (i : Int) - (first : Int)) = true := decide_eq_true (by omega)
  subst h0
  clear HT0
  go_wp2
  exact bodyPost_ret (v := .tuple #[exV 0 0 [] none 0 0, .int .i64 2, .int .i64 (i : Int)]) (by simp [results, Tryz.results75, go_sem, exV, r0, r1, r2, r3]) rfl
    (upost_er_at (show ((i + (0 - 0) : Nat) : Int) = (i : Int) by omega) (by decide) (Nat.zero_le _) (below_set4 hB4 (Nat.le_refl _) _ _ _ _))

omit hfi in
set_option maxRecDepth 100000 in
set_option maxHeartbeats 4000000 in
theorem un_open_long (i b : Nat) (w : World) (hb : b ≤ 64) (hib : i + b = first + 64) (hT : Eu.Toks w g L) (h0 : b = 0) (hk : (nextT (L.drop i)).kind = 4 ∧ (nextT (L.drop i)).text = [40]) :
    Calls Tryz.prog 75 #[.slice (some ⟨g, 0, none⟩) L.length c, .int .i64 (first : Int), .int .i64 (i : Int)] w (UPost (fun k => w.heap.size ≤ k) L i b w (.er 2 0)) := by
  have HTok := Lib.hid (tok_all g c L hl hc)
  have HTok1 := Lib.hid (HTok.out i (w.alloc (.cells #[.int .i64 0, .int .i64 0, .string ⟨#[]⟩, .slice none 0 0] 25)) (Toks.alloc hT _))
  generalize ht : nextT (L.drop i) = t at *
  have HT0 := Lib.hid ht
  clear ht
  obtain ⟨kd, tx, tn, ta⟩ := t
  simp only at hk
  have HS1 := Lib.hid (sgn_is kd tn ta tx [45] false (by rw [hk.1, hk.2]; decide))
  have HS2 := Lib.hid (sgn_is kd tn ta tx [33] false (by rw [hk.1, hk.2]; decide))
  have HS3 := Lib.hid (sgn_is kd tn ta tx [40] true (by rw [hk.1, hk.2]; decide))
  have d2 : (kd == 2) = false := beq_eq_false_iff_ne.2 (by omega)
  have d1 : (kd == 1) = false := beq_eq_false_iff_ne.2 (by omega)
  clear hk
  go_enter Tryz.func75, Tryz.ntmps75
  go_wp2_with fail
  refine HTok1.out.mono ?_
  rintro e w1 ⟨rfl, hb1⟩
  have hx1 := (Box.new w 25 #[.int .i64 0, .int .i64 0, .string ⟨#[]⟩, .slice none 0 0]).below hb1 (by simp)
  have hB1 : Below w.heap.size w w1 := ((Below.refl w.heap.size w).alloc (Nat.le_refl _) _).trans (hb1.mono (by simp))
  have hs1 : w.heap.size < w1.heap.size := by have := hb1.size; simp at this; omega
  have hy1 := Box.new w1 52 #[.int .i64 kd, .string ⟨tx.toArray⟩, .int .i64 tn, .int .i64 ta]
  have hx1 := hx1.alloc (.cells #[.int .i64 kd, .string ⟨tx.toArray⟩, .int .i64 tn, .int .i64 ta] 52)
  have hB1 := hB1.alloc hB1.size (.cells #[.int .i64 kd, .string ⟨tx.toArray⟩, .int .i64 tn, .int .i64 ta] 52)
  clear hb1 HTok1
  go_wp2_with fail
  refine (HS1.out _).mono ?_
  rintro e w2 ⟨rfl, hb2⟩
  have hx2 := hx1.below hb2 hx1.lt
  have hy2 := hy1.below hb2 hy1.lt
  have hB2 := hB1.trans (hb2.mono hB1.size)
  clear hx1 hy1 hB1 hb2 HS1
  obtain ⟨y0, y1, y2, y3, -, -, -, -⟩ := hy2.four
  go_wp2_with fail
  refine (HS2.out _).mono ?_
  rintro e w3 ⟨rfl, hb3⟩
  have hx3 := hx2.below hb3 hx2.lt
  have hy3 := hy2.below hb3 hy2.lt
  have hB3 := hB2.trans (hb3.mono hB2.size)
  clear hx2 hy2 hB2 hb3 HS2 y0 y1 y2 y3
  obtain ⟨y0, y1, y2, y3, -, -, -, -⟩ := hy3.four
  go_wp2_with fail
  refine (HS3.out _).mono ?_
  rintro e w4 ⟨rfl, hb4⟩
  have hx4 := hx3.below hb4 hx3.lt
  have hy4 := hy3.below hb4 hy3.lt
  have hB4 := hB3.trans (hb4.mono hB3.size)
  have hT4 := hT.below hB4
  clear hx3 hy3 hB3 hb4 HS3 y0 y1 y2 y3 hT
  obtain ⟨y0, y1, y2, y3, -, -, -, -⟩ := hy4.four
  obtain ⟨r0, r1, r2, r3, s0, s1, s2, s3⟩ := hx4.four
  have hxl := hx4.lt
  have hyl := hy4.lt
  have d : decide ((64 : Int) ≤ (i : Int) - (first : Int)) = true := decide_eq_true (by omega)
  subst h0
  clear HT0
  go_wp2
  exact bodyPost_ret (v := .tuple #[exV 0 0 [] none 0 0, .int .i64 2, .int .i64 (i : Int)]) (by simp [results, Tryz.results75, go_sem, exV, r0, r1, r2, r3]) rfl
    (upost_er_at (show ((i + (0 - 0) : Nat) : Int) = (i : Int) by omega) (by decide) (Nat.zero_le _) (below_set4 hB4 (Nat.le_refl _) _ _ _ _))

omit hfi in
set_option maxRecDepth 100000 in
set_option maxHeartbeats 4000000 in
theorem un_num_long (i b : Nat) (w : World) (hb : b ≤ 64) (hib : i + b = first + 64) (hT : Eu.Toks w g L) (h0 : b = 0) (hk : (nextT (L.drop i)).kind = 2) :
    Calls Tryz.prog 75 #[.slice (some ⟨g, 0, none⟩) L.length c, .int .i64 (first : Int), .int .i64 (i : Int)] w (UPost (fun k => w.heap.size ≤ k) L i b w (.er 2 0)) := by
  have HTok := Lib.hid (tok_all g c L hl hc)
  have HTok1 := Lib.hid (HTok.out i (w.alloc (.cells #[.int .i64 0, .int .i64 0, .string ⟨#[]⟩, .slice none 0 0] 25)) (Toks.alloc hT _))
  generalize ht : nextT (L.drop i) = t at *
  have HT0 := Lib.hid ht
  clear ht
  obtain ⟨kd, tx, tn, ta⟩ := t
  simp only at hk
  have HS1 := Lib.hid (sgn_is kd tn ta tx [45] false (by rw [hk]; rfl))
  have HS2 := Lib.hid (sgn_is kd tn ta tx [33] false (by rw [hk]; rfl))
  have HS3 := Lib.hid (sgn_is kd tn ta tx [40] false (by rw [hk]; rfl))
  have d2 : (kd == 2) = true := beq_iff_eq.2 hk
  have d2n : (kd != 2) = false := by rw [hk]; rfl
  clear hk
  go_enter Tryz.func75, Tryz.ntmps75
  go_wp2_with fail
  refine HTok1.out.mono ?_
  rintro e w1 ⟨rfl, hb1⟩
  have hx1 := (Box.new w 25 #[.int .i64 0, .int .i64 0, .string ⟨#[]⟩, .slice none 0 0]).below hb1 (by simp)
  have hB1 : Below w.heap.size w w1 := ((Below.refl w.heap.size w).alloc (Nat.le_refl _) _).trans (hb1.mono (by simp))
  have hs1 : w.heap.size < w1.heap.size := by have := hb1.size; simp at this; omega
  have hy1 := Box.new w1 52 #[.int .i64 kd, .string ⟨tx.toArray⟩, .int .i64 tn, .int .i64 ta]
  have hx1 := hx1.alloc (.cells #[.int .i64 kd, .string ⟨tx.toArray⟩, .int .i64 tn, .int .i64 ta] 52)
  have hB1 := hB1.alloc hB1.size (.cells #[.int .i64 kd, .string ⟨tx.toArray⟩, .int .i64 tn, .int .i64 ta] 52)
  clear hb1 HTok1
  go_wp2_with fail
  refine (HS1.out _).mono ?_
  rintro e w2 ⟨rfl, hb2⟩
  have hx2 := hx1.below hb2 hx1.lt
  have hy2 := hy1.below hb2 hy1.lt
  have hB2 := hB1.trans (hb2.mono hB1.size)
  clear hx1 hy1 hB1 hb2 HS1
  obtain ⟨y0, y1, y2, y3, -, -, -, -⟩ := hy2.four
  go_wp2_with fail
  refine (HS2.out _).mono ?_
  rintro e w3 ⟨rfl, hb3⟩
  have hx3 := hx2.below hb3 hx2.lt
  have hy3 := hy2.below hb3 hy2.lt
  have hB3 := hB2.trans (hb3.mono hB2.size)
  clear hx2 hy2 hB2 hb3 HS2 y0 y1 y2 y3
  obtain ⟨y0, y1, y2, y3, -, -, -, -⟩ := hy3.four
  go_wp2_with fail
  refine (HS3.out _).mono ?_
  rintro e w4 ⟨rfl, hb4⟩
  have hx4 := hx3.below hb4 hx3.lt
  have hy4 := hy3.below hb4 hy3.lt
  have hB4 := hB3.trans (hb4.mono hB3.size)
  have hT4 := hT.below hB4
  clear hx3 hy3 hB3 hb4 HS3 y0 y1 y2 y3 hT
  obtain ⟨y0, y1, y2, y3, -, -, -, -⟩ := hy4.four
  obtain ⟨r0, r1, r2, r3, s0, s1, s2, s3⟩ := hx4.four
  have hxl := hx4.lt
  have hyl := hy4.lt
  have d : decide ((64 : Int) ≤ (i : Int) - (first : Int)) = true := decide_eq_true (by omega)
  subst h0
  clear HT0
  go_wp2
  exact bodyPost_ret (v := .tuple #[exV 0 0 [] none 0 0, .int .i64 2, .int .i64 (i : Int)]) (by simp [results, Tryz.results75, go_sem, exV, r0, r1, r2, r3]) rfl
    (upost_er_at (show ((i + (0 - 0) : Nat) : Int) = (i : Int) by omega) (by decide) (Nat.zero_le _) (below_set4 hB4 (Nat.le_refl _) _ _ _ _))

omit hfi in
set_option maxRecDepth 100000 in
set_option maxHeartbeats 4000000 in
theorem un_name_long (i b : Nat) (w : World) (hb : b ≤ 64) (hib : i + b = first + 64) (hT : Eu.Toks w g L) (h0 : b = 0) (hk : (nextT (L.drop i)).kind = 1) :
    Calls Tryz.prog 75 #[.slice (some ⟨g, 0, none⟩) L.length c, .int .i64 (first : Int), .int .i64 (i : Int)] w (UPost (fun k => w.heap.size ≤ k) L i b w (.er 2 0)) := by
  have HTok := Lib.hid (tok_all g c L hl hc)
  have HTok1 := Lib.hid (HTok.out i (w.alloc (.cells #[.int .i64 0, .int .i64 0, .string ⟨#[]⟩, .slice none 0 0] 25)) (Toks.alloc hT _))
  generalize ht : nextT (L.drop i) = t at *
  have HT0 := Lib.hid ht
  clear ht
  obtain ⟨kd, tx, tn, ta⟩ := t
  simp only at hk
  have HS1 := Lib.hid (sgn_is kd tn ta tx [45] false (by rw [hk]; rfl))
  have HS2 := Lib.hid (sgn_is kd tn ta tx [33] false (by rw [hk]; rfl))
  have HS3 := Lib.hid (sgn_is kd tn ta tx [40] false (by rw [hk]; rfl))
  have d2 : (kd == 2) = false := beq_eq_false_iff_ne.2 (by omega)
  have d2n : (kd != 2) = true := by rw [hk]; rfl
  have d1 : (kd == 1) = true := beq_iff_eq.2 hk
  have d1n : (kd != 1) = false := by rw [hk]; rfl
  clear hk
  go_enter Tryz.func75, Tryz.ntmps75
  go_wp2_with fail
  refine HTok1.out.mono ?_
  rintro e w1 ⟨rfl, hb1⟩
  have hx1 := (Box.new w 25 #[.int .i64 0, .int .i64 0, .string ⟨#[]⟩, .slice none 0 0]).below hb1 (by simp)
  have hB1 : Below w.heap.size w w1 := ((Below.refl w.heap.size w).alloc (Nat.le_refl _) _).trans (hb1.mono (by simp))
  have hs1 : w.heap.size < w1.heap.size := by have := hb1.size; simp at this; omega
  have hy1 := Box.new w1 52 #[.int .i64 kd, .string ⟨tx.toArray⟩, .int .i64 tn, .int .i64 ta]
  have hx1 := hx1.alloc (.cells #[.int .i64 kd, .string ⟨tx.toArray⟩, .int .i64 tn, .int .i64 ta] 52)
  have hB1 := hB1.alloc hB1.size (.cells #[.int .i64 kd, .string ⟨tx.toArray⟩, .int .i64 tn, .int .i64 ta] 52)
  clear hb1 HTok1
  go_wp2_with fail
  refine (HS1.out _).mono ?_
  rintro e w2 ⟨rfl, hb2⟩
  have hx2 := hx1.below hb2 hx1.lt
  have hy2 := hy1.below hb2 hy1.lt
  have hB2 := hB1.trans (hb2.mono hB1.size)
  clear hx1 hy1 hB1 hb2 HS1
  obtain ⟨y0, y1, y2, y3, -, -, -, -⟩ := hy2.four
  go_wp2_with fail
  refine (HS2.out _).mono ?_
  rintro e w3 ⟨rfl, hb3⟩
  have hx3 := hx2.below hb3 hx2.lt
  have hy3 := hy2.below hb3 hy2.lt
  have hB3 := hB2.trans (hb3.mono hB2.size)
  clear hx2 hy2 hB2 hb3 HS2 y0 y1 y2 y3
  obtain ⟨y0, y1, y2, y3, -, -, -, -⟩ := hy3.four
  go_wp2_with fail
  refine (HS3.out _).mono ?_
  rintro e w4 ⟨rfl, hb4⟩
  have hx4 := hx3.below hb4 hx3.lt
  have hy4 := hy3.below hb4 hy3.lt
  have hB4 := hB3.trans (hb4.mono hB3.size)
  have hT4 := hT.below hB4
  clear hx3 hy3 hB3 hb4 HS3 y0 y1 y2 y3 hT
  obtain ⟨y0, y1, y2, y3, -, -, -, -⟩ := hy4.four
  obtain ⟨r0, r1, r2, r3, s0, s1, s2, s3⟩ := hx4.four
  have hxl := hx4.lt
  have hyl := hy4.lt
  have d : decide ((64 : Int) ≤ (i : Int) - (first : Int)) = true := decide_eq_true (by omega)
  subst h0
  clear HT0
  go_wp2
  exact bodyPost_ret (v := .tuple #[exV 0 0 [] none 0 0, .int .i64 2, .int .i64 (i : Int)]) (by simp [results, Tryz.results75, go_sem, exV, r0, r1, r2, r3]) rfl
    (upost_er_at (show ((i + (0 - 0) : Nat) : Int) = (i : Int) by omega) (by decide) (Nat.zero_le _) (below_set4 hB4 (Nat.le_refl _) _ _ _ _))

set_option maxRecDepth 100000 in
set_option maxHeartbeats 4000000 in
theorem un_num_ok (i b : Nat) (w : World) (hb : b ≤ 64) (hib : i + b = first + 64) (hT : Eu.Toks w g L) (h0 : 0 < b) (hk : (nextT (L.drop i)).kind = 2) :
    Calls Tryz.prog 75 #[.slice (some ⟨g, 0, none⟩) L.length c, .int .i64 (first : Int), .int .i64 (i : Int)] w (UPost (fun k => w.heap.size ≤ k) L i b w (.ok (.mk 0 (nextT (L.drop i)).n [] []) (b - 1) (L.drop i).tail)) := by
  have HTok := Lib.hid (tok_all g c L hl hc)
  have HTok1 := Lib.hid (HTok.out i (w.alloc (.cells #[.int .i64 0, .int .i64 0, .string ⟨#[]⟩, .slice none 0 0] 25)) (Toks.alloc hT _))
  generalize ht : nextT (L.drop i) = t at *
  have HT0 := Lib.hid ht
  clear ht
  obtain ⟨kd, tx, tn, ta⟩ := t
  simp only at hk
  have HS1 := Lib.hid (sgn_is kd tn ta tx [45] false (by rw [hk]; rfl))
  have HS2 := Lib.hid (sgn_is kd tn ta tx [33] false (by rw [hk]; rfl))
  have HS3 := Lib.hid (sgn_is kd tn ta tx [40] false (by rw [hk]; rfl))
  have d2 : (kd == 2) = true := beq_iff_eq.2 hk
  have d2n : (kd != 2) = false := by rw [hk]; rfl
  clear hk
  go_enter Tryz.func75, Tryz.ntmps75
  go_wp2_with fail
  refine HTok1.out.mono ?_
  rintro e w1 ⟨rfl, hb1⟩
  have hx1 := (Box.new w 25 #[.int .i64 0, .int .i64 0, .string ⟨#[]⟩, .slice none 0 0]).below hb1 (by simp)
  have hB1 : Below w.heap.size w w1 := ((Below.refl w.heap.size w).alloc (Nat.le_refl _) _).trans (hb1.mono (by simp))
  have hs1 : w.heap.size < w1.heap.size := by have := hb1.size; simp at this; omega
  have hy1 := Box.new w1 52 #[.int .i64 kd, .string ⟨tx.toArray⟩, .int .i64 tn, .int .i64 ta]
  have hx1 := hx1.alloc (.cells #[.int .i64 kd, .string ⟨tx.toArray⟩, .int .i64 tn, .int .i64 ta] 52)
  have hB1 := hB1.alloc hB1.size (.cells #[.int .i64 kd, .string ⟨tx.toArray⟩, .int .i64 tn, .int .i64 ta] 52)
  clear hb1 HTok1
  go_wp2_with fail
  refine (HS1.out _).mono ?_
  rintro e w2 ⟨rfl, hb2⟩
  have hx2 := hx1.below hb2 hx1.lt
  have hy2 := hy1.below hb2 hy1.lt
  have hB2 := hB1.trans (hb2.mono hB1.size)
  clear hx1 hy1 hB1 hb2 HS1
  obtain ⟨y0, y1, y2, y3, -, -, -, -⟩ := hy2.four
  go_wp2_with fail
  refine (HS2.out _).mono ?_
  rintro e w3 ⟨rfl, hb3⟩
  have hx3 := hx2.below hb3 hx2.lt
  have hy3 := hy2.below hb3 hy2.lt
  have hB3 := hB2.trans (hb3.mono hB2.size)
  clear hx2 hy2 hB2 hb3 HS2 y0 y1 y2 y3
  obtain ⟨y0, y1, y2, y3, -, -, -, -⟩ := hy3.four
  go_wp2_with fail
  refine (HS3.out _).mono ?_
  rintro e w4 ⟨rfl, hb4⟩
  have hx4 := hx3.below hb4 hx3.lt
  have hy4 := hy3.below hb4 hy3.lt
  have hB4 := hB3.trans (hb4.mono hB3.size)
  have hT4 := hT.below hB4
  clear hx3 hy3 hB3 hb4 HS3 y0 y1 y2 y3 hT
  obtain ⟨y0, y1, y2, y3, -, -, -, -⟩ := hy4.four
  obtain ⟨r0, r1, r2, r3, s0, s1, s2, s3⟩ := hx4.four
  have hxl := hx4.lt
  have hyl := hy4.lt
  have d : decide ((64 : Int) ≤ (i : Int) - (first : Int)) = false := decide_eq_false (by omega)
  go_wp2
  exact bodyPost_ret (v := .tuple #[exV 0 tn [] none 0 0, .int .i64 0, .int .i64 ((i : Int) + 1)]) (by simp [results, Tryz.results75, go_sem, exV, r0, r1, r2, r3]) rfl
    (upost_ok_at (show ((i + (b - (b - 1)) : Nat) : Int) = (i : Int) + 1 by omega) (by omega) (by rw [List.tail_drop]; congr 1; omega) (tree_leaf _ _ _ _ _) (below_set4 hB4 (Nat.le_refl _) _ _ _ _))

set_option maxRecDepth 100000 in
set_option maxHeartbeats 4000000 in
theorem un_name_ok (i b : Nat) (w : World) (hb : b ≤ 64) (hib : i + b = first + 64) (hT : Eu.Toks w g L) (h0 : 0 < b) (hk : (nextT (L.drop i)).kind = 1) :
    Calls Tryz.prog 75 #[.slice (some ⟨g, 0, none⟩) L.length c, .int .i64 (first : Int), .int .i64 (i : Int)] w (UPost (fun k => w.heap.size ≤ k) L i b w (.ok (.mk 1 0 (nextT (L.drop i)).text []) (b - 1) (L.drop i).tail)) := by
  have HTok := Lib.hid (tok_all g c L hl hc)
  have HTok1 := Lib.hid (HTok.out i (w.alloc (.cells #[.int .i64 0, .int .i64 0, .string ⟨#[]⟩, .slice none 0 0] 25)) (Toks.alloc hT _))
  generalize ht : nextT (L.drop i) = t at *
  have HT0 := Lib.hid ht
  clear ht
  obtain ⟨kd, tx, tn, ta⟩ := t
  simp only at hk
  have HS1 := Lib.hid (sgn_is kd tn ta tx [45] false (by rw [hk]; rfl))
  have HS2 := Lib.hid (sgn_is kd tn ta tx [33] false (by rw [hk]; rfl))
  have HS3 := Lib.hid (sgn_is kd tn ta tx [40] false (by rw [hk]; rfl))
  have d2 : (kd == 2) = false := beq_eq_false_iff_ne.2 (by omega)
  have d2n : (kd != 2) = true := by rw [hk]; rfl
  have d1 : (kd == 1) = true := beq_iff_eq.2 hk
  have d1n : (kd != 1) = false := by rw [hk]; rfl
  clear hk
  go_enter Tryz.func75, Tryz.ntmps75
  go_wp2_with fail
  refine HTok1.out.mono ?_
  rintro e w1 ⟨rfl, hb1⟩
  have hx1 := (Box.new w 25 #[.int .i64 0, .int .i64 0, .string ⟨#[]⟩, .slice none 0 0]).below hb1 (by simp)
  have hB1 : Below w.heap.size w w1 := ((Below.refl w.heap.size w).alloc (Nat.le_refl _) _).trans (hb1.mono (by simp))
  have hs1 : w.heap.size < w1.heap.size := by have := hb1.size; simp at this; omega
  have hy1 := Box.new w1 52 #[.int .i64 kd, .string ⟨tx.toArray⟩, .int .i64 tn, .int .i64 ta]
  have hx1 := hx1.alloc (.cells #[.int .i64 kd, .string ⟨tx.toArray⟩, .int .i64 tn, .int .i64 ta] 52)
  have hB1 := hB1.alloc hB1.size (.cells #[.int .i64 kd, .string ⟨tx.toArray⟩, .int .i64 tn, .int .i64 ta] 52)
  clear hb1 HTok1
  go_wp2_with fail
  refine (HS1.out _).mono ?_
  rintro e w2 ⟨rfl, hb2⟩
  have hx2 := hx1.below hb2 hx1.lt
  have hy2 := hy1.below hb2 hy1.lt
  have hB2 := hB1.trans (hb2.mono hB1.size)
  clear hx1 hy1 hB1 hb2 HS1
  obtain ⟨y0, y1, y2, y3, -, -, -, -⟩ := hy2.four
  go_wp2_with fail
  refine (HS2.out _).mono ?_
  rintro e w3 ⟨rfl, hb3⟩
  have hx3 := hx2.below hb3 hx2.lt
  have hy3 := hy2.below hb3 hy2.lt
  have hB3 := hB2.trans (hb3.mono hB2.size)
  clear hx2 hy2 hB2 hb3 HS2 y0 y1 y2 y3
  obtain ⟨y0, y1, y2, y3, -, -, -, -⟩ := hy3.four
  go_wp2_with fail
  refine (HS3.out _).mono ?_
  rintro e w4 ⟨rfl, hb4⟩
  have hx4 := hx3.below hb4 hx3.lt
  have hy4 := hy3.below hb4 hy3.lt
  have hB4 := hB3.trans (hb4.mono hB3.size)
  have hT4 := hT.below hB4
  clear hx3 hy3 hB3 hb4 HS3 y0 y1 y2 y3 hT
  obtain ⟨y0, y1, y2, y3, -, -, -, -⟩ := hy4.four
  obtain ⟨r0, r1, r2, r3, s0, s1, s2, s3⟩ := hx4.four
  have hxl := hx4.lt
  have hyl := hy4.lt
  have d : decide ((64 : Int) ≤ (i : Int) - (first : Int)) = false := decide_eq_false (by omega)
  go_wp2
  exact bodyPost_ret (v := .tuple #[exV 1 0 tx none 0 0, .int .i64 0, .int .i64 ((i : Int) + 1)]) (by simp [results, Tryz.results75, go_sem, exV, r0, r1, r2, r3]) rfl
    (upost_ok_at (show ((i + (b - (b - 1)) : Nat) : Int) = (i : Int) + 1 by omega) (by omega) (by rw [List.tail_drop]; congr 1; omega) (tree_leaf _ _ _ _ _) (below_set4 hB4 (Nat.le_refl _) _ _ _ _))

set_option maxRecDepth 100000 in
set_option maxHeartbeats 4000000 in
theorem un_minus (i b : Nat) (w : World) (hb : b ≤ 64) (hib : i + b = first + 64) (hT : Eu.Toks w g L) (h0 : 0 < b) (hk : (nextT (L.drop i)).kind = 4 ∧ (nextT (L.drop i)).text = [45]) (F : Nat → List Tok → Res) (D : Nat) (hD : b - 1 < D) (hF : UUn g c L first F D) :
    Calls Tryz.prog 75 #[.slice (some ⟨g, 0, none⟩) L.length c, .int .i64 (first : Int), .int .i64 (i : Int)] w (UPost (fun k => w.heap.size ≤ k) L i b w (match F (b - 1) (L.drop i).tail with | .er f b' => .er f b' | .ok e b' ts' => .ok (.mk 2 0 [] [e]) b' ts')) := by
  have HTok := Lib.hid (tok_all g c L hl hc)
  have HTok1 := Lib.hid (HTok.out i (w.alloc (.cells #[.int .i64 0, .int .i64 0, .string ⟨#[]⟩, .slice none 0 0] 25)) (Toks.alloc hT _))
  rw [List.tail_drop]
  have HF := Lib.hid (fun wx h => hF (i + 1) (b - 1) wx hD (by omega) (by omega) h)
  clear hF hD
  generalize hr : F (b - 1) (L.drop (i + 1)) = r at *
  clear hr
  generalize ht : nextT (L.drop i) = t at *
  have HT0 := Lib.hid ht
  clear ht
  obtain ⟨kd, tx, tn, ta⟩ := t
  simp only at hk
  have HS1 := Lib.hid (sgn_is kd tn ta tx [45] true (by rw [hk.1, hk.2]; decide))
  have HS2 := Lib.hid (sgn_is kd tn ta tx [33] false (by rw [hk.1, hk.2]; decide))
  have HS3 := Lib.hid (sgn_is kd tn ta tx [40] false (by rw [hk.1, hk.2]; decide))
  have d2 : (kd == 2) = false := beq_eq_false_iff_ne.2 (by omega)
  have d1 : (kd == 1) = false := beq_eq_false_iff_ne.2 (by omega)
  clear hk
  go_enter Tryz.func75, Tryz.ntmps75
  go_wp2_with fail
  refine HTok1.out.mono ?_
  rintro e w1 ⟨rfl, hb1⟩
  have hx1 := (Box.new w 25 #[.int .i64 0, .int .i64 0, .string ⟨#[]⟩, .slice none 0 0]).below hb1 (by simp)
  have hB1 : Below w.heap.size w w1 := ((Below.refl w.heap.size w).alloc (Nat.le_refl _) _).trans (hb1.mono (by simp))
  have hs1 : w.heap.size < w1.heap.size := by have := hb1.size; simp at this; omega
  have hy1 := Box.new w1 52 #[.int .i64 kd, .string ⟨tx.toArray⟩, .int .i64 tn, .int .i64 ta]
  have hx1 := hx1.alloc (.cells #[.int .i64 kd, .string ⟨tx.toArray⟩, .int .i64 tn, .int .i64 ta] 52)
  have hB1 := hB1.alloc hB1.size (.cells #[.int .i64 kd, .string ⟨tx.toArray⟩, .int .i64 tn, .int .i64 ta] 52)
  clear hb1 HTok1
  go_wp2_with fail
  refine (HS1.out _).mono ?_
  rintro e w2 ⟨rfl, hb2⟩
  have hx2 := hx1.below hb2 hx1.lt
  have hy2 := hy1.below hb2 hy1.lt
  have hB2 := hB1.trans (hb2.mono hB1.size)
  clear hx1 hy1 hB1 hb2 HS1
  obtain ⟨y0, y1, y2, y3, -, -, -, -⟩ := hy2.four
  go_wp2_with fail
  refine (HS2.out _).mono ?_
  rintro e w3 ⟨rfl, hb3⟩
  have hx3 := hx2.below hb3 hx2.lt
  have hy3 := hy2.below hb3 hy2.lt
  have hB3 := hB2.trans (hb3.mono hB2.size)
  clear hx2 hy2 hB2 hb3 HS2 y0 y1 y2 y3
  obtain ⟨y0, y1, y2, y3, -, -, -, -⟩ := hy3.four
  go_wp2_with fail
  refine (HS3.out _).mono ?_
  rintro e w4 ⟨rfl, hb4⟩
  have hx4 := hx3.below hb4 hx3.lt
  have hy4 := hy3.below hb4 hy3.lt
  have hB4 := hB3.trans (hb4.mono hB3.size)
  have hT4 := hT.below hB4
  clear hx3 hy3 hB3 hb4 HS3 y0 y1 y2 y3 hT
  obtain ⟨y0, y1, y2, y3, -, -, -, -⟩ := hy4.four
  obtain ⟨r0, r1, r2, r3, s0, s1, s2, s3⟩ := hx4.four
  have hxl := hx4.lt
  have hyl := hy4.lt
  have d : decide ((64 : Int) ≤ (i : Int) - (first : Int)) = false := decide_eq_false (by omega)
  go_wp2_with fail
  refine (HF.out w4 hT4).mono ?_
  intro e w5 hpost
  obtain ⟨z0, z1, s, x, nk, cp, f, k, rfl, hgot⟩ := upost_got hpost
  clear hpost HF HT0 y0 y1 y2 y3 r0 r1 r2 r3 s0 s1 s2 s3
  have hb5 := hgot.below
  have hx5 := hx4.below hb5 hxl
  have hB5 := hB4.trans (hb5.mono hB4.size)
  have hxl5 := hx5.lt
  have hxl6 : w.heap.size < w5.heap.size + 1 := by omega
  have hs4 : w.heap.size ≤ w4.heap.size := hB4.size
  obtain ⟨r0, r1, r2, r3, s0, s1, s2, s3⟩ := hx5.four
  rcases hgot.what with ⟨rfl, tr, b', ts, hr, hb', hts, hk', e0, e1, e2, e3, hTr⟩ | ⟨hf', b', hr, hb', hk', -⟩
  · have HKK : Hid (((i + (b - b') : Nat) : Int) = (k : Int)) := by unfold Hid; omega
    have HTS : Hid (ts = L.drop (i + (b - b'))) := by unfold Hid; rw [hts]; congr 1; omega
    subst e0 e1 e2 e3
    have HT := Lib.hid (fun (V : World) hsz hbk => tree_under (V := V) (S := fun q => w.heap.size ≤ q) (o := 2) (b0 := tr.op) (b1 := tr.n) (bs := ⟨tr.name.toArray⟩) (b3 := .slice x tr.kids.length cp) hsz hbk hTr (fun q hq => by omega))
    subst hr
    clear hts hk' hTr hgot
    go_wp2
    refine bodyPost_ret (v := .tuple #[exV 2 0 [] (some ⟨w5.heap.size + 1, 0, none⟩) 1 1, .int .i64 0, .int .i64 (k : Int)]) (by simp [results, Tryz.results75, go_sem, exV, r0, r1, r2, r3, hxl5, hxl6]) rfl
      (upost_ok_at HKK.out (by omega) HTS.out (HT.out _ ?_ ?_) (((below_set4 hB5 (Nat.le_refl _) _ _ _ _).alloc ?_ _).alloc ?_ _))
    · rw [size4]
    · intro q hq hlt
      rw [block4 _ _ _ _ _ _ _ (by omega)]
    · rw [size4]; exact hB5.size
    · have := hB5.size; simp [World.setCell]; omega
  · have HKK : Hid (((i + (b - b') : Nat) : Int) = (k : Int)) := by unfold Hid; omega
    have d5 : (f != 0) = true := by simpa using hf'
    subst hr
    clear hk' hgot
    go_wp2
    exact bodyPost_ret (v := .tuple #[exV 0 0 [] none 0 0, .int .i64 f, .int .i64 (k : Int)]) (by simp [results, Tryz.results75, go_sem, exV, r0, r1, r2, r3, hxl5]) rfl
      (upost_er_at HKK.out hf' (by omega) ((below_set4 hB5 (Nat.le_refl _) _ _ _ _).alloc (below_set4 hB5 (Nat.le_refl _) _ _ _ _).size _))

set_option maxRecDepth 100000 in
set_option maxHeartbeats 4000000 in
theorem un_not (i b : Nat) (w : World) (hb : b ≤ 64) (hib : i + b = first + 64) (hT : Eu.Toks w g L) (h0 : 0 < b) (hk : (nextT (L.drop i)).kind = 4 ∧ (nextT (L.drop i)).text = [33]) (F : Nat → List Tok → Res) (D : Nat) (hD : b - 1 < D) (hF : UUn g c L first F D) :
    Calls Tryz.prog 75 #[.slice (some ⟨g, 0, none⟩) L.length c, .int .i64 (first : Int), .int .i64 (i : Int)] w (UPost (fun k => w.heap.size ≤ k) L i b w (match F (b - 1) (L.drop i).tail with | .er f b' => .er f b' | .ok e b' ts' => .ok (.mk 3 0 [] [e]) b' ts')) := by
  have HTok := Lib.hid (tok_all g c L hl hc)
  have HTok1 := Lib.hid (HTok.out i (w.alloc (.cells #[.int .i64 0, .int .i64 0, .string ⟨#[]⟩, .slice none 0 0] 25)) (Toks.alloc hT _))
  rw [List.tail_drop]
  have HF := Lib.hid (fun wx h => hF (i + 1) (b - 1) wx hD (by omega) (by omega) h)
  clear hF hD
  generalize hr : F (b - 1) (L.drop (i + 1)) = r at *
  clear hr
  generalize ht : nextT (L.drop i) = t at *
  have HT0 := Lib.hid ht
  clear ht
  obtain ⟨kd, tx, tn, ta⟩ := t
  simp only at hk
  have HS1 := Lib.hid (sgn_is kd tn ta tx [45] false (by rw [hk.1, hk.2]; decide))
  have HS2 := Lib.hid (sgn_is kd tn ta tx [33] true (by rw [hk.1, hk.2]; decide))
  have HS3 := Lib.hid (sgn_is kd tn ta tx [40] false (by rw [hk.1, hk.2]; decide))
  have d2 : (kd == 2) = false := beq_eq_false_iff_ne.2 (by omega)
  have d1 : (kd == 1) = false := beq_eq_false_iff_ne.2 (by omega)
  clear hk
  go_enter Tryz.func75, Tryz.ntmps75
  go_wp2_with fail
  refine HTok1.out.mono ?_
  rintro e w1 ⟨rfl, hb1⟩
  have hx1 := (Box.new w 25 #[.int .i64 0, .int .i64 0, .string ⟨#[]⟩, .slice none 0 0]).below hb1 (by simp)
  have hB1 : Below w.heap.size w w1 := ((Below.refl w.heap.size w).alloc (Nat.le_refl _) _).trans (hb1.mono (by simp))
  have hs1 : w.heap.size < w1.heap.size := by have := hb1.size; simp at this; omega
  have hy1 := Box.new w1 52 #[.int .i64 kd, .string ⟨tx.toArray⟩, .int .i64 tn, .int .i64 ta]
  have hx1 := hx1.alloc (.cells #[.int .i64 kd, .string ⟨tx.toArray⟩, .int .i64 tn, .int .i64 ta] 52)
  have hB1 := hB1.alloc hB1.size (.cells #[.int .i64 kd, .string ⟨tx.toArray⟩, .int .i64 tn, .int .i64 ta] 52)
  clear hb1 HTok1
  go_wp2_with fail
  refine (HS1.out _).mono ?_
  rintro e w2 ⟨rfl, hb2⟩
  have hx2 := hx1.below hb2 hx1.lt
  have hy2 := hy1.below hb2 hy1.lt
  have hB2 := hB1.trans (hb2.mono hB1.size)
  clear hx1 hy1 hB1 hb2 HS1
  obtain ⟨y0, y1, y2, y3, -, -, -, -⟩ := hy2.four
  go_wp2_with fail
  refine (HS2.out _).mono ?_
  rintro e w3 ⟨rfl, hb3⟩
  have hx3 := hx2.below hb3 hx2.lt
  have hy3 := hy2.below hb3 hy2.lt
  have hB3 := hB2.trans (hb3.mono hB2.size)
  clear hx2 hy2 hB2 hb3 HS2 y0 y1 y2 y3
  obtain ⟨y0, y1, y2, y3, -, -, -, -⟩ := hy3.four
  go_wp2_with fail
  refine (HS3.out _).mono ?_
  rintro e w4 ⟨rfl, hb4⟩
  have hx4 := hx3.below hb4 hx3.lt
  have hy4 := hy3.below hb4 hy3.lt
  have hB4 := hB3.trans (hb4.mono hB3.size)
  have hT4 := hT.below hB4
  clear hx3 hy3 hB3 hb4 HS3 y0 y1 y2 y3 hT
  obtain ⟨y0, y1, y2, y3, -, -, -, -⟩ := hy4.four
  obtain ⟨r0, r1, r2, r3, s0, s1, s2, s3⟩ := hx4.four
  have hxl := hx4.lt
  have hyl := hy4.lt
  have d : decide ((64 : Int) ≤ (i : Int) - (first : Int)) = false := decide_eq_false (by omega)
  go_wp2_with fail
  refine (HF.out w4 hT4).mono ?_
  intro e w5 hpost
  obtain ⟨z0, z1, s, x, nk, cp, f, k, rfl, hgot⟩ := upost_got hpost
  clear hpost HF HT0 y0 y1 y2 y3 r0 r1 r2 r3 s0 s1 s2 s3
  have hb5 := hgot.below
  have hx5 := hx4.below hb5 hxl
  have hB5 := hB4.trans (hb5.mono hB4.size)
  have hxl5 := hx5.lt
  have hxl6 : w.heap.size < w5.heap.size + 1 := by omega
  have hs4 : w.heap.size ≤ w4.heap.size := hB4.size
  obtain ⟨r0, r1, r2, r3, s0, s1, s2, s3⟩ := hx5.four
  rcases hgot.what with ⟨rfl, tr, b', ts, hr, hb', hts, hk', e0, e1, e2, e3, hTr⟩ | ⟨hf', b', hr, hb', hk', -⟩
  · have HKK : Hid (((i + (b - b') : Nat) : Int) = (k : Int)) := by unfold Hid; omega
    have HTS : Hid (ts = L.drop (i + (b - b'))) := by unfold Hid; rw [hts]; congr 1; omega
    subst e0 e1 e2 e3
    have HT := Lib.hid (fun (V : World) hsz hbk => tree_under (V := V) (S := fun q => w.heap.size ≤ q) (o := 3) (b0 := tr.op) (b1 := tr.n) (bs := ⟨tr.name.toArray⟩) (b3 := .slice x tr.kids.length cp) hsz hbk hTr (fun q hq => by omega))
    subst hr
    clear hts hk' hTr hgot
    go_wp2
    refine bodyPost_ret (v := .tuple #[exV 3 0 [] (some ⟨w5.heap.size + 1, 0, none⟩) 1 1, .int .i64 0, .int .i64 (k : Int)]) (by simp [results, Tryz.results75, go_sem, exV, r0, r1, r2, r3, hxl5, hxl6]) rfl
      (upost_ok_at HKK.out (by omega) HTS.out (HT.out _ ?_ ?_) (((below_set4 hB5 (Nat.le_refl _) _ _ _ _).alloc ?_ _).alloc ?_ _))
    · rw [size4]
    · intro q hq hlt
      rw [block4 _ _ _ _ _ _ _ (by omega)]
    · rw [size4]; exact hB5.size
    · have := hB5.size; simp [World.setCell]; omega
  · have HKK : Hid (((i + (b - b') : Nat) : Int) = (k : Int)) := by unfold Hid; omega
    have d5 : (f != 0) = true := by simpa using hf'
    subst hr
    clear hk' hgot
    go_wp2
    exact bodyPost_ret (v := .tuple #[exV 0 0 [] none 0 0, .int .i64 f, .int .i64 (k : Int)]) (by simp [results, Tryz.results75, go_sem, exV, r0, r1, r2, r3, hxl5]) rfl
      (upost_er_at HKK.out hf' (by omega) ((below_set4 hB5 (Nat.le_refl _) _ _ _ _).alloc (below_set4 hB5 (Nat.le_refl _) _ _ _ _).size _))

set_option maxRecDepth 100000 in
set_option maxHeartbeats 4000000 in
theorem un_open (i b : Nat) (w : World) (hb : b ≤ 64) (hib : i + b = first + 64) (hT : Eu.Toks w g L) (h0 : 0 < b) (hk : (nextT (L.drop i)).kind = 4 ∧ (nextT (L.drop i)).text = [40]) (F : Nat → List Tok → Res) (D : Nat) (hD : b - 1 < D) (hF : URead g c L first 1 F D) :
    Calls Tryz.prog 75 #[.slice (some ⟨g, 0, none⟩) L.length c, .int .i64 (first : Int), .int .i64 (i : Int)] w (UPost (fun k => w.heap.size ≤ k) L i b w (openR (F (b - 1) (L.drop i).tail))) := by
  have HTok := Lib.hid (tok_all g c L hl hc)
  have HTok1 := Lib.hid (HTok.out i (w.alloc (.cells #[.int .i64 0, .int .i64 0, .string ⟨#[]⟩, .slice none 0 0] 25)) (Toks.alloc hT _))
  rw [List.tail_drop]
  have HF := Lib.hid (fun wx h => hF (i + 1) (b - 1) wx hD (by omega) (by omega) h)
  clear hF hD
  generalize hr : F (b - 1) (L.drop (i + 1)) = r at *
  clear hr
  generalize hR : openR r = R
  have HR := Lib.hid hR
  clear hR
  generalize ht : nextT (L.drop i) = t at *
  have HT0 := Lib.hid ht
  clear ht
  obtain ⟨kd, tx, tn, ta⟩ := t
  simp only at hk
  have HS1 := Lib.hid (sgn_is kd tn ta tx [45] false (by rw [hk.1, hk.2]; decide))
  have HS2 := Lib.hid (sgn_is kd tn ta tx [33] false (by rw [hk.1, hk.2]; decide))
  have HS3 := Lib.hid (sgn_is kd tn ta tx [40] true (by rw [hk.1, hk.2]; decide))
  have d2 : (kd == 2) = false := beq_eq_false_iff_ne.2 (by omega)
  have d1 : (kd == 1) = false := beq_eq_false_iff_ne.2 (by omega)
  clear hk
  go_enter Tryz.func75, Tryz.ntmps75
  go_wp2_with fail
  refine HTok1.out.mono ?_
  rintro e w1 ⟨rfl, hb1⟩
  have hx1 := (Box.new w 25 #[.int .i64 0, .int .i64 0, .string ⟨#[]⟩, .slice none 0 0]).below hb1 (by simp)
  have hB1 : Below w.heap.size w w1 := ((Below.refl w.heap.size w).alloc (Nat.le_refl _) _).trans (hb1.mono (by simp))
  have hs1 : w.heap.size < w1.heap.size := by have := hb1.size; simp at this; omega
  have hy1 := Box.new w1 52 #[.int .i64 kd, .string ⟨tx.toArray⟩, .int .i64 tn, .int .i64 ta]
  have hx1 := hx1.alloc (.cells #[.int .i64 kd, .string ⟨tx.toArray⟩, .int .i64 tn, .int .i64 ta] 52)
  have hB1 := hB1.alloc hB1.size (.cells #[.int .i64 kd, .string ⟨tx.toArray⟩, .int .i64 tn, .int .i64 ta] 52)
  clear hb1 HTok1
  go_wp2_with fail
  refine (HS1.out _).mono ?_
  rintro e w2 ⟨rfl, hb2⟩
  have hx2 := hx1.below hb2 hx1.lt
  have hy2 := hy1.below hb2 hy1.lt
  have hB2 := hB1.trans (hb2.mono hB1.size)
  clear hx1 hy1 hB1 hb2 HS1
  obtain ⟨y0, y1, y2, y3, -, -, -, -⟩ := hy2.four
  go_wp2_with fail
  refine (HS2.out _).mono ?_
  rintro e w3 ⟨rfl, hb3⟩
  have hx3 := hx2.below hb3 hx2.lt
  have hy3 := hy2.below hb3 hy2.lt
  have hB3 := hB2.trans (hb3.mono hB2.size)
  clear hx2 hy2 hB2 hb3 HS2 y0 y1 y2 y3
  obtain ⟨y0, y1, y2, y3, -, -, -, -⟩ := hy3.four
  go_wp2_with fail
  refine (HS3.out _).mono ?_
  rintro e w4 ⟨rfl, hb4⟩
  have hx4 := hx3.below hb4 hx3.lt
  have hy4 := hy3.below hb4 hy3.lt
  have hB4 := hB3.trans (hb4.mono hB3.size)
  have hT4 := hT.below hB4
  clear hx3 hy3 hB3 hb4 HS3 y0 y1 y2 y3 hT
  obtain ⟨y0, y1, y2, y3, -, -, -, -⟩ := hy4.four
  obtain ⟨r0, r1, r2, r3, s0, s1, s2, s3⟩ := hx4.four
  have hxl := hx4.lt
  have hyl := hy4.lt
  have d : decide ((64 : Int) ≤ (i : Int) - (first : Int)) = false := decide_eq_false (by omega)
  go_wp2_with fail
  refine (HF.out w4 hT4).mono ?_
  intro e w5 hpost
  obtain ⟨z0, z1, s, x, nk, cp, f, k, rfl, hgot⟩ := upost_got hpost
  clear hpost HF HT0 y0 y1 y2 y3 r0 r1 r2 r3 s0 s1 s2 s3
  have hb5 := hgot.below
  have hx5 := hx4.below hb5 hxl
  have hB5 := hB4.trans (hb5.mono hB4.size)
  have hxl5 := hx5.lt
  have hs4 : w.heap.size ≤ w4.heap.size := hB4.size
  obtain ⟨r0, r1, r2, r3, s0, s1, s2, s3⟩ := hx5.four
  rcases hgot.what with ⟨rfl, tr, b', ts, hr, hb', hts, hk', e0, e1, e2, e3, hTr⟩ | ⟨hf', b', hr, hb', hk', -⟩
  · have HKK : Hid (((i + (b - b') : Nat) : Int) = (k : Int)) := by unfold Hid; omega
    have HTS : Hid (ts = L.drop k) := hts.trans (by congr 1; omega)
    have HK2 : Hid (k = i + (b - b')) := by unfold Hid; omega
    have hkf : k = first + 64 - b' := by omega
    have hge : b' = 0 → decide ((64 : Int) ≤ (k : Int) - (first : Int)) = true := fun h => decide_eq_true (by omega)
    have hlt : b' ≠ 0 → decide ((64 : Int) ≤ (k : Int) - (first : Int)) = false := fun h => decide_eq_false (by omega)
    have hk30 : k ≤ 3100 := by omega
    subst e0 e1 e2 e3
    subst hr
    have HR2 : Hid (R = if sgnT (L.drop k) [41] = true then (if b' = 0 then .er 2 0 else .ok tr (b' - 1) (L.drop k).tail) else .er 11 b') := by
      unfold Hid; rw [← HR.out, ← HTS.out]; rfl
    clear HR
    have hT5 := (hT4.below hb5)
    have hx6 := hx5.alloc (.cells #[.int .i64 tr.op, .int .i64 tr.n, .string ⟨tr.name.toArray⟩, .slice x tr.kids.length cp] 25)
    have hq6 := Box.new w5 25 #[.int .i64 tr.op, .int .i64 tr.n, .string ⟨tr.name.toArray⟩, .slice x tr.kids.length cp]
    have hT6 := Toks.alloc hT5 (.cells #[.int .i64 tr.op, .int .i64 tr.n, .string ⟨tr.name.toArray⟩, .slice x tr.kids.length cp] 25)
    have hB6 := hB5.alloc hB5.size (.cells #[.int .i64 tr.op, .int .i64 tr.n, .string ⟨tr.name.toArray⟩, .slice x tr.kids.length cp] 25)
    have hTr6 := hTr.alloc (.cells #[.int .i64 tr.op, .int .i64 tr.n, .string ⟨tr.name.toArray⟩, .slice x tr.kids.length cp] 25)
    have HTk := Lib.hid (HTok.out k _ hT6)
    have HSG : Hid (sgnT (L.drop k) [41] = (decide ((nextT (L.drop k)).kind = 4) && ((nextT (L.drop k)).text == [41]))) := rfl
    have HTL : Hid ((L.drop k).tail = L.drop (i + (b - (b' - 1))) ∨ b' = 0) := by
      unfold Hid
      rcases Nat.eq_zero_or_pos b' with h | h
      · exact Or.inr h
      · exact Or.inl (by rw [List.tail_drop]; congr 1; omega)
    clear hts hk' hTr hgot hkf hx5 hT4 hB4 hx4 HTok
    generalize nextT (L.drop k) = t2 at *
    obtain ⟨kd2, tx2, tn2, ta2⟩ := t2
    simp only at HSG HTk
    generalize (L.drop k).tail = tl at *
    generalize sgnT (L.drop k) [41] = sb at *
    have HS4 := Lib.hid (sgn_is kd2 tn2 ta2 tx2 [41] sb HSG.out.symm)
    clear HSG HTS
    go_wp2_with fail
    refine HTk.out.mono ?_
    rintro e w7 ⟨rfl, hb7⟩
    go_wp2_with fail
    refine (HS4.out _).mono ?_
    rintro e w8 ⟨rfl, hb8⟩
    have hb78 := hb7.trans (hb8.mono hb7.size)
    have hx8 := hx6.below hb78 hx6.lt
    have hq8 := hq6.below hb78 hq6.lt
    have hB8 := hB6.trans (hb78.mono hB6.size)
    have hTr8 := hTr6.below hb78 (Nat.le_refl _)
    clear hx6 hq6 hB6 hTr6 hb7 hb8 hb78 HTk HS4 hT5 hT6 hb5 hB5 r0 r1 r2 r3 s0 s1 s2 s3
    obtain ⟨r0, r1, r2, r3, s0, s1, s2, s3⟩ := hx8.four
    obtain ⟨c0, c1, c2, c3, -, -, -, -⟩ := hq8.four
    have hxl8 := hx8.lt
    have hql8 := hq8.lt
    have hne1 : w.heap.size < w5.heap.size := hxl5
    cases sb
    · have HK3 := Lib.hid hk30
      have HE : Hid (R = .er 11 b') := by unfold Hid; rw [HR2.out, if_neg (by decide)]
      clear HR2
      go_wp2
      rw [HE.out]
      exact bodyPost_ret (v := .tuple #[exV 0 0 [] none 0 0, .int .i64 11, .int .i64 (k : Int)]) (by simp [results, Tryz.results75, go_sem, exV, r0, r1, r2, r3]) rfl
        (upost_er_at HKK.out (by decide) (by omega) (below_set4 hB8 (Nat.le_refl _) _ _ _ _))
    · by_cases hb0 : b' = 0
      · have d7 := hge hb0
        have HE : Hid (R = .er 2 0) := by unfold Hid; rw [HR2.out, if_pos rfl, if_pos hb0]
        have HB0 := Lib.hid hb0
        clear hge hlt hb0 HR2
        go_wp2
        rw [HE.out]
        exact bodyPost_ret (v := .tuple #[exV 0 0 [] none 0 0, .int .i64 2, .int .i64 (k : Int)]) (by simp [results, Tryz.results75, go_sem, exV, r0, r1, r2, r3]) rfl
          (upost_er_at (show ((i + (b - 0) : Nat) : Int) = (k : Int) by rw [← HKK.out, HB0.out]) (by decide) (by omega) (below_set4 hB8 (Nat.le_refl _) _ _ _ _))
      · have d7 := hlt hb0
        have HE : Hid (R = .ok tr (b' - 1) tl) := by unfold Hid; rw [HR2.out, if_pos rfl, if_neg hb0]
        have HTL2 : Hid (tl = L.drop (i + (b - (b' - 1)))) := HTL.out.resolve_right hb0
        clear hge hlt HR2
        go_wp2
        rw [HE.out]
        exact bodyPost_ret (v := .tuple #[exV tr.op tr.n tr.name x tr.kids.length cp, .int .i64 0, .int .i64 ((k : Int) + 1)]) (by simp [results, Tryz.results75, go_sem, exV, r0, r1, r2, r3]) rfl
          (upost_ok_at (show ((i + (b - (b' - 1)) : Nat) : Int) = (k : Int) + 1 by have := HK2.out; omega) (by omega) HTL2.out (TreeV.low (fun q hq => by omega) _ _ (TreeV.keep (by rw [size4]; exact Nat.le_refl _) (fun q hq _ => block4 _ _ _ _ _ _ _ (by omega)) _ _ hTr8)) (below_set4 hB8 (Nat.le_refl _) _ _ _ _))
  · have HKK : Hid (((i + (b - b') : Nat) : Int) = (k : Int)) := by unfold Hid; omega
    have d5 : (f != 0) = true := by simpa using hf'
    have HE : Hid (R = .er f b') := by unfold Hid; rw [← HR.out, hr]; rfl
    clear hr HR hk' hgot HTok
    go_wp2
    rw [HE.out]
    exact bodyPost_ret (v := .tuple #[exV 0 0 [] none 0 0, .int .i64 f, .int .i64 (k : Int)]) (by simp [results, Tryz.results75, go_sem, exV, r0, r1, r2, r3, hxl5]) rfl
      (upost_er_at HKK.out hf' (by omega) ((below_set4 hB5 (Nat.le_refl _) _ _ _ _).alloc (below_set4 hB5 (Nat.le_refl _) _ _ _ _).size _))

end
end Go.Proofs.YtinocaggponpmaaGreatDoor.Ep

namespace Go.Proofs.YtinocaggponpmaaGreatDoor.Ep
open Go.RowKit Lx

set_option maxRecDepth 100000 in
set_option maxHeartbeats 1000000 in
theorem uread6 {g c : Nat} {L : List Tok} {first : Nat} {F : Nat → List Tok → Res} {D : Nat} (hU : UUn g c L first F D) : URead g c L first 6 F D := by
  intro i b w hD hb hib hT
  have HU := Lib.hid (hU i b _ hD hb hib (Toks.alloc hT (.cells #[.int .i64 0, .int .i64 0, .string ⟨#[]⟩, .slice none 0 0] 25)))
  clear hU
  have hx0 := Box.new w 25 #[.int .i64 0, .int .i64 0, .string ⟨#[]⟩, .slice none 0 0]
  have hb0 := (Below.refl w.heap.size w).alloc (Nat.le_refl _) (.cells #[.int .i64 0, .int .i64 0, .string ⟨#[]⟩, .slice none 0 0] 25)
  generalize F b (L.drop i) = r at *
  go_enter Tryz.func45, Tryz.ntmps45
  go_wp2_with fail
  refine HU.out.mono ?_
  intro e w1 hpost
  obtain ⟨z0, z1, s, a, n, cp, f, k, rfl, hgot⟩ := upost_got hpost
  clear hpost HU
  have hb1 := hgot.below
  have hx1 := hx0.below hb1 (by simp)
  have hB1 : Below w.heap.size w w1 := hb0.trans (hb1.mono (by simp))
  obtain ⟨r0, r1, r2, r3, s0, s1, s2, s3⟩ := hx1.four
  have hxl := hx1.lt
  rcases hgot.what with ⟨rfl, t, b', ts, hr, hb', hts, hk, rfl, rfl, rfl, rfl, hTr⟩ | ⟨hf, b', hr, hb', hk, rfl, rfl, rfl, rfl, rfl, rfl⟩
  · have HKK : Hid (((i + (b - b') : Nat) : Int) = (k : Int)) := by unfold Hid; rw [hk]
    have HTS := Lib.hid hts
    subst hr
    clear hk hts hgot
    go_wp2
    refine bodyPost_ret (v := .tuple #[exV t.op t.n t.name a t.kids.length cp, .int .i64 0, .int .i64 (k : Int)]) (by simp [results, Tryz.results45, go_sem, exV, r0, r1, r2, r3]) rfl
      (upost_ok_at HKK.out hb' HTS.out ?_ (below_set4 hB1 (Nat.le_refl _) _ _ _ _))
    exact TreeV.low (fun q hq => by simp at hq; omega) _ _ (TreeV.keep (by rw [size4]; exact Nat.le_refl _) (fun q hq _ => block4 _ _ _ _ _ _ _ (by simp at hq; omega)) _ _ hTr)
  · have HKK : Hid (((i + (b - b') : Nat) : Int) = (k : Int)) := by unfold Hid; rw [hk]
    subst hr
    clear hk hgot
    go_wp2
    exact bodyPost_ret (v := .tuple #[exV 0 0 [] none 0 0, .int .i64 f, .int .i64 (k : Int)]) (by simp [results, Tryz.results45, go_sem, exV, r0, r1, r2, r3]) rfl
      (upost_er_at HKK.out hf hb' (below_set4 hB1 (Nat.le_refl _) _ _ _ _))

theorem fine_next (L : List Tok) (hF : ∀ t ∈ L, Fine t) (i : Nat) : Fine (nextT (L.drop i)) := by
  unfold nextT
  rw [List.headD_eq_head?_getD, List.head?_drop]
  cases h : L[i]? with
  | none => exact Or.inl ⟨rfl, rfl, rfl⟩
  | some t => exact hF t (List.mem_of_getElem? h)
theorem sgn_iff (ts : List Tok) (s : List UInt8) : sgnT ts s = true ↔ (nextT ts).kind = 4 ∧ (nextT ts).text = s := by
  unfold sgnT; simp
section
variable (g c : Nat) (L : List Tok) (first : Nat) (hl : L.length ≤ 3000) (hc : L.length ≤ c) (hfi : first ≤ 3000)
include hl hc hfi
theorem line1 {F : Nat → List Tok → Res} {D : Nat} (hU : UUn g c L first F D) : URead g c L first 1 (orOf F) D := by
  have h6 : URead g c L first (5 + 1) F D := uread6 hU
  have h5 : URead g c L first (4 + 1) (chainT F (5 - 1)) D := uread_chain g c L first 5 F D h6 (by omega) (by omega) (by omega) hl hc hfi
  have h4 : URead g c L first 4 (chainT (chainT F (5 - 1)) (4 - 1)) D := uread_chain g c L first 4 _ D h5 (by omega) (by omega) (by omega) hl hc hfi
  have h3 : URead g c L first (2 + 1) (pairT (chainT (chainT F (5 - 1)) (4 - 1)) 2) D := uread_pair g c L first _ D h4 hl hc hfi
  have h2 : URead g c L first (1 + 1) (chainT (pairT (chainT (chainT F (5 - 1)) (4 - 1)) 2) (2 - 1)) D := uread_chain g c L first 2 _ D h3 (by omega) (by omega) (by omega) hl hc hfi
  exact uread_chain g c L first 1 _ D h2 (by omega) (by omega) (by omega) hl hc hfi

theorem un_all (hF : ∀ t ∈ L, Fine t) : ∀ d, UUn g c L first (unaryT d) d
  | 0 => fun i b w hD _ _ _ => absurd hD (by omega)
  | d + 1 => by
    intro i b w hD hb hib hT
    have IH := un_all hF d
    have H1 := line1 g c L first hl hc hfi IH
    have hfn := fine_next L hF i
    rw [unaryT, operT_u]
    by_cases h1 : sgnT (L.drop i) [45] = true
    · rw [if_pos h1, if_pos (by omega)]
      have hk := (sgn_iff _ _).1 h1
      by_cases h0 : b = 0
      · rw [if_pos h0]; exact un_minus_long g c L first hl hc i b w hb hib hT h0 hk
      · rw [if_neg h0]
        have := un_minus g c L first hl hc hfi i b w hb hib hT (by omega) hk (unaryT d) d (by omega) IH
        cases hr : unaryT d (b - 1) (L.drop i).tail with
        | ok t b' ts' => rw [hr] at this; exact this
        | er f b' => rw [hr] at this; exact this
    · rw [if_neg h1]
      by_cases h2 : sgnT (L.drop i) [33] = true
      · rw [if_pos h2, if_pos (by omega)]
        have hk := (sgn_iff _ _).1 h2
        by_cases h0 : b = 0
        · rw [if_pos h0]; exact un_not_long g c L first hl hc i b w hb hib hT h0 hk
        · rw [if_neg h0]
          have := un_not g c L first hl hc hfi i b w hb hib hT (by omega) hk (unaryT d) d (by omega) IH
          cases hr : unaryT d (b - 1) (L.drop i).tail with
          | ok t b' ts' => rw [hr] at this; exact this
          | er f b' => rw [hr] at this; exact this
      · rw [if_neg h2, if_neg (by omega)]
        by_cases h3 : sgnT (L.drop i) [40] = true
        · rw [if_pos h3]
          have hk := (sgn_iff _ _).1 h3
          by_cases h0 : b = 0
          · rw [if_pos h0]; exact un_open_long g c L first hl hc i b w hb hib hT h0 hk
          · rw [if_neg h0]
            have := un_open g c L first hl hc hfi i b w hb hib hT (by omega) hk (orOf (unaryT d)) d (by omega) H1
            cases hr : orOf (unaryT d) (b - 1) (L.drop i).tail with
            | ok t b' ts' => rw [hr] at this; exact this
            | er f b' => rw [hr] at this; exact this
        · rw [if_neg h3]
          unfold leafT
          simp only
          by_cases k2 : (nextT (L.drop i)).kind = 2
          · have hn : formedB 0 (nextT (L.drop i)).n [] 0 = true := by
              have : 0 ≤ (nextT (L.drop i)).n := by rcases hfn with h | h | h | h | h <;> omega
              simp [formedB, inT, opK, opAt, opsT, this]
            rw [if_pos k2, if_pos hn]
            by_cases h0 : b = 0
            · rw [if_pos h0]; exact un_num_long g c L first hl hc i b w hb hib hT h0 k2
            · rw [if_neg h0]; exact un_num_ok g c L first hl hc hfi i b w hb hib hT (by omega) k2
          · rw [if_neg k2]
            by_cases k1 : (nextT (L.drop i)).kind = 1
            · have hn : formedB 1 0 (nextT (L.drop i)).text 0 = true := by
                have : nameB (nextT (L.drop i)).text = true := by
                  rcases hfn with h | h | h | h | h
                  · omega
                  · exact h.2.2
                  · omega
                  · omega
                  · omega
                simp [formedB, inT, opK, opAt, opsT, this]
              rw [if_pos k1, if_pos hn]
              by_cases h0 : b = 0
              · rw [if_pos h0]; exact un_name_long g c L first hl hc i b w hb hib hT h0 k1
              · rw [if_neg h0]; exact un_name_ok g c L first hl hc hfi i b w hb hib hT (by omega) k1
            · rw [if_neg k1]
              refine un_none g c L first hl hc i b w hb hib hT ⟨k2, k1, ?_⟩
              intro s hs
              simp only [List.mem_cons, List.not_mem_nil, or_false] at hs
              rcases hs with rfl | rfl | rfl
              · exact Bool.eq_false_iff.2 h1
              · exact Bool.eq_false_iff.2 h2
              · exact Bool.eq_false_iff.2 h3
end

set_option maxRecDepth 100000 in
set_option maxHeartbeats 1000000 in
theorem uTake_any (g c : Nat) (L : List Tok) (hl : L.length ≤ 3000) (hc : L.length ≤ c) (hF : ∀ t ∈ L, Fine t) (hpos : 0 < L.length) (w : World) (hT : Eu.Toks w g L) :
    Calls Tryz.prog 25 #[.slice (some ⟨g, 0, none⟩) L.length c, .int .i64 0] w (UPost (fun k => w.heap.size ≤ k) L 0 64 w (takeT L)) := by
  have HU := Lib.hid (line1 g c L 0 hl hc (by omega) (un_all g c L 0 hl hc (by omega) hF 65) 0 64 _ (by omega) (by omega) (by omega) (Toks.alloc hT (.cells #[.int .i64 0, .int .i64 0, .string ⟨#[]⟩, .slice none 0 0] 25)))
  have hx0 := Box.new w 25 #[.int .i64 0, .int .i64 0, .string ⟨#[]⟩, .slice none 0 0]
  have hb0 := (Below.refl w.heap.size w).alloc (Nat.le_refl _) (.cells #[.int .i64 0, .int .i64 0, .string ⟨#[]⟩, .slice none 0 0] 25)
  have ht : takeT L = orOf (unaryT 65) 64 (L.drop 0) := rfl
  rw [ht]
  clear ht
  generalize orOf (unaryT 65) 64 (L.drop 0) = r at *
  generalize L.length = len at *
  have hp2 : decide ((len : Int) ≤ 0) = false := decide_eq_false (by omega)
  have hp3 : ¬ len = 0 := by omega
  go_enter Tryz.func25, Tryz.ntmps25
  go_wp2_with fail
  refine HU.out.mono ?_
  intro e w1 hpost
  obtain ⟨z0, z1, s, a, n, cp, f, k, rfl, hgot⟩ := upost_got hpost
  clear hpost HU
  have hb1 := hgot.below
  have hx1 := hx0.below hb1 (by simp)
  have hB1 : Below w.heap.size w w1 := hb0.trans (hb1.mono (by simp))
  obtain ⟨r0, r1, r2, r3, s0, s1, s2, s3⟩ := hx1.four
  have hxl := hx1.lt
  rcases hgot.what with ⟨rfl, t, b', ts, hr, hb', hts, hk, rfl, rfl, rfl, rfl, hTr⟩ | ⟨hf, b', hr, hb', hk, rfl, rfl, rfl, rfl, rfl, rfl⟩
  · have HKK : Hid (((0 + (64 - b') : Nat) : Int) = (k : Int)) := by unfold Hid; rw [hk]
    have HTS := Lib.hid hts
    subst hr
    clear hk hts hgot
    go_wp2
    refine bodyPost_ret (v := .tuple #[exV t.op t.n t.name a t.kids.length cp, .int .i64 0, .int .i64 (k : Int)]) (by simp [results, Tryz.results25, go_sem, exV, r0, r1, r2, r3]) rfl
      (upost_ok_at HKK.out hb' HTS.out ?_ (below_set4 hB1 (Nat.le_refl _) _ _ _ _))
    exact TreeV.low (fun q hq => by simp at hq; omega) _ _ (TreeV.keep (by rw [size4]; exact Nat.le_refl _) (fun q hq _ => block4 _ _ _ _ _ _ _ (by simp at hq; omega)) _ _ hTr)
  · have HKK : Hid (((0 + (64 - b') : Nat) : Int) = (k : Int)) := by unfold Hid; rw [hk]
    subst hr
    clear hk hgot
    go_wp2
    exact bodyPost_ret (v := .tuple #[exV 0 0 [] none 0 0, .int .i64 f, .int .i64 (k : Int)]) (by simp [results, Tryz.results25, go_sem, exV, r0, r1, r2, r3]) rfl
      (upost_er_at HKK.out hf hb' (below_set4 hB1 (Nat.le_refl _) _ _ _ _))
end Go.Proofs.YtinocaggponpmaaGreatDoor.Ep

namespace Go.Proofs.YtinocaggponpmaaGreatDoor.Ep
open Go.RowKit Lx

set_option maxRecDepth 100000 in
set_option maxHeartbeats 4000000 in
theorem refParse_any (s : ByteArray) (w : World) (hs : s.size ≤ 20000) :
    Calls Tryz.prog 8 #[.string s] w (PPost (parseP s.data.toList) w) := by
  have hbw : Below w.heap.size w (w.alloc (.cells #[.int .i64 0, .int .i64 0, .string ⟨#[]⟩, .slice none 0 0] 25)) := (Below.refl _ _).alloc (Nat.le_refl _) _
  have hx0 := Box.new w 25 #[.int .i64 0, .int .i64 0, .string ⟨#[]⟩, .slice none 0 0]
  have HP : Hid (parseP s.data.toList = if (cutL s.data.toList).2.1 ≠ 0 then (none, (cutL s.data.toList).2.1, (cutL s.data.toList).2.2) else match takeT (cutL s.data.toList).1 with
    | .er f b' => (none, f, ((cutL s.data.toList).1.getD (64 - b') endTok).at_)
    | .ok t b' ts => if (nextT ts).kind ≠ 0 then (none, 11, ((cutL s.data.toList).1.getD (64 - b') endTok).at_) else (some t, 0, 0)) := rfl
  have HL := Lib.hid (cut_len_le s.data.toList)
  have HF := Lib.hid (cut_form s.data.toList)
  have HN := Lib.hid (cut_fine s.data.toList)
  have HB := Lib.hid hbw
  clear hbw
  go_enter Tryz.func8, Tryz.ntmps8
  go_wp2_with fail
  refine (refCut_any s _ hs).mono ?_
  rintro e w1 ⟨v, rfl, hown, hb1⟩
  have hx1 := hx0.below hb1 hx0.lt
  have hbw1 := HB.out.trans (hb1.mono (by simp))
  obtain ⟨A, cap, rfl⟩ := ownsRow_slice hown
  generalize cutL s.data.toList = C at *
  obtain ⟨L, f, at_⟩ := C
  simp only at *
  clear hx0 HB hb1
  obtain ⟨r0, r1, r2, r3, s0, s1, s2, s3⟩ := hx1.four
  have hlw := hx1.lt
  by_cases hf : f = 0
  · have hd : (f != 0) = false := by simp [hf]
    obtain ⟨ts, p, hts⟩ := HF.out hf
    have hpos : 0 < L.length := by rw [hts]; simp
    obtain ⟨-, hc, hg⟩ := own_toks hown
    obtain ⟨g, rfl, hgl, hcells⟩ := hg hpos
    have hne : w.heap.size < g := by
      obtain ⟨g', cap', hv, hb', -⟩ := hown.form (by omega)
      injection hv with hv
      injection hv with hv
      injection hv with hv
      subst hv
      simp at hb'
      omega
    have hne1 : ¬ w.heap.size = g := by omega
    have hne2 : ¬ g = w.heap.size := by omega
    have hTA : Eu.Toks w1 g L := ⟨hgl, hcells⟩
    have HQ : Hid (parseP s.data.toList = match takeT L with
      | .er f b' => (none, f, (L.getD (64 - b') endTok).at_)
      | .ok t b' ts => if (nextT ts).kind ≠ 0 then (none, 11, (L.getD (64 - b') endTok).at_) else (some t, 0, 0)) := by
      unfold Hid; rw [HP.out, if_neg (by simp [hf])]
    have HTS := Lib.hid hts
    have hcons := take_cons Fine L HN.out
    have hll := HL.out
    clear HP HF hf hts hcells hown
    go_wp2_with fail
    refine (uTake_any g cap L (by have := HL.out; omega) hc HN.out hpos _ hTA).mono ?_
    intro e w2 hpost
    cases hr : takeT L with
    | er f2 b' =>
      rw [hr] at hpost hcons
      obtain ⟨rfl, hf2, -, hb2⟩ := hpost
      have hlt := taken_lt L ts p HTS.out (64 - b') hcons.2.1
      have HE : Hid (parseP s.data.toList = (none, f2, (L.getD (64 - b') endTok).at_)) := by unfold Hid; rw [HQ.out, hr]
      have hTA2 := hTA.below hb2
      obtain ⟨t0, t1, t2, t3⟩ := hTA2.2 (64 - b') hlt
      have hg2 := hTA2.1
      have hx2 := hx1.below hb2 hlw
      have hbw2 := hbw1.trans (hb2.mono (Nat.le_of_lt (Nat.lt_of_lt_of_le hlw (Nat.le_refl _))))
      clear HQ hr hcons hTA hTA2 r0 r1 r2 r3 s0 s1 s2 s3
      obtain ⟨r0, r1, r2, r3, s0, s1, s2, s3⟩ := hx2.four
      have hlw2 := hx2.lt
      have d1 : (f2 == 0) = false := by simpa using hf2
      have d2 : (f2 != 0) = true := by simpa using hf2
      generalize 64 - b' = k at *
      generalize L.getD k endTok = tk at *
      generalize L.length = len at *
      unfold exV
      go_wp2
      go_region
      go_wp2
      rw [HE.out]
      exact bodyPost_ret (v := .tuple #[exV 0 0 [] none 0 0, .int .i64 f2, .int .i64 tk.at_]) (by simp [results, Tryz.results8, go_sem, exV, r0, r1, r2, r3, hlw2]) rfl ⟨rfl, ((below_set4 hbw2 (Nat.le_refl _) _ _ _ _).alloc (below_set4 hbw2 (Nat.le_refl _) _ _ _ _).size _).drew⟩
    | ok t b' ts' =>
      rw [hr] at hpost hcons
      obtain ⟨v, rfl, hT, -, hts', hb2⟩ := hpost
      have hlt := taken_lt L ts p HTS.out (64 - b') hcons.2.2.1
      have hnx : nextT ts' = L.getD (64 - b') endTok := by rw [hts', getD_next, Nat.zero_add]
      obtain ⟨ta, tcap, rfl, -, -⟩ := hT.open
      have hTA2 := hTA.below hb2
      obtain ⟨t0, t1, t2, t3⟩ := hTA2.2 (64 - b') hlt
      have hg2 := hTA2.1
      have hx2 := hx1.below hb2 hlw
      have hbw2 := hbw1.trans (hb2.mono (Nat.le_of_lt (Nat.lt_of_lt_of_le hlw (Nat.le_refl _))))
      have hTl : TreeV (fun k => w.heap.size + 1 ≤ k) w2 t (exV t.op t.n t.name ta t.kids.length tcap) := TreeV.low (fun k hk => by omega) _ _ hT
      have hpq : Hid (parseP s.data.toList = if (L.getD (64 - b') endTok).kind ≠ 0 then (none, 11, (L.getD (64 - b') endTok).at_) else (some t, 0, 0)) := by unfold Hid; rw [HQ.out, hr]; simp only; rw [hnx]
      clear HQ hr hcons hTA hTA2 r0 r1 r2 r3 s0 s1 s2 s3 hnx hts' hT
      obtain ⟨r0, r1, r2, r3, s0, s1, s2, s3⟩ := hx2.four
      have hlw2 := hx2.lt
      generalize 64 - b' = k at *
      generalize L.getD k endTok = tk at *
      generalize L.length = len at *
      unfold exV
      by_cases hk0 : tk.kind = 0
      · have HE : Hid (parseP s.data.toList = (some t, 0, 0)) := by unfold Hid; rw [hpq.out, if_neg (by simp [hk0])]
        have d1 : (tk.kind != 0) = false := by simp [hk0]
        clear hk0 hpq
        go_wp2
        rw [HE.out]
        refine bodyPost_ret (v := .tuple #[exV t.op t.n t.name ta t.kids.length tcap, .int .i64 0, .int .i64 0]) (by simp [results, Tryz.results8, go_sem, exV, r0, r1, r2, r3, hlw2]) rfl ⟨_, rfl, ?_, ?_⟩
        · exact TreeV.alloc (TreeV.low (fun k hk => by omega) _ _ (TreeV.keep (by rw [size4]; exact Nat.le_refl _) (fun q hq _ => block4 _ _ _ _ _ _ _ (by omega)) _ _ hTl)) _
        · exact (below_set4 hbw2 (Nat.le_refl _) _ _ _ _).alloc (below_set4 hbw2 (Nat.le_refl _) _ _ _ _).size _
      · have HE : Hid (parseP s.data.toList = (none, 11, tk.at_)) := by unfold Hid; rw [hpq.out, if_pos hk0]
        have d1 : (tk.kind != 0) = true := by simpa using hk0
        clear hk0 hpq
        go_wp2
        go_region
        go_wp2
        rw [HE.out]
        exact bodyPost_ret (v := .tuple #[exV 0 0 [] none 0 0, .int .i64 11, .int .i64 tk.at_]) (by simp [results, Tryz.results8, go_sem, exV, r0, r1, r2, r3, hlw2]) rfl ⟨rfl, ((below_set4 hbw2 (Nat.le_refl _) _ _ _ _).alloc (below_set4 hbw2 (Nat.le_refl _) _ _ _ _).size _).drew⟩
  · have hd : (f != 0) = true := by simp [hf]
    have HE : Hid (parseP s.data.toList = (none, f, at_)) := by unfold Hid; rw [HP.out, if_pos hf]
    clear HP HF hf
    go_wp2
    rw [HE.out]
    exact bodyPost_ret (v := .tuple #[exV 0 0 [] none 0 0, .int .i64 f, .int .i64 at_]) (by simp [results, Tryz.results8, go_sem, exV, r0, r1, r2, r3]) rfl ⟨rfl, below_set4 hbw1 (Nat.le_refl _) _ _ _ _⟩
end Go.Proofs.YtinocaggponpmaaGreatDoor.Ep
