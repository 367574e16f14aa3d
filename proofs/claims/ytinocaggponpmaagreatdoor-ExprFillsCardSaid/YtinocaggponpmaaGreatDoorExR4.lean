/-
  The contract of the reader's join.
-/
import Derived.Test.YtinocaggponpmaaGreatDoorExR3
namespace Go.Proofs.YtinocaggponpmaaGreatDoor.Ep
open Go.RowKit Lx

/-- What join reads: an operator of a level, and its right operand. -/
def joinR (F : Nat → List Tok → Res) (lv : Int) (tl : Ex) (b : Nat) (ts : List Tok) : Res :=
  if b = 0 then .er 2 0 else match F (b - 1) ts.tail with
    | .er f b' => .er f b'
    | .ok r b' ts' => .ok (.mk (operT ts lv 2) 0 [] [tl, r]) b' ts'

/-- What a reading leaves, its tree in blocks of a set. -/
def JPost (S : Nat → Prop) (p g c : Nat) (L : List Tok) (i b : Nat) (w : World) (r : Res) (e : Ending) (w' : World) : Prop :=
  match r with
  | .ok t b' ts => ∃ v, e = .returned (.tuple #[v, .int .i64 0]) ∧ TreeV S w' t v ∧ b' < b ∧ ts = L.drop (i + (b - b')) ∧ Rd p g c L (i + (b - b')) (64 - b') w' ∧ Keeps p w w'
  | .er f b' => ∃ (z0 z1 : Int) (s : ByteArray) (a : Option Addr) (n cp : Nat), e = .returned (.tuple #[.agg #[.int .i64 z0, .int .i64 z1, .string s, .slice a n cp], .int .i64 f]) ∧ f ≠ 0 ∧ b' ≤ b ∧ Rd p g c L (i + (b - b')) (64 - b') w' ∧ Keeps p w w'
theorem jpost_er {S : Nat → Prop} {p g c : Nat} {L : List Tok} {i b b' : Nat} {w w' : World} {f z0 z1 : Int} {s : ByteArray} {a : Option Addr} {n cp : Nat} (hf : f ≠ 0) (hb : b' ≤ b) (hR : Rd p g c L (i + (b - b')) (64 - b') w') (hK : Keeps p w w') :
    JPost S p g c L i b w (.er f b') (.returned (.tuple #[.agg #[.int .i64 z0, .int .i64 z1, .string s, .slice a n cp], .int .i64 f])) w' := by
  unfold JPost
  exact ⟨z0, z1, s, a, n, cp, rfl, hf, hb, hR, hK⟩
theorem jpost_ok {S : Nat → Prop} {p g c : Nat} {L : List Tok} {i b b' : Nat} {w w' : World} {t : Ex} {v : Value} {ts : List Tok} (hb : b' < b) (hts : ts = L.drop (i + (b - b'))) (hT : TreeV S w' t v) (hR : Rd p g c L (i + (b - b')) (64 - b') w') (hK : Keeps p w w') :
    JPost S p g c L i b w (.ok t b' ts) (.returned (.tuple #[v, .int .i64 0])) w' := by
  unfold JPost
  exact ⟨v, rfl, hT, hb, hts, hR, hK⟩

theorem block4 (w : World) (q : Nat) (x0 x1 x2 x3 : Value) (k : Nat) (hn : k ≠ q) : ((((w.setCell ⟨q, 0, none⟩ x0).setCell ⟨q, 1, none⟩ x1).setCell ⟨q, 2, none⟩ x2).setCell ⟨q, 3, none⟩ x3).heap[k]? = w.heap[k]? := by
  rw [Below.heap_setCell _ _ _ _ hn, Below.heap_setCell _ _ _ _ hn, Below.heap_setCell _ _ _ _ hn, Below.heap_setCell _ _ _ _ hn]
theorem tree_two {S : Nat → Prop} {w : World} {g : Nat} {T : TypeId} {k l : Ex} {ka la : Option Addr} {kc lc : Nat}
    (hbx : Box w g T #[.int .i64 k.op, .int .i64 k.n, .string ⟨k.name.toArray⟩, .slice ka k.kids.length kc, .int .i64 l.op, .int .i64 l.n, .string ⟨l.name.toArray⟩, .slice la l.kids.length lc])
    (hk : TreeV S w k (exV k.op k.n k.name ka k.kids.length kc)) (hl : TreeV S w l (exV l.op l.n l.name la l.kids.length lc)) (hS : S g) (op : Int) : TreeV S w (.mk op 0 [] [k, l]) (exV op 0 [] (some ⟨g, 0, none⟩) 2 2) := by
  unfold TreeV
  refine ⟨some ⟨g, 0, none⟩, 2, rfl, Nat.le_refl _, fun _ => ⟨g, 0, rfl, hS, hbx.lt, ?_⟩⟩
  rw [TreeL, TreeL, TreeL]
  exact ⟨⟨ka, kc, hbx.cell 0, hbx.cell 1, hbx.cell 2, hbx.cell 3, hk⟩, ⟨la, lc, hbx.cell 4, hbx.cell 5, hbx.cell 6, hbx.cell 7, hl⟩, trivial⟩
theorem tree_one {S : Nat → Prop} {w : World} {g : Nat} {T : TypeId} {k : Ex} {ka : Option Addr} {kc : Nat}
    (hbx : Box w g T #[.int .i64 k.op, .int .i64 k.n, .string ⟨k.name.toArray⟩, .slice ka k.kids.length kc])
    (hk : TreeV S w k (exV k.op k.n k.name ka k.kids.length kc)) (hS : S g) (op : Int) : TreeV S w (.mk op 0 [] [k]) (exV op 0 [] (some ⟨g, 0, none⟩) 1 1) := by
  unfold TreeV
  refine ⟨some ⟨g, 0, none⟩, 1, rfl, Nat.le_refl _, fun _ => ⟨g, 0, rfl, hS, hbx.lt, ?_⟩⟩
  rw [TreeL, TreeL]
  exact ⟨⟨ka, kc, hbx.cell 0, hbx.cell 1, hbx.cell 2, hbx.cell 3, hk⟩, trivial⟩

set_option maxHeartbeats 2000000 in
theorem join_long (p g c : Nat) (L : List Tok) (fn : Nat) (F : Nat → List Tok → Res) (lv : Int) (tl : Ex) (vl : Value) (i : Nat) (w : World) (S S2 : Nat → Prop) (h : Rd p g c L i 64 w) (hT : TreeV S w tl vl) :
    Calls Tryz.prog 114 #[.pointer (some ⟨p, 0, none⟩), vl, .int .i64 lv, .func (.func fn) #[.pointer (some ⟨p, 0, none⟩)] #[]] w (JPost S2 p g c L i 0 w (joinR F lv tl 0 (L.drop i))) := by
  have HX : Hid (joinR F lv tl 0 (L.drop i) = .er 2 0) := by unfold Hid joinR; rw [if_pos rfl]
  rw [HX.out]
  clear HX
  obtain ⟨a, cap, rfl, -, -⟩ := hT.open
  have hp := h.lt
  unfold exV
  go_enter Tryz.func114, Tryz.ntmps114
  go_wp2_with fail
  refine (oper_any p g c L i 64 lv 2 _ ((h.alloc _).alloc _)).mono ?_
  rintro e w1 ⟨rfl, hb1⟩
  have hr1 := ((h.alloc _).alloc _).below hb1 (Nat.le_refl _)
  have hx0 := (Box.new (w.alloc _) 25 _).below hb1 (by simp)
  have hk1 : Keeps p w w1 := (((Keeps.refl p w).alloc _).alloc _).below hb1 (by simp; omega)
  have e1 : (w.alloc (Obj.cells #[Value.int IntKind.i64 tl.op, Value.int IntKind.i64 tl.n, Value.string ⟨tl.name.toArray⟩, Value.slice a tl.kids.length cap] 25)).heap.size = w.heap.size + 1 := by simp
  rw [e1] at hx0
  obtain ⟨r0, r1, r2, r3, s0, s1, s2, s3⟩ := hx0.four
  clear hb1 e1
  generalize operT (L.drop i) lv 2 = o at *
  go_wp2_with fail
  refine (take_no p g c L i _ hr1).mono ?_
  rintro e w2 ⟨rfl, rfl⟩
  go_wp2
  exact bodyPost_ret (v := .tuple #[exV 0 0 [] none 0 0, .int .i64 2]) (by simp [results, Tryz.results114, go_sem, exV, r0, r1, r2, r3]) rfl (jpost_er (by decide) (Nat.le_refl _) (hr1.set4 (by omega) _ _ _ _) (hk1.set4 (by omega) _ _ _ _))

set_option maxHeartbeats 4000000 in
theorem join_er (p g c : Nat) (L : List Tok) (fn : Nat) (hen : ∀ args w, (callFunc fn args).run Tryz.prog w = .ok (.enter fn args) w) (F : Nat → List Tok → Res) (D : Nat) (hF : Reads p g c L fn F D) (lv : Int) (tl : Ex) (vl : Value) (i b : Nat) (w : World)
    (hb : b ≤ 64) (hD : b ≤ D) (hib : i + b ≤ 100000) (h : Rd p g c L i (64 - b) w) (S S2 : Nat → Prop) (hT : TreeV S w tl vl) (hb0 : 0 < b) (f : Int) (b' : Nat) (hf : F (b - 1) (L.drop i).tail = .er f b') :
    Calls Tryz.prog 114 #[.pointer (some ⟨p, 0, none⟩), vl, .int .i64 lv, .func (.func fn) #[.pointer (some ⟨p, 0, none⟩)] #[]] w (JPost S2 p g c L i b w (joinR F lv tl b (L.drop i))) := by
  have HX : Hid (joinR F lv tl b (L.drop i) = .er f b') := by unfold Hid joinR; rw [if_neg (by omega), hf]
  rw [HX.out]
  clear HX
  rw [List.tail_drop] at hf
  have HF := Lib.hid hf
  clear hf
  obtain ⟨a, cap, rfl, -, -⟩ := hT.open
  have hp := h.lt
  unfold exV
  go_enter Tryz.func114, Tryz.ntmps114
  go_wp2_with fail
  refine (oper_any p g c L i (64 - b) lv 2 _ ((h.alloc _).alloc _)).mono ?_
  rintro e w1 ⟨rfl, hb1⟩
  have hr1 := ((h.alloc _).alloc _).below hb1 (Nat.le_refl _)
  have hxl := ((Box.new w 25 _).alloc _).below hb1 (by simp; omega)
  have hx0 := (Box.new (w.alloc _) 25 _).below hb1 (by simp)
  have hk1 : Keeps p w w1 := (((Keeps.refl p w).alloc _).alloc _).below hb1 (by simp; omega)
  have e1 : (w.alloc (Obj.cells #[Value.int IntKind.i64 tl.op, Value.int IntKind.i64 tl.n, Value.string ⟨tl.name.toArray⟩, Value.slice a tl.kids.length cap] 25)).heap.size = w.heap.size + 1 := by simp
  rw [e1] at hx0
  clear hb1 e1
  generalize operT (L.drop i) lv 2 = o at *
  go_wp2_with fail
  refine (take_yes p g c L i (64 - b) _ hr1 (by omega) (by omega)).mono ?_
  rintro e w2 ⟨rfl, hr2, hk2⟩
  have hxl2 := hxl.keeps hk2 (by omega)
  have hx02 := hx0.keeps hk2 (by omega)
  have hk12 := hk1.trans hk2
  clear hk1 hk2 hxl hx0
  have e2 : 64 - b + 1 = 64 - (b - 1) := by omega
  rw [e2] at hr2
  clear e2
  go_wp2_with fail
  refine (hF (i + 1) (b - 1) _ (by omega) (by omega) (by omega) hr2).mono ?_
  rw [HF.out]
  unfold RPost
  rintro e w3 ⟨z0, z1, sx, ax, nx, cx, rfl, hf0, hb', hr3, hk3⟩
  have hxl3 := hxl2.keeps hk3 (by omega)
  have hx03 := hx02.keeps hk3 (by omega)
  have hk13 := hk12.trans hk3
  obtain ⟨c0, c1, c2, c3, f0, f1, f2, f3⟩ := hxl3.four
  obtain ⟨r0, r1, r2, r3, s0, s1, s2, s3⟩ := hx03.four
  have hl3 := hx03.lt
  have hl4 := hxl3.lt
  clear hk12 hk3 hxl2 hx02
  go_wp2_with fail
  refine (node_any _ _ _ _ _).mono ?_
  rintro e w4 ⟨rfl, hb4⟩
  have hr4 := ((hr3.alloc _).alloc _).below hb4 (Nat.le_refl _)
  have hx4 := ((hx03.alloc _).alloc _).below hb4 (by simp; omega)
  have hk4 := ((hk13.alloc _).alloc _).below hb4 (by have := hk13.size; simp; omega)
  obtain ⟨r0, r1, r2, r3, s0, s1, s2, s3⟩ := hx4.four
  have hl5 := hx4.lt
  clear hb4 c0 c1 c2 c3 f0 f1 f2 f3
  unfold exV
  go_wp2
  exact bodyPost_ret (v := .tuple #[exV o 0 [] (some ⟨w3.heap.size + 1, 0, none⟩) 2 2, .int .i64 f]) (by simp [results, Tryz.results114, go_sem, exV, r0, r1, r2, r3]) rfl
    (jpost_er hf0 (by omega) (by have := hr4.set4 (q := w.heap.size + 1) (by omega) (.int .i64 o) (.int .i64 0) (.string ⟨#[]⟩) (.slice (some ⟨w3.heap.size + 1, 0, none⟩) 2 2); rw [show i + 1 + (b - 1 - b') = i + (b - b') by omega] at this; exact this) (hk4.set4 (by omega) _ _ _ _))

set_option maxHeartbeats 4000000 in
theorem join_ok (p g c : Nat) (L : List Tok) (fn : Nat) (hen : ∀ args w, (callFunc fn args).run Tryz.prog w = .ok (.enter fn args) w) (F : Nat → List Tok → Res) (D : Nat) (hF : Reads p g c L fn F D) (lv : Int) (tl : Ex) (vl : Value) (i b : Nat) (w : World)
    (hb : b ≤ 64) (hD : b ≤ D) (hib : i + b ≤ 100000) (h : Rd p g c L i (64 - b) w) (S S2 : Nat → Prop) (hT : TreeV S w tl vl) (hb0 : 0 < b) (hSp : ¬ S p) (hS2 : ∀ k, S k ∨ w.heap.size + 2 ≤ k → S2 k) (tr : Ex) (b' : Nat) (ts' : List Tok) (hf : F (b - 1) (L.drop i).tail = .ok tr b' ts') :
    Calls Tryz.prog 114 #[.pointer (some ⟨p, 0, none⟩), vl, .int .i64 lv, .func (.func fn) #[.pointer (some ⟨p, 0, none⟩)] #[]] w (JPost S2 p g c L i b w (joinR F lv tl b (L.drop i))) := by
  have HX : Hid (joinR F lv tl b (L.drop i) = .ok (.mk (operT (L.drop i) lv 2) 0 [] [tl, tr]) b' ts') := by unfold Hid joinR; rw [if_neg (by omega), hf]
  rw [HX.out]
  clear HX
  rw [List.tail_drop] at hf
  have HF := Lib.hid hf
  clear hf
  obtain ⟨a, cap, rfl, -, -⟩ := hT.open
  have hp := h.lt
  unfold exV
  go_enter Tryz.func114, Tryz.ntmps114
  go_wp2_with fail
  refine (oper_any p g c L i (64 - b) lv 2 _ ((h.alloc _).alloc _)).mono ?_
  rintro e w1 ⟨rfl, hb1⟩
  have hr1 := ((h.alloc _).alloc _).below hb1 (Nat.le_refl _)
  have hxl := ((Box.new w 25 _).alloc _).below hb1 (by simp; omega)
  have hx0 := (Box.new (w.alloc _) 25 _).below hb1 (by simp)
  have hk1 : Keeps p w w1 := (((Keeps.refl p w).alloc _).alloc _).below hb1 (by simp; omega)
  have e1 : (w.alloc (Obj.cells #[Value.int IntKind.i64 tl.op, Value.int IntKind.i64 tl.n, Value.string ⟨tl.name.toArray⟩, Value.slice a tl.kids.length cap] 25)).heap.size = w.heap.size + 1 := by simp
  rw [e1] at hx0
  clear hb1 e1
  have ho := operT_bd (L.drop i) lv 2
  generalize operT (L.drop i) lv 2 = o at *
  go_wp2_with fail
  refine (take_yes p g c L i (64 - b) _ hr1 (by omega) (by omega)).mono ?_
  rintro e w2 ⟨rfl, hr2, hk2⟩
  have hxl2 := hxl.keeps hk2 (by omega)
  have hx02 := hx0.keeps hk2 (by omega)
  have hk12 := hk1.trans hk2
  clear hk1 hk2 hxl hx0
  have e2 : 64 - b + 1 = 64 - (b - 1) := by omega
  rw [e2] at hr2
  clear e2
  go_wp2_with fail
  refine (hF (i + 1) (b - 1) _ (by omega) (by omega) (by omega) hr2).mono ?_
  rw [HF.out]
  unfold RPost
  rintro e w3 ⟨vr, rfl, hTr, hb', hts, hr3, hk3⟩
  obtain ⟨ra, rcap, rfl, -, -⟩ := hTr.open
  have hxl3 := hxl2.keeps hk3 (by omega)
  have hx03 := hx02.keeps hk3 (by omega)
  have hk13 := hk12.trans hk3
  obtain ⟨c0, c1, c2, c3, f0, f1, f2, f3⟩ := hxl3.four
  obtain ⟨r0, r1, r2, r3, s0, s1, s2, s3⟩ := hx03.four
  have hl3 := hx03.lt
  have hl4 := hxl3.lt
  have hx02l := hx02.lt
  clear hk12 hxl2 hx02
  unfold exV
  have hs2 : w.heap.size + 1 < w2.heap.size := by have := hk3.size; have := hx02l; omega
  go_wp2_with fail
  refine (node_any _ _ _ _ _).mono ?_
  rintro e w4 ⟨rfl, hb4⟩
  have hr4 := ((hr3.alloc _).alloc _).below hb4 (Nat.le_refl _)
  have hx4 := ((hx03.alloc _).alloc _).below hb4 (by simp; omega)
  have hk4 := ((hk13.alloc _).alloc _).below hb4 (by have := hk13.size; simp; omega)
  have hrow := (Box.new (w3.alloc _) 25 _).below hb4 (by simp)
  have e4 : (w3.alloc (Obj.cells #[Value.int IntKind.i64 tr.op, Value.int IntKind.i64 tr.n, Value.string ⟨tr.name.toArray⟩, Value.slice ra tr.kids.length rcap] 25)).heap.size = w3.heap.size + 1 := by simp
  rw [e4] at hrow
  have hbk : ∀ k, k < w3.heap.size → w4.heap[k]? = w3.heap[k]? := fun k hk => by
    rw [hb4.block k (by simp; omega), Below.heap_alloc _ _ _ (by simp; omega), Below.heap_alloc _ _ _ hk]
  obtain ⟨r0, r1, r2, r3, s0, s1, s2, s3⟩ := hx4.four
  have hl5 := hx4.lt
  clear hb4 c0 c1 c2 c3 f0 f1 f2 f3 e4
  unfold exV
  go_wp2
  have hkf := hk4.set4 (q := w.heap.size + 1) (by omega) (.int .i64 o) (.int .i64 0) (.string ⟨#[]⟩) (.slice (some ⟨w3.heap.size + 1, 0, none⟩) 2 2)
  have hrf := hr4.set4 (q := w.heap.size + 1) (by omega) (.int .i64 o) (.int .i64 0) (.string ⟨#[]⟩) (.slice (some ⟨w3.heap.size + 1, 0, none⟩) 2 2)
  have hrowf := hrow.off4 (q := w.heap.size + 1) (by omega) (.int .i64 o) (.int .i64 0) (.string ⟨#[]⟩) (.slice (some ⟨w3.heap.size + 1, 0, none⟩) 2 2)
  have hsz := size4 w4 (w.heap.size + 1) (.int .i64 o) (.int .i64 0) (.string ⟨#[]⟩) (.slice (some ⟨w3.heap.size + 1, 0, none⟩) 2 2)
  have htl := TreeV.low (fun k hk => hS2 k (Or.inl hk)) _ _ (TreeV.keep hkf.size (fun k hk hlt => hkf.block k hlt (fun e => hSp (e ▸ hk))) _ _ hT)
  have htr := TreeV.low (lo' := S2) (fun k hk => hS2 k (Or.inr (by omega))) _ _ (TreeV.keep (w' := _) (by rw [hsz]; have := hrow.lt; omega) (fun k hk hlt => (block4 w4 (w.heap.size + 1) (.int .i64 o) (.int .i64 0) (.string ⟨#[]⟩) (.slice (some ⟨w3.heap.size + 1, 0, none⟩) 2 2) k (by omega)).trans (hbk k hlt)) _ _ hTr)
  rw [show i + 1 + (b - 1 - b') = i + (b - b') by omega] at hrf
  exact bodyPost_ret (v := .tuple #[exV o 0 [] (some ⟨w3.heap.size + 1, 0, none⟩) 2 2, .int .i64 0]) (by simp [results, Tryz.results114, go_sem, exV, r0, r1, r2, r3]) rfl
    (jpost_ok (by omega) (by rw [hts]; congr 1; omega) (tree_two hrowf htl htr (hS2 _ (Or.inr (by have := hxl3.lt; omega))) o) hrf hkf)

theorem join_any (p g c : Nat) (L : List Tok) (fn : Nat) (hen : ∀ args w, (callFunc fn args).run Tryz.prog w = .ok (.enter fn args) w) (F : Nat → List Tok → Res) (D : Nat) (hF : Reads p g c L fn F D) (lv : Int) (tl : Ex) (vl : Value) (i b : Nat) (w : World)
    (hb : b ≤ 64) (hD : b ≤ D) (hib : i + b ≤ 100000) (h : Rd p g c L i (64 - b) w) (S S2 : Nat → Prop) (hT : TreeV S w tl vl) (hSp : ¬ S p) (hS2 : ∀ k, S k ∨ w.heap.size + 2 ≤ k → S2 k) :
    Calls Tryz.prog 114 #[.pointer (some ⟨p, 0, none⟩), vl, .int .i64 lv, .func (.func fn) #[.pointer (some ⟨p, 0, none⟩)] #[]] w (JPost S2 p g c L i b w (joinR F lv tl b (L.drop i))) := by
  rcases Nat.eq_zero_or_pos b with h0 | h0
  · subst h0
    exact join_long p g c L fn F lv tl vl i w S S2 h hT
  · cases hf : F (b - 1) (L.drop i).tail with
    | er f b' => exact join_er p g c L fn hen F D hF lv tl vl i b w hb hD hib h S S2 hT h0 f b' hf
    | ok tr b' ts' => exact join_ok p g c L fn hen F D hF lv tl vl i b w hb hD hib h S S2 hT h0 hSp hS2 tr b' ts' hf
end Go.Proofs.YtinocaggponpmaaGreatDoor.Ep
