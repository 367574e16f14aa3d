/-
  What a reading leaves; the contract of the reader's leaf.
-/
import Derived.Test.YtinocaggponpmaaGreatDoorExR2
import Derived.Deep.RegionWith
import Derived.Deep.RegionHeld3
namespace Go.Proofs.YtinocaggponpmaaGreatDoor.Ep
open Go.RowKit Lx

end Go.Proofs.YtinocaggponpmaaGreatDoor.Ep
namespace Go.Proofs.YtinocaggponpmaaGreatDoor.Lx
open Go.RowKit Ep
theorem Box.lt {w : World} {g : Nat} {t : TypeId} {cs : Array Value} (h : Box w g t cs) : g < w.heap.size := (Array.getElem?_eq_some_iff.1 h).1
theorem Box.set4 {w : World} {g : Nat} {t : TypeId} {a b c d : Value} (h : Box w g t #[a, b, c, d]) (x0 x1 x2 x3 : Value) :
    Box ((((w.setCell ⟨g, 0, none⟩ x0).setCell ⟨g, 1, none⟩ x1).setCell ⟨g, 2, none⟩ x2).setCell ⟨g, 3, none⟩ x3) g t #[x0, x1, x2, x3] := by
  unfold Box at h ⊢
  simp [World.setCell, Array.getElem?_modify, h]
theorem Box.off4 {w : World} {g q : Nat} {t : TypeId} {cs : Array Value} (h : Box w g t cs) (hn : g ≠ q) (x0 x1 x2 x3 : Value) :
    Box ((((w.setCell ⟨q, 0, none⟩ x0).setCell ⟨q, 1, none⟩ x1).setCell ⟨q, 2, none⟩ x2).setCell ⟨q, 3, none⟩ x3) g t cs := by
  unfold Box at h ⊢
  rw [Below.heap_setCell _ _ _ _ hn, Below.heap_setCell _ _ _ _ hn, Below.heap_setCell _ _ _ _ hn, Below.heap_setCell _ _ _ _ hn]
  exact h
theorem Box.alloc {w : World} {g : Nat} {t : TypeId} {cs : Array Value} (h : Box w g t cs) (o : Obj) : Box (w.alloc o) g t cs := (Below.heap_alloc _ _ _ h.lt).trans h
theorem Box.keeps {w w' : World} {g p : Nat} {t : TypeId} {cs : Array Value} (h : Box w g t cs) (k : Keeps p w w') (hn : g ≠ p) : Box w' g t cs :=
  (k.block g (Array.getElem?_eq_some_iff.1 h).1 hn).trans h
theorem Box.drew {w : World} {g : Nat} {t : TypeId} {cs : Array Value} (h : Box w g t cs) : Box w.drew g t cs := h
end Go.Proofs.YtinocaggponpmaaGreatDoor.Lx
namespace Go.Proofs.YtinocaggponpmaaGreatDoor.Ep
open Go.RowKit Lx

/-- What a reading from place i on, with b tokens left to take, leaves. -/
def RPost (p g c : Nat) (L : List Tok) (i b : Nat) (w : World) (r : Res) (e : Ending) (w' : World) : Prop :=
  match r with
  | .ok t b' ts => ∃ v, e = .returned (.tuple #[v, .int .i64 0]) ∧ TreeV (fun k => w.heap.size ≤ k) w' t v ∧ b' < b ∧ ts = L.drop (i + (b - b')) ∧ Rd p g c L (i + (b - b')) (64 - b') w' ∧ Keeps p w w'
  | .er f b' => ∃ (z0 z1 : Int) (s : ByteArray) (a : Option Addr) (n cp : Nat), e = .returned (.tuple #[.agg #[.int .i64 z0, .int .i64 z1, .string s, .slice a n cp], .int .i64 f]) ∧ f ≠ 0 ∧ b' ≤ b ∧ Rd p g c L (i + (b - b')) (64 - b') w' ∧ Keeps p w w'

/-- A method reads what a plain function does, as long as fewer than D tokens may be taken. -/
def Reads (p g c : Nat) (L : List Tok) (fn : Nat) (F : Nat → List Tok → Res) (D : Nat) : Prop :=
  ∀ (i b : Nat) (w : World), b < D → b ≤ 64 → i + b ≤ 100000 → Rd p g c L i (64 - b) w → Calls Tryz.prog fn #[.pointer (some ⟨p, 0, none⟩)] w (RPost p g c L i b w (F b (L.drop i)))

theorem tree_leaf (lo : Nat → Prop) (w : World) (op n : Int) (nm : List UInt8) : TreeV lo w (.mk op n nm []) (exV op n nm none 0 0) := by
  unfold TreeV
  exact ⟨none, 0, rfl, Nat.le_refl _, fun h => absurd rfl h⟩

theorem Rd.set4 {p g c : Nat} {L : List Tok} {i tk : Nat} {w : World} (h : Rd p g c L i tk w) {q : Nat} (hq : p < q) (x0 x1 x2 x3 : Value) :
    Rd p g c L i tk ((((w.setCell ⟨q, 0, none⟩ x0).setCell ⟨q, 1, none⟩ x1).setCell ⟨q, 2, none⟩ x2).setCell ⟨q, 3, none⟩ x3) := (((h.set hq _).set hq _).set hq _).set hq _
theorem Keeps.set4 {p : Nat} {a b : World} (h : Keeps p a b) {q : Nat} (hq : a.heap.size ≤ q) (x0 x1 x2 x3 : Value) :
    Keeps p a ((((b.setCell ⟨q, 0, none⟩ x0).setCell ⟨q, 1, none⟩ x1).setCell ⟨q, 2, none⟩ x2).setCell ⟨q, 3, none⟩ x3) := (((h.set hq _).set hq _).set hq _).set hq _
theorem Rd.drew {p g c : Nat} {L : List Tok} {i tk : Nat} {w : World} (h : Rd p g c L i tk w) : Rd p g c L i tk w.drew := ⟨h.blk, h.gp, h.toks, h.cap, h.len, ⟨h.ops.blk⟩, h.gop⟩
theorem Keeps.drew1 {p : Nat} {a b : World} (h : Keeps p a b) : Keeps p a b.drew := ⟨h.os, h.tape, h.output, h.size, h.block⟩
theorem size4 (w : World) (q : Nat) (x0 x1 x2 x3 : Value) : ((((w.setCell ⟨q, 0, none⟩ x0).setCell ⟨q, 1, none⟩ x1).setCell ⟨q, 2, none⟩ x2).setCell ⟨q, 3, none⟩ x3).heap.size = w.heap.size := by simp [World.setCell]

theorem rpost_ok1 {p g c : Nat} {L : List Tok} {i b : Nat} {w w' : World} {t : Ex} {v : Value} (hb0 : 0 < b) (hb : b ≤ 64) (hT : TreeV (fun k => w.heap.size ≤ k) w' t v) (hR : Rd p g c L (i + 1) (64 - b + 1) w') (hK : Keeps p w w') :
    RPost p g c L i b w (.ok t (b - 1) (L.drop i).tail) (.returned (.tuple #[v, .int .i64 0])) w' := by
  unfold RPost
  refine ⟨v, rfl, hT, by omega, ?_, ?_, hK⟩
  · rw [show i + (b - (b - 1)) = i + 1 by omega, List.tail_drop]
  · rw [show i + (b - (b - 1)) = i + 1 by omega, show 64 - (b - 1) = 64 - b + 1 by omega]; exact hR
theorem rpost_er0 {p g c : Nat} {L : List Tok} {i b : Nat} {w w' : World} {f z0 z1 : Int} {s : ByteArray} {a : Option Addr} {n cp : Nat} (hf : f ≠ 0) (hR : Rd p g c L i (64 - b) w') (hK : Keeps p w w') :
    RPost p g c L i b w (.er f b) (.returned (.tuple #[.agg #[.int .i64 z0, .int .i64 z1, .string s, .slice a n cp], .int .i64 f])) w' := by
  unfold RPost
  refine ⟨z0, z1, s, a, n, cp, rfl, hf, Nat.le_refl _, ?_, hK⟩
  rw [Nat.sub_self]; exact hR

set_option maxHeartbeats 2000000 in
theorem leaf_num_ok (p g c : Nat) (L : List Tok) (i b : Nat) (w : World) (hb : b ≤ 64) (hib : i + b ≤ 100000) (h : Rd p g c L i (64 - b) w) (hk : (nextT (L.drop i)).kind = 2) (hf : formedB 0 (nextT (L.drop i)).n [] 0 = true) (hb0 : 0 < b) :
    Calls Tryz.prog 142 #[.pointer (some ⟨p, 0, none⟩)] w (RPost p g c L i b w (leafT b (L.drop i))) := by
  have HX : Hid (leafT b (L.drop i) = .ok (.mk 0 (nextT (L.drop i)).n [] []) (b - 1) (L.drop i).tail) := by
    unfold Hid leafT; simp only; rw [if_pos hk, if_pos hf, if_neg (by omega)]
  rw [HX.out]
  clear HX
  have HF := Lib.hid hf
  clear hf
  have hd : ((nextT (L.drop i)).kind == 2) = true := by simpa using hk
  have hp := h.lt
  go_enter Tryz.func142, Tryz.ntmps142
  go_wp2_with fail
  refine (next_any p g c L i (64 - b) _ (h.alloc _)).mono ?_
  rintro e w1 ⟨rfl, hb1⟩
  have hr1 := (h.alloc _).below hb1 (Nat.le_refl _)
  have hw1 := below_new hb1
  have hx0 := (Box.new w 25 _).below hb1 (by simp)
  clear hk hb1
  generalize nextT (L.drop i) = t at *
  obtain ⟨k, tx, n, a⟩ := t
  unfold tokV
  simp only at *
  go_wp2_with fail
  refine (num_any n _).mono ?_
  rintro e w2 ⟨rfl, hb2⟩
  have hr2 := ((hr1.alloc _).alloc _).below hb2 (Nat.le_refl _)
  have hy0 := ((hx0.alloc _).alloc _).below hb2 (by have := hx0.lt; simp; omega)
  have hy5 := (Box.new (w1.alloc _) 25 _).below hb2 (by simp)
  have hk2 : Keeps p w w2 := (((Keeps.of hw1 (Nat.le_refl _)).alloc _).alloc _).below hb2 (by have := hw1.size; simp; omega)
  have hs1 : w.heap.size ≤ w1.heap.size := hw1.size
  have e1 : (w1.alloc (Obj.cells #[Value.int IntKind.i64 k, Value.string { data := tx.toArray }, Value.int IntKind.i64 n, Value.int IntKind.i64 a] 52)).heap.size = w1.heap.size + 1 := by simp
  rw [e1] at hy5
  have hs2 : w1.heap.size + 1 < w2.heap.size := hy5.lt
  obtain ⟨c0, c1, c2, c3, f0, f1, f2, f3⟩ := hy5.four
  clear hb2 hw1 hr1 hx0 e1
  unfold exV
  go_wp2_with fail
  refine (formed_any 0 n [] none 0 0 _ (hr2.set4 (by omega) _ _ _ _).ops).mono ?_
  rintro e w3 ⟨rfl, hb3⟩
  rw [HF.out]
  have hr3 := (hr2.set4 (q := w1.heap.size + 1) (by omega) _ _ _ _).below hb3 (Nat.le_refl _)
  have hz0 := (hy0.off4 (q := w1.heap.size + 1) (by omega) _ _ _ _).below hb3 (by have := hy0.lt; rw [size4]; omega)
  have hz5 := (hy5.set4 _ _ _ _).below hb3 (by rw [size4]; omega)
  have hk3 := (hk2.set4 (q := w1.heap.size + 1) (by omega) _ _ _ _).below hb3 (by have := hk2.size; rw [size4]; omega)
  clear hb3 hr2 hy0 hy5 hk2 c0 c1 c2 c3 f0 f1 f2 f3
  obtain ⟨c0, c1, c2, c3, f0, f1, f2, f3⟩ := hz5.four
  obtain ⟨r0, r1, r2, r3, s0, s1, s2, s3⟩ := hz0.four
  go_wp2_with fail
  go_region_with (go_at_call 128; refine (take_yes p g c L i (64 - b) _ (by exact hr3.drew) (by omega) (by omega)).mono ?_; rintro e w4 ⟨rfl, hr4, hk4⟩; have hz5' := hz5.drew.keeps hk4 (by omega); have hz0' := hz0.drew.keeps hk4 (by omega); obtain ⟨c0, c1, c2, c3, f0, f1, f2, f3⟩ := hz5'.four; obtain ⟨r0, r1, r2, r3, s0, s1, s2, s3⟩ := hz0'.four)
  all_goals go_wp2
  all_goals exact bodyPost_ret (v := .tuple #[exV 0 n [] none 0 0, .int .i64 0]) (by simp [results, Tryz.results142, go_sem, exV, r0, r1, r2, r3]) rfl (rpost_ok1 hb0 hb (tree_leaf _ _ _ _ _) (hr4.set4 hp _ _ _ _) ((hk3.drew1.trans hk4).set4 (Nat.le_refl _) _ _ _ _))

set_option maxHeartbeats 2000000 in
theorem leaf_num_long (p g c : Nat) (L : List Tok) (i b : Nat) (w : World) (_hb : b ≤ 64) (_hib : i + b ≤ 100000) (h : Rd p g c L i (64 - b) w) (hk : (nextT (L.drop i)).kind = 2) (hf : formedB 0 (nextT (L.drop i)).n [] 0 = true) (hb0 : b = 0) :
    Calls Tryz.prog 142 #[.pointer (some ⟨p, 0, none⟩)] w (RPost p g c L i b w (leafT b (L.drop i))) := by
  have HX : Hid (leafT b (L.drop i) = .er 2 b) := by
    unfold Hid leafT; simp only; rw [if_pos hk, if_pos hf, if_pos hb0, hb0]
  rw [HX.out]
  clear HX
  have HF := Lib.hid hf
  clear hf
  have hd : ((nextT (L.drop i)).kind == 2) = true := by simpa using hk
  have hp := h.lt
  go_enter Tryz.func142, Tryz.ntmps142
  go_wp2_with fail
  refine (next_any p g c L i (64 - b) _ (h.alloc _)).mono ?_
  rintro e w1 ⟨rfl, hb1⟩
  have hr1 := (h.alloc _).below hb1 (Nat.le_refl _)
  have hw1 := below_new hb1
  have hx0 := (Box.new w 25 _).below hb1 (by simp)
  clear hk hb1
  generalize nextT (L.drop i) = t at *
  obtain ⟨k, tx, n, a⟩ := t
  unfold tokV
  simp only at *
  go_wp2_with fail
  refine (num_any n _).mono ?_
  rintro e w2 ⟨rfl, hb2⟩
  have hr2 := ((hr1.alloc _).alloc _).below hb2 (Nat.le_refl _)
  have hy0 := ((hx0.alloc _).alloc _).below hb2 (by have := hx0.lt; simp; omega)
  have hy5 := (Box.new (w1.alloc _) 25 _).below hb2 (by simp)
  have hk2 : Keeps p w w2 := (((Keeps.of hw1 (Nat.le_refl _)).alloc _).alloc _).below hb2 (by have := hw1.size; simp; omega)
  have hs1 : w.heap.size ≤ w1.heap.size := hw1.size
  have e1 : (w1.alloc (Obj.cells #[Value.int IntKind.i64 k, Value.string { data := tx.toArray }, Value.int IntKind.i64 n, Value.int IntKind.i64 a] 52)).heap.size = w1.heap.size + 1 := by simp
  rw [e1] at hy5
  have hs2 : w1.heap.size + 1 < w2.heap.size := hy5.lt
  obtain ⟨c0, c1, c2, c3, f0, f1, f2, f3⟩ := hy5.four
  clear hb2 hw1 hr1 hx0 e1
  unfold exV
  go_wp2_with fail
  refine (formed_any 0 n [] none 0 0 _ (hr2.set4 (by omega) _ _ _ _).ops).mono ?_
  rintro e w3 ⟨rfl, hb3⟩
  rw [HF.out]
  have hr3 := (hr2.set4 (q := w1.heap.size + 1) (by omega) _ _ _ _).below hb3 (Nat.le_refl _)
  have hz0 := (hy0.off4 (q := w1.heap.size + 1) (by omega) _ _ _ _).below hb3 (by have := hy0.lt; rw [size4]; omega)
  have hz5 := (hy5.set4 _ _ _ _).below hb3 (by rw [size4]; omega)
  have hk3 := (hk2.set4 (q := w1.heap.size + 1) (by omega) _ _ _ _).below hb3 (by have := hk2.size; rw [size4]; omega)
  clear hb3 hr2 hy0 hy5 hk2 c0 c1 c2 c3 f0 f1 f2 f3
  obtain ⟨c0, c1, c2, c3, f0, f1, f2, f3⟩ := hz5.four
  obtain ⟨r0, r1, r2, r3, s0, s1, s2, s3⟩ := hz0.four
  have H64 : Hid (64 - b = 64) := by unfold Hid; omega
  have hr3' : Rd p g c L i 64 w3.drew := by have := hr3.drew; rw [H64.out] at this; exact this
  clear hb0
  go_wp2_with fail
  go_region_with (go_at_call 128; refine (take_no p g c L i _ (by exact hr3')).mono ?_; rintro e w4 ⟨rfl, rfl⟩)
  all_goals go_wp2
  all_goals exact bodyPost_ret (v := .tuple #[exV 0 n [] none 0 0, .int .i64 2]) (by simp [results, Tryz.results142, go_sem, exV, r0, r1, r2, r3]) rfl (rpost_er0 (by decide) (hr3.drew.set4 hp _ _ _ _) (hk3.drew1.set4 (Nat.le_refl _) _ _ _ _))

set_option maxHeartbeats 2000000 in
theorem leaf_num_bad (p g c : Nat) (L : List Tok) (i b : Nat) (w : World) (_hb : b ≤ 64) (_hib : i + b ≤ 100000) (h : Rd p g c L i (64 - b) w) (hk : (nextT (L.drop i)).kind = 2) (hf : formedB 0 (nextT (L.drop i)).n [] 0 = false) :
    Calls Tryz.prog 142 #[.pointer (some ⟨p, 0, none⟩)] w (RPost p g c L i b w (leafT b (L.drop i))) := by
  have HX : Hid (leafT b (L.drop i) = .er 11 b) := by
    unfold Hid leafT; simp only; rw [if_pos hk, if_neg (by rw [hf]; decide)]
  rw [HX.out]
  clear HX
  have HF := Lib.hid hf
  clear hf
  have hd : ((nextT (L.drop i)).kind == 2) = true := by simpa using hk
  have hp := h.lt
  go_enter Tryz.func142, Tryz.ntmps142
  go_wp2_with fail
  refine (next_any p g c L i (64 - b) _ (h.alloc _)).mono ?_
  rintro e w1 ⟨rfl, hb1⟩
  have hr1 := (h.alloc _).below hb1 (Nat.le_refl _)
  have hw1 := below_new hb1
  have hx0 := (Box.new w 25 _).below hb1 (by simp)
  clear hk hb1
  generalize nextT (L.drop i) = t at *
  obtain ⟨k, tx, n, a⟩ := t
  unfold tokV
  simp only at *
  go_wp2_with fail
  refine (num_any n _).mono ?_
  rintro e w2 ⟨rfl, hb2⟩
  have hr2 := ((hr1.alloc _).alloc _).below hb2 (Nat.le_refl _)
  have hy0 := ((hx0.alloc _).alloc _).below hb2 (by have := hx0.lt; simp; omega)
  have hy5 := (Box.new (w1.alloc _) 25 _).below hb2 (by simp)
  have hk2 : Keeps p w w2 := (((Keeps.of hw1 (Nat.le_refl _)).alloc _).alloc _).below hb2 (by have := hw1.size; simp; omega)
  have hs1 : w.heap.size ≤ w1.heap.size := hw1.size
  have e1 : (w1.alloc (Obj.cells #[Value.int IntKind.i64 k, Value.string { data := tx.toArray }, Value.int IntKind.i64 n, Value.int IntKind.i64 a] 52)).heap.size = w1.heap.size + 1 := by simp
  rw [e1] at hy5
  have hs2 : w1.heap.size + 1 < w2.heap.size := hy5.lt
  obtain ⟨c0, c1, c2, c3, f0, f1, f2, f3⟩ := hy5.four
  clear hb2 hw1 hr1 hx0 e1
  unfold exV
  go_wp2_with fail
  refine (formed_any 0 n [] none 0 0 _ (hr2.set4 (by omega) _ _ _ _).ops).mono ?_
  rintro e w3 ⟨rfl, hb3⟩
  rw [HF.out]
  have hr3 := (hr2.set4 (q := w1.heap.size + 1) (by omega) _ _ _ _).below hb3 (Nat.le_refl _)
  have hz0 := (hy0.off4 (q := w1.heap.size + 1) (by omega) _ _ _ _).below hb3 (by have := hy0.lt; rw [size4]; omega)
  have hz5 := (hy5.set4 _ _ _ _).below hb3 (by rw [size4]; omega)
  have hk3 := (hk2.set4 (q := w1.heap.size + 1) (by omega) _ _ _ _).below hb3 (by have := hk2.size; rw [size4]; omega)
  clear hb3 hr2 hy0 hy5 hk2 c0 c1 c2 c3 f0 f1 f2 f3
  obtain ⟨c0, c1, c2, c3, f0, f1, f2, f3⟩ := hz5.four
  obtain ⟨r0, r1, r2, r3, s0, s1, s2, s3⟩ := hz0.four
  go_wp2
  exact bodyPost_ret (v := .tuple #[exV 0 0 [] none 0 0, .int .i64 11]) (by simp [results, Tryz.results142, go_sem, exV, r0, r1, r2, r3]) rfl (rpost_er0 (by decide) (hr3.set4 hp _ _ _ _) (hk3.set4 (Nat.le_refl _) _ _ _ _))

set_option maxHeartbeats 2000000 in
theorem leaf_nam_ok (p g c : Nat) (L : List Tok) (i b : Nat) (w : World) (hb : b ≤ 64) (hib : i + b ≤ 100000) (h : Rd p g c L i (64 - b) w) (hk : (nextT (L.drop i)).kind = 1) (hf : formedB 1 0 (nextT (L.drop i)).text 0 = true) (hb0 : 0 < b) :
    Calls Tryz.prog 142 #[.pointer (some ⟨p, 0, none⟩)] w (RPost p g c L i b w (leafT b (L.drop i))) := by
  have HX : Hid (leafT b (L.drop i) = .ok (.mk 1 0 (nextT (L.drop i)).text []) (b - 1) (L.drop i).tail) := by
    unfold Hid leafT; simp only; rw [if_neg (by omega), if_pos hk, if_pos hf, if_neg (by omega)]
  rw [HX.out]
  clear HX
  have HF := Lib.hid hf
  clear hf
  have hd : ((nextT (L.drop i)).kind == 2) = false := by simp [hk]
  have hd1 : ((nextT (L.drop i)).kind == 1) = true := by simpa using hk
  have hp := h.lt
  go_enter Tryz.func142, Tryz.ntmps142
  go_wp2_with fail
  refine (next_any p g c L i (64 - b) _ (h.alloc _)).mono ?_
  rintro e w1 ⟨rfl, hb1⟩
  have hr1 := (h.alloc _).below hb1 (Nat.le_refl _)
  have hw1 := below_new hb1
  have hx0 := (Box.new w 25 _).below hb1 (by simp)
  clear hk hb1
  generalize nextT (L.drop i) = t at *
  obtain ⟨k, tx, n, a⟩ := t
  unfold tokV
  simp only at *
  go_wp2_with fail
  refine (nam_any tx _).mono ?_
  rintro e w2 ⟨rfl, hb2⟩
  have hr2 := ((hr1.alloc _).alloc _).below hb2 (Nat.le_refl _)
  have hy0 := ((hx0.alloc _).alloc _).below hb2 (by have := hx0.lt; simp; omega)
  have hy5 := (Box.new (w1.alloc _) 25 _).below hb2 (by simp)
  have hk2 : Keeps p w w2 := (((Keeps.of hw1 (Nat.le_refl _)).alloc _).alloc _).below hb2 (by have := hw1.size; simp; omega)
  have hs1 : w.heap.size ≤ w1.heap.size := hw1.size
  have e1 : (w1.alloc (Obj.cells #[Value.int IntKind.i64 k, Value.string { data := tx.toArray }, Value.int IntKind.i64 n, Value.int IntKind.i64 a] 52)).heap.size = w1.heap.size + 1 := by simp
  rw [e1] at hy5
  have hs2 : w1.heap.size + 1 < w2.heap.size := hy5.lt
  obtain ⟨c0, c1, c2, c3, f0, f1, f2, f3⟩ := hy5.four
  clear hb2 hw1 hr1 hx0 e1
  unfold exV
  go_wp2_with fail
  refine (formed_any 1 0 tx none 0 0 _ (hr2.set4 (by omega) _ _ _ _).ops).mono ?_
  rintro e w3 ⟨rfl, hb3⟩
  rw [HF.out]
  have hr3 := (hr2.set4 (q := w1.heap.size + 1) (by omega) _ _ _ _).below hb3 (Nat.le_refl _)
  have hz0 := (hy0.off4 (q := w1.heap.size + 1) (by omega) _ _ _ _).below hb3 (by have := hy0.lt; rw [size4]; omega)
  have hz5 := (hy5.set4 _ _ _ _).below hb3 (by rw [size4]; omega)
  have hk3 := (hk2.set4 (q := w1.heap.size + 1) (by omega) _ _ _ _).below hb3 (by have := hk2.size; rw [size4]; omega)
  clear hb3 hr2 hy0 hy5 hk2 c0 c1 c2 c3 f0 f1 f2 f3
  obtain ⟨c0, c1, c2, c3, f0, f1, f2, f3⟩ := hz5.four
  obtain ⟨r0, r1, r2, r3, s0, s1, s2, s3⟩ := hz0.four
  go_wp2_with fail
  go_region_with (go_at_call 128; refine (take_yes p g c L i (64 - b) _ (by exact hr3.drew) (by omega) (by omega)).mono ?_; rintro e w4 ⟨rfl, hr4, hk4⟩; have hz5' := hz5.drew.keeps hk4 (by omega); have hz0' := hz0.drew.keeps hk4 (by omega); obtain ⟨c0, c1, c2, c3, f0, f1, f2, f3⟩ := hz5'.four; obtain ⟨r0, r1, r2, r3, s0, s1, s2, s3⟩ := hz0'.four)
  all_goals go_wp2
  all_goals exact bodyPost_ret (v := .tuple #[exV 1 0 tx none 0 0, .int .i64 0]) (by simp [results, Tryz.results142, go_sem, exV, r0, r1, r2, r3]) rfl (rpost_ok1 hb0 hb (tree_leaf _ _ _ _ _) (hr4.set4 hp _ _ _ _) ((hk3.drew1.trans hk4).set4 (Nat.le_refl _) _ _ _ _))

set_option maxHeartbeats 2000000 in
theorem leaf_nam_long (p g c : Nat) (L : List Tok) (i b : Nat) (w : World) (_hb : b ≤ 64) (_hib : i + b ≤ 100000) (h : Rd p g c L i (64 - b) w) (hk : (nextT (L.drop i)).kind = 1) (hf : formedB 1 0 (nextT (L.drop i)).text 0 = true) (hb0 : b = 0) :
    Calls Tryz.prog 142 #[.pointer (some ⟨p, 0, none⟩)] w (RPost p g c L i b w (leafT b (L.drop i))) := by
  have HX : Hid (leafT b (L.drop i) = .er 2 b) := by
    unfold Hid leafT; simp only; rw [if_neg (by omega), if_pos hk, if_pos hf, if_pos hb0, hb0]
  rw [HX.out]
  clear HX
  have HF := Lib.hid hf
  clear hf
  have hd : ((nextT (L.drop i)).kind == 2) = false := by simp [hk]
  have hd1 : ((nextT (L.drop i)).kind == 1) = true := by simpa using hk
  have hp := h.lt
  go_enter Tryz.func142, Tryz.ntmps142
  go_wp2_with fail
  refine (next_any p g c L i (64 - b) _ (h.alloc _)).mono ?_
  rintro e w1 ⟨rfl, hb1⟩
  have hr1 := (h.alloc _).below hb1 (Nat.le_refl _)
  have hw1 := below_new hb1
  have hx0 := (Box.new w 25 _).below hb1 (by simp)
  clear hk hb1
  generalize nextT (L.drop i) = t at *
  obtain ⟨k, tx, n, a⟩ := t
  unfold tokV
  simp only at *
  go_wp2_with fail
  refine (nam_any tx _).mono ?_
  rintro e w2 ⟨rfl, hb2⟩
  have hr2 := ((hr1.alloc _).alloc _).below hb2 (Nat.le_refl _)
  have hy0 := ((hx0.alloc _).alloc _).below hb2 (by have := hx0.lt; simp; omega)
  have hy5 := (Box.new (w1.alloc _) 25 _).below hb2 (by simp)
  have hk2 : Keeps p w w2 := (((Keeps.of hw1 (Nat.le_refl _)).alloc _).alloc _).below hb2 (by have := hw1.size; simp; omega)
  have hs1 : w.heap.size ≤ w1.heap.size := hw1.size
  have e1 : (w1.alloc (Obj.cells #[Value.int IntKind.i64 k, Value.string { data := tx.toArray }, Value.int IntKind.i64 n, Value.int IntKind.i64 a] 52)).heap.size = w1.heap.size + 1 := by simp
  rw [e1] at hy5
  have hs2 : w1.heap.size + 1 < w2.heap.size := hy5.lt
  obtain ⟨c0, c1, c2, c3, f0, f1, f2, f3⟩ := hy5.four
  clear hb2 hw1 hr1 hx0 e1
  unfold exV
  go_wp2_with fail
  refine (formed_any 1 0 tx none 0 0 _ (hr2.set4 (by omega) _ _ _ _).ops).mono ?_
  rintro e w3 ⟨rfl, hb3⟩
  rw [HF.out]
  have hr3 := (hr2.set4 (q := w1.heap.size + 1) (by omega) _ _ _ _).below hb3 (Nat.le_refl _)
  have hz0 := (hy0.off4 (q := w1.heap.size + 1) (by omega) _ _ _ _).below hb3 (by have := hy0.lt; rw [size4]; omega)
  have hz5 := (hy5.set4 _ _ _ _).below hb3 (by rw [size4]; omega)
  have hk3 := (hk2.set4 (q := w1.heap.size + 1) (by omega) _ _ _ _).below hb3 (by have := hk2.size; rw [size4]; omega)
  clear hb3 hr2 hy0 hy5 hk2 c0 c1 c2 c3 f0 f1 f2 f3
  obtain ⟨c0, c1, c2, c3, f0, f1, f2, f3⟩ := hz5.four
  obtain ⟨r0, r1, r2, r3, s0, s1, s2, s3⟩ := hz0.four
  have H64 : Hid (64 - b = 64) := by unfold Hid; omega
  have hr3' : Rd p g c L i 64 w3.drew := by have := hr3.drew; rw [H64.out] at this; exact this
  clear hb0
  go_wp2_with fail
  go_region_with (go_at_call 128; refine (take_no p g c L i _ (by exact hr3')).mono ?_; rintro e w4 ⟨rfl, rfl⟩)
  all_goals go_wp2
  all_goals exact bodyPost_ret (v := .tuple #[exV 1 0 tx none 0 0, .int .i64 2]) (by simp [results, Tryz.results142, go_sem, exV, r0, r1, r2, r3]) rfl (rpost_er0 (by decide) (hr3.drew.set4 hp _ _ _ _) (hk3.drew1.set4 (Nat.le_refl _) _ _ _ _))

set_option maxHeartbeats 2000000 in
theorem leaf_nam_bad (p g c : Nat) (L : List Tok) (i b : Nat) (w : World) (_hb : b ≤ 64) (_hib : i + b ≤ 100000) (h : Rd p g c L i (64 - b) w) (hk : (nextT (L.drop i)).kind = 1) (hf : formedB 1 0 (nextT (L.drop i)).text 0 = false) :
    Calls Tryz.prog 142 #[.pointer (some ⟨p, 0, none⟩)] w (RPost p g c L i b w (leafT b (L.drop i))) := by
  have HX : Hid (leafT b (L.drop i) = .er 11 b) := by
    unfold Hid leafT; simp only; rw [if_neg (by omega), if_pos hk, if_neg (by rw [hf]; decide)]
  rw [HX.out]
  clear HX
  have HF := Lib.hid hf
  clear hf
  have hd : ((nextT (L.drop i)).kind == 2) = false := by simp [hk]
  have hd1 : ((nextT (L.drop i)).kind == 1) = true := by simpa using hk
  have hp := h.lt
  go_enter Tryz.func142, Tryz.ntmps142
  go_wp2_with fail
  refine (next_any p g c L i (64 - b) _ (h.alloc _)).mono ?_
  rintro e w1 ⟨rfl, hb1⟩
  have hr1 := (h.alloc _).below hb1 (Nat.le_refl _)
  have hw1 := below_new hb1
  have hx0 := (Box.new w 25 _).below hb1 (by simp)
  clear hk hb1
  generalize nextT (L.drop i) = t at *
  obtain ⟨k, tx, n, a⟩ := t
  unfold tokV
  simp only at *
  go_wp2_with fail
  refine (nam_any tx _).mono ?_
  rintro e w2 ⟨rfl, hb2⟩
  have hr2 := ((hr1.alloc _).alloc _).below hb2 (Nat.le_refl _)
  have hy0 := ((hx0.alloc _).alloc _).below hb2 (by have := hx0.lt; simp; omega)
  have hy5 := (Box.new (w1.alloc _) 25 _).below hb2 (by simp)
  have hk2 : Keeps p w w2 := (((Keeps.of hw1 (Nat.le_refl _)).alloc _).alloc _).below hb2 (by have := hw1.size; simp; omega)
  have hs1 : w.heap.size ≤ w1.heap.size := hw1.size
  have e1 : (w1.alloc (Obj.cells #[Value.int IntKind.i64 k, Value.string { data := tx.toArray }, Value.int IntKind.i64 n, Value.int IntKind.i64 a] 52)).heap.size = w1.heap.size + 1 := by simp
  rw [e1] at hy5
  have hs2 : w1.heap.size + 1 < w2.heap.size := hy5.lt
  obtain ⟨c0, c1, c2, c3, f0, f1, f2, f3⟩ := hy5.four
  clear hb2 hw1 hr1 hx0 e1
  unfold exV
  go_wp2_with fail
  refine (formed_any 1 0 tx none 0 0 _ (hr2.set4 (by omega) _ _ _ _).ops).mono ?_
  rintro e w3 ⟨rfl, hb3⟩
  rw [HF.out]
  have hr3 := (hr2.set4 (q := w1.heap.size + 1) (by omega) _ _ _ _).below hb3 (Nat.le_refl _)
  have hz0 := (hy0.off4 (q := w1.heap.size + 1) (by omega) _ _ _ _).below hb3 (by have := hy0.lt; rw [size4]; omega)
  have hz5 := (hy5.set4 _ _ _ _).below hb3 (by rw [size4]; omega)
  have hk3 := (hk2.set4 (q := w1.heap.size + 1) (by omega) _ _ _ _).below hb3 (by have := hk2.size; rw [size4]; omega)
  clear hb3 hr2 hy0 hy5 hk2 c0 c1 c2 c3 f0 f1 f2 f3
  obtain ⟨c0, c1, c2, c3, f0, f1, f2, f3⟩ := hz5.four
  obtain ⟨r0, r1, r2, r3, s0, s1, s2, s3⟩ := hz0.four
  go_wp2
  exact bodyPost_ret (v := .tuple #[exV 0 0 [] none 0 0, .int .i64 11]) (by simp [results, Tryz.results142, go_sem, exV, r0, r1, r2, r3]) rfl (rpost_er0 (by decide) (hr3.set4 hp _ _ _ _) (hk3.set4 (Nat.le_refl _) _ _ _ _))

set_option maxHeartbeats 2000000 in
theorem leaf_no (p g c : Nat) (L : List Tok) (i b : Nat) (w : World) (h : Rd p g c L i (64 - b) w) (hk2 : (nextT (L.drop i)).kind ≠ 2) (hk1 : (nextT (L.drop i)).kind ≠ 1) :
    Calls Tryz.prog 142 #[.pointer (some ⟨p, 0, none⟩)] w (RPost p g c L i b w (leafT b (L.drop i))) := by
  have HX : Hid (leafT b (L.drop i) = .er 11 b) := by
    unfold Hid leafT; simp only; rw [if_neg hk2, if_neg hk1]
  rw [HX.out]
  clear HX
  have hd : ((nextT (L.drop i)).kind == 2) = false := by simpa using hk2
  have hd1 : ((nextT (L.drop i)).kind == 1) = false := by simpa using hk1
  have hp := h.lt
  go_enter Tryz.func142, Tryz.ntmps142
  go_wp2_with fail
  refine (next_any p g c L i (64 - b) _ (h.alloc _)).mono ?_
  rintro e w1 ⟨rfl, hb1⟩
  have hr1 := (h.alloc _).below hb1 (Nat.le_refl _)
  have hw1 := below_new hb1
  have hx0 := (Box.new w 25 _).below hb1 (by simp)
  clear hk1 hk2 hb1
  generalize nextT (L.drop i) = t at *
  obtain ⟨k, tx, n, a⟩ := t
  unfold tokV
  simp only at *
  obtain ⟨r0, r1, r2, r3, s0, s1, s2, s3⟩ := hx0.four
  have hs1 := hx0.lt
  go_wp2
  refine bodyPost_ret (v := .tuple #[exV 0 0 [] none 0 0, .int .i64 11]) (by simp [results, Tryz.results142, go_sem, exV, r0, r1, r2, r3, hs1]) rfl (rpost_er0 (by decide) (((hr1.set4 hp _ _ _ _).alloc _).alloc _) ((((Keeps.of hw1 (Nat.le_refl _)).set4 (Nat.le_refl _) _ _ _ _).alloc _).alloc _))
theorem leaf_any (p g c : Nat) (L : List Tok) (i b : Nat) (w : World) (hb : b ≤ 64) (hib : i + b ≤ 100000) (h : Rd p g c L i (64 - b) w) :
    Calls Tryz.prog 142 #[.pointer (some ⟨p, 0, none⟩)] w (RPost p g c L i b w (leafT b (L.drop i))) := by
  by_cases h2 : (nextT (L.drop i)).kind = 2
  · cases hf : formedB 0 (nextT (L.drop i)).n [] 0
    · exact leaf_num_bad p g c L i b w hb hib h h2 hf
    · rcases Nat.eq_zero_or_pos b with h0 | h0
      · exact leaf_num_long p g c L i b w hb hib h h2 hf h0
      · exact leaf_num_ok p g c L i b w hb hib h h2 hf h0
  · by_cases h1 : (nextT (L.drop i)).kind = 1
    · cases hf : formedB 1 0 (nextT (L.drop i)).text 0
      · exact leaf_nam_bad p g c L i b w hb hib h h1 hf
      · rcases Nat.eq_zero_or_pos b with h0 | h0
        · exact leaf_nam_long p g c L i b w hb hib h h1 hf h0
        · exact leaf_nam_ok p g c L i b w hb hib h h1 hf h0
    · exact leaf_no p g c L i b w h h2 h1
end Go.Proofs.YtinocaggponpmaaGreatDoor.Ep
