/-
  Contracts of the reader's small methods: next, sign, take; node, number, name.
-/
import Derived.Test.YtinocaggponpmaaGreatDoorExC
import Derived.Test.YtinocaggponpmaaGreatDoorLexW5
import Derived.RegionTactic
import Derived.ChangeAlike
import Derived.BigRegion
import Derived.Laws.ResultCell
import Derived.Lib.Builder
namespace Go.Proofs.YtinocaggponpmaaGreatDoor.Ep
open Go.RowKit Lx

/-- A reader in block p: the tokens that it has, in block g, the next one's place, how many were taken. -/
structure Rd (p g c : Nat) (L : List Tok) (i tk : Nat) (w : World) : Prop where
  blk : w.heap[p]? = some (.cells #[.slice (some ⟨g, 0, none⟩) L.length c, .int .i64 i, .int .i64 tk] 67 (0, 0))
  gp : g < p
  toks : ∀ k (_ : k < L.length), w.cell? ⟨g, k * 4, none⟩ = some (.int .i64 (L.getD k endTok).kind) ∧ w.cell? ⟨g, k * 4 + 1, none⟩ = some (.string ⟨(L.getD k endTok).text.toArray⟩) ∧
      w.cell? ⟨g, k * 4 + 2, none⟩ = some (.int .i64 (L.getD k endTok).n) ∧ w.cell? ⟨g, k * 4 + 3, none⟩ = some (.int .i64 (L.getD k endTok).at_)
  cap : L.length ≤ c
  len : L.length ≤ 3000
  ops : Ops w
  gop : 0 < p
theorem Rd.lt {p g c : Nat} {L : List Tok} {i tk : Nat} {w : World} (h : Rd p g c L i tk w) : p < w.heap.size := (Array.getElem?_eq_some_iff.1 h.blk).1
theorem Rd.c0 {p g c : Nat} {L : List Tok} {i tk : Nat} {w : World} (h : Rd p g c L i tk w) : w.cell? ⟨p, 0, none⟩ = some (.slice (some ⟨g, 0, none⟩) L.length c) := by rw [Lib.cell_of_heap h.blk]; rfl
theorem Rd.c1 {p g c : Nat} {L : List Tok} {i tk : Nat} {w : World} (h : Rd p g c L i tk w) : w.cell? ⟨p, 1, none⟩ = some (.int .i64 i) := by rw [Lib.cell_of_heap h.blk]; rfl
theorem Rd.c2 {p g c : Nat} {L : List Tok} {i tk : Nat} {w : World} (h : Rd p g c L i tk w) : w.cell? ⟨p, 2, none⟩ = some (.int .i64 tk) := by rw [Lib.cell_of_heap h.blk]; rfl
theorem Rd.fz {p g c : Nat} {L : List Tok} {i tk : Nat} {w : World} (h : Rd p g c L i tk w) (j : Nat) : w.frozen? ⟨p, j, none⟩ = false := Lib.frozen_of_heap h.blk j

/-- All blocks but the reader's are as they were. -/
structure Keeps (p : Nat) (w w' : World) : Prop where
  os : w'.os = w.os
  tape : w'.tape = w.tape
  output : w'.output = w.output
  size : w.heap.size ≤ w'.heap.size
  block : ∀ k, k < w.heap.size → k ≠ p → w'.heap[k]? = w.heap[k]?
theorem Keeps.refl (p : Nat) (w : World) : Keeps p w w := ⟨rfl, rfl, rfl, Nat.le_refl _, fun _ _ _ => rfl⟩
theorem Keeps.trans {p : Nat} {a b c : World} (h : Keeps p a b) (k : Keeps p b c) : Keeps p a c :=
  ⟨k.os.trans h.os, k.tape.trans h.tape, k.output.trans h.output, Nat.le_trans h.size k.size, fun i hi hn => (k.block i (Nat.lt_of_lt_of_le hi h.size) hn).trans (h.block i hi hn)⟩
theorem Keeps.below {p B : Nat} {a b c : World} (h : Keeps p a b) (k : Below B b c) (hB : a.heap.size ≤ B) : Keeps p a c :=
  ⟨k.os.trans h.os, k.tape.trans h.tape, k.output.trans h.output, Nat.le_trans h.size k.size, fun i hi hn => (k.block i (Nat.lt_of_lt_of_le hi hB)).trans (h.block i hi hn)⟩
theorem Keeps.of {p B : Nat} {a b : World} (k : Below B a b) (hB : a.heap.size ≤ B) : Keeps p a b := (Keeps.refl p a).below k hB
theorem Keeps.to {p B : Nat} {a b : World} (h : Keeps p a b) (hB : B ≤ p) (hp : p < a.heap.size) : Below B a b :=
  ⟨h.os, h.tape, h.output, h.size, fun k hk => h.block k (by omega) (by omega)⟩
theorem Keeps.alloc {p : Nat} {a b : World} (h : Keeps p a b) (o : Obj) : Keeps p a (b.alloc o) := h.below ((Below.refl b.heap.size b).alloc (Nat.le_refl _) o) h.size
theorem Keeps.set {p : Nat} {a b : World} (h : Keeps p a b) {q : Addr} (hq : a.heap.size ≤ q.block) (v : Value) : Keeps p a (b.setCell q v) :=
  h.below ((Below.refl a.heap.size b).setCell hq v) (Nat.le_refl _)
theorem Keeps.setp {p : Nat} {a b : World} (h : Keeps p a b) (j : Nat) (v : Value) : Keeps p a (b.setCell ⟨p, j, none⟩ v) :=
  h.trans ⟨rfl, rfl, rfl, by simp [World.setCell], fun k _ hn => Below.heap_setCell _ _ _ _ hn⟩
theorem Keeps.drew {p : Nat} {a b : World} (h : Keeps p a b) (n : Nat) : Keeps p a (b.drewN n) := ⟨h.os, h.tape, h.output, h.size, h.block⟩

theorem Rd.move {p g c : Nat} {L : List Tok} {i tk i' tk' : Nat} {w w' : World} (h : Rd p g c L i tk w) (k : Keeps p w w')
    (hb : w'.heap[p]? = some (.cells #[.slice (some ⟨g, 0, none⟩) L.length c, .int .i64 i', .int .i64 tk'] 67 (0, 0))) : Rd p g c L i' tk' w' := by
  have hp := h.lt
  have hgp := h.gp
  have hop := h.gop
  have hc : ∀ o, w'.cell? ⟨g, o, none⟩ = w.cell? ⟨g, o, none⟩ := fun o => World.cell?_of_block (w := w) (k.block g (by omega) (by omega))
  refine ⟨hb, h.gp, fun j hj => ?_, h.cap, h.len, h.ops.of k.size (k.block _ (by omega) (by omega)), h.gop⟩
  rw [hc, hc, hc, hc]
  exact h.toks j hj
theorem Rd.below {p g c : Nat} {L : List Tok} {i tk : Nat} {w w' : World} {B : Nat} (h : Rd p g c L i tk w) (k : Below B w w') (hB : w.heap.size ≤ B) : Rd p g c L i tk w' :=
  h.move (Keeps.of k hB) ((k.block p (Nat.lt_of_lt_of_le h.lt hB)).trans h.blk)
theorem Rd.alloc {p g c : Nat} {L : List Tok} {i tk : Nat} {w : World} (h : Rd p g c L i tk w) (o : Obj) : Rd p g c L i tk (w.alloc o) :=
  h.below ((Below.refl w.heap.size w).alloc (Nat.le_refl _) o) (Nat.le_refl _)
theorem Rd.set {p g c : Nat} {L : List Tok} {i tk : Nat} {w : World} (h : Rd p g c L i tk w) {q : Addr} (hq : p < q.block) (v : Value) : Rd p g c L i tk (w.setCell q v) := by
  have hp := h.lt
  have hgp := h.gp
  have hop := h.gop
  have hbk : ∀ k, k ≤ p → (w.setCell q v).heap[k]? = w.heap[k]? := fun k hk => Below.heap_setCell _ _ _ _ (by omega)
  have hc : ∀ o, (w.setCell q v).cell? ⟨g, o, none⟩ = w.cell? ⟨g, o, none⟩ := fun o => World.cell?_of_block (w := w) (hbk g (by omega))
  refine ⟨(hbk p (Nat.le_refl _)).trans h.blk, h.gp, fun j hj => ?_, h.cap, h.len, h.ops.of (by simp [World.setCell]) (hbk _ (by omega)), h.gop⟩
  rw [hc, hc, hc, hc]
  exact h.toks j hj

set_option maxHeartbeats 1000000 in
theorem next_any (p g c : Nat) (L : List Tok) (i tk : Nat) (w : World) (h : Rd p g c L i tk w) :
    Calls Tryz.prog 133 #[.pointer (some ⟨p, 0, none⟩)] w fun e w' => e = .returned (tokV (nextT (L.drop i))) ∧ Below w.heap.size w w' := by
  have c0 := h.c0
  have c1 := h.c1
  have hp := h.lt
  have hl := h.len
  by_cases hi : i < L.length
  · obtain ⟨t0, t1, t2, t3⟩ := h.toks i hi
    have hg : g < w.heap.size := Nat.lt_trans h.gp hp
    have HX : Hid (L.getD i endTok = nextT (L.drop i)) := by
      unfold Hid nextT; rw [List.drop_eq_getElem_cons hi, List.getD_eq_getElem?_getD, List.getElem?_eq_getElem hi]; rfl
    clear h
    generalize L.getD i endTok = t at *
    generalize L.length = len at *
    have hd : decide (i < len) = true := by simpa using hi
    go_enter Tryz.func133, Tryz.ntmps133
    go_wp2
    go_quiet (fail)
    go_wp2
    go_region
    go_wp2
    exact bodyPost_ret (v := tokV t) (by simp [results, Tryz.results133, go_sem, tokV]) rfl ⟨by rw [HX.out], below_set4 ((((Below.refl _ _).alloc (Nat.le_refl _) _).drewN _).drew) (Nat.le_refl _) _ _ _ _⟩
  · have HX : Hid (endTok = nextT (L.drop i)) := by
      unfold Hid nextT; rw [List.drop_eq_nil_of_le (by omega)]; rfl
    clear h
    generalize L.length = len at *
    have hd : decide (i < len) = false := by simpa using hi
    go_enter Tryz.func133, Tryz.ntmps133
    go_wp2
    go_quiet (fail)
    go_wp2
    exact bodyPost_ret (v := tokV endTok) (by simp [results, Tryz.results133, go_sem, tokV, endTok]) rfl ⟨by rw [HX.out], below_set4 (((Below.refl _ _).alloc (Nat.le_refl _) _).drewN _) (Nat.le_refl _) _ _ _ _⟩

set_option maxHeartbeats 1000000 in
theorem sgn_any (p g c : Nat) (L : List Tok) (i tk : Nat) (s : List UInt8) (w : World) (h : Rd p g c L i tk w) :
    Calls Tryz.prog 127 #[.pointer (some ⟨p, 0, none⟩), .string ⟨s.toArray⟩] w fun e w' => e = .returned (.bool (sgnT (L.drop i) s)) ∧ Below w.heap.size w w' := by
  have HX : Hid (sgnT (L.drop i) s = (decide ((nextT (L.drop i)).kind = 4) && ((nextT (L.drop i)).text == s))) := rfl
  go_enter Tryz.func127, Tryz.ntmps127
  go_wp2_with fail
  refine (next_any p g c L i tk _ h).mono ?_
  rintro e w1 ⟨rfl, hb⟩
  clear h
  generalize nextT (L.drop i) = t at *
  unfold tokV
  obtain ⟨k, tx, n, a⟩ := t
  by_cases hk : k = 4
  · have hd : (k == 4) = true := by simpa using hk
    have HY : Hid (sgnT (L.drop i) s = (tx == s)) := by unfold Hid; rw [HX.out]; simp [hk]
    clear hk HX
    go_wp2
    go_ret
    exact ⟨ret_bool HY.out.symm, (hb.alloc hb.size _)⟩
  · have hd : (k == 4) = false := by simpa using hk
    have HY : Hid (sgnT (L.drop i) s = false) := by unfold Hid; rw [HX.out]; simp [hk]
    clear hk HX
    go_wp2
    go_ret
    exact ⟨ret_bool HY.out.symm, (hb.alloc hb.size _)⟩

set_option maxHeartbeats 1000000 in
theorem take_no (p g c : Nat) (L : List Tok) (i : Nat) (w : World) (h : Rd p g c L i 64 w) :
    Calls Tryz.prog 128 #[.pointer (some ⟨p, 0, none⟩)] w fun e w' => e = .returned (.int .i64 2) ∧ w = w' := by
  have c2 := h.c2
  have hp := h.lt
  clear h
  go_enter Tryz.func128, Tryz.ntmps128
  go_wp2
  go_ret
  exact ⟨rfl, rfl⟩
set_option maxHeartbeats 1000000 in
theorem take_yes (p g c : Nat) (L : List Tok) (i tk : Nat) (w : World) (h : Rd p g c L i tk w) (htk : tk < 64) (hi : i ≤ 1000000) :
    Calls Tryz.prog 128 #[.pointer (some ⟨p, 0, none⟩)] w fun e w' => e = .returned (.int .i64 0) ∧ Rd p g c L (i + 1) (tk + 1) w' ∧ Keeps p w w' := by
  have c1 := h.c1
  have c2 := h.c2
  have f1 := h.fz 1
  have f2 := h.fz 2
  have hp := h.lt
  have hd : ((tk : Int) == 64) = false := by simp; omega
  have H := Lib.hid h
  clear h
  go_enter Tryz.func128, Tryz.ntmps128
  go_wp2
  go_ret
  have hk : Keeps p w ((w.setCell ⟨p, 2, none⟩ (.int .i64 ((tk : Int) + 1))).setCell ⟨p, 1, none⟩ (.int .i64 ((i : Int) + 1))) := ((Keeps.refl p w).setp _ _).setp _ _
  refine ⟨rfl, H.out.move hk ?_, hk⟩
  have hb := H.out.blk
  simp [World.setCell, Array.getElem?_modify, hb]
end Go.Proofs.YtinocaggponpmaaGreatDoor.Ep
