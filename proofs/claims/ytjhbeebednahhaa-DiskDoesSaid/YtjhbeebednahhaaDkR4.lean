/-
  The contract of the laws' own does.
-/
import Derived.Test.YtjhbeebednahhaaDkR3
import Derived.Test.YtjhbeebednahhaaDkStaysW
namespace Go.Proofs.Ytjhbeebednahhaa.Dk
open Go.RowKit

def Four (g s g' s' : Nat) : Nat → Prop := fun k => k = g ∨ k = s ∨ k = g' ∨ k = s'
section
variable {w0 w w' : World} {A : Option Addr} {n : Nat} {S : Nat → Prop}
theorem Fr.far (h : Fr S w0 w) {p : Addr} (hp : w0.heap.size ≤ p.block) (u : Value) : Fr S w0 (w.setCell p u) :=
  ⟨h.os, h.tape, h.output, by simpa [World.setCell] using h.size, fun k hk hs => (Below.heap_setCell w p u k (by omega)).trans (h.block k hk hs)⟩
/-- Bytes in a block that is new since w0, which may be written. -/
def Byt (w0 w : World) (A : Option Addr) (n : Nat) : Prop :=
  0 < n → ∃ b, A = some ⟨b, 0, none⟩ ∧ w0.heap.size ≤ b ∧ b < w.heap.size ∧ ∀ j, j < n → ∃ x : UInt8, w.cell? ⟨b, j, none⟩ = some (.int .u8 (x.toNat : Int)) ∧ w.frozen? ⟨b, j, none⟩ = false
theorem Byt.at_ (h : Byt w0 w A n) {k : Nat} (hk : k < n) : ∃ (b : Nat) (x : UInt8), A = some ⟨b, 0, none⟩ ∧ w0.heap.size ≤ b ∧ b < w.heap.size ∧ w.cell? ⟨b, k, none⟩ = some (.int .u8 (x.toNat : Int)) ∧ w.frozen? ⟨b, k, none⟩ = false := by
  obtain ⟨b, e, h1, h2, hc⟩ := h (by omega)
  obtain ⟨x, hx, hf⟩ := hc k hk
  exact ⟨b, x, e, h1, h2, hx, hf⟩
theorem Byt.set_ {b : Nat} (h : Byt w0 w (some ⟨b, 0, none⟩) n) (k : Nat) (y : UInt8) : Byt w0 (w.setCell ⟨b, k, none⟩ (.int .u8 (y.toNat : Int))) (some ⟨b, 0, none⟩) n := fun hn => by
  obtain ⟨b', e, h1, h2, hc⟩ := h hn
  injection e with e
  injection e with e
  subst e
  refine ⟨b, rfl, h1, by simpa [World.setCell] using h2, fun j hj => ?_⟩
  obtain ⟨x, hx, hf⟩ := hc j hj
  by_cases e : k = j
  · subst e
    exact ⟨y, World.cell?_setCell_same _ _ _ hx, by rw [World.frozen?_setCell]; exact hf⟩
  · exact ⟨x, by rw [World.cell?_setCell_other _ _ _ _ (by simp)]; exact hx, by rw [World.frozen?_setCell]; exact hf⟩
theorem Byt.fr (h : Byt w0 w A n) (k : Fr S w w') (hS : ∀ b, S b → b < w0.heap.size) : Byt w0 w' A n := fun hn => by
  obtain ⟨b, e, h1, h2, hc⟩ := h hn
  have hb := k.block b h2 (fun x => by have := hS b x; omega)
  refine ⟨b, e, h1, Nat.lt_of_lt_of_le h2 k.size, fun j hj => ?_⟩
  rw [World.cell?_of_block (w := w) (a := ⟨b, j, none⟩) hb, World.frozen?_of_block (w := w) (a := ⟨b, j, none⟩) hb]
  exact hc j hj
theorem Byt.of_box {b : Nat} {t : TypeId} {l : List UInt8} (h : Box w b t (u8C l).toArray) (hb : w0.heap.size ≤ b) (hl : l.length = n) : Byt w0 w (some ⟨b, 0, none⟩) n := fun _ =>
  ⟨b, rfl, hb, h.lt, fun j hj => ⟨l[j]'(by omega), by rw [h.cell j]; simp [u8C, List.getElem?_eq_getElem (show j < l.length by omega)], h.frozen j⟩⟩
theorem Byt.of_own {c : Nat} {l : List UInt8} (h : w.ownsRow w0.heap.size 5 1 (.slice A l.length c) l.length (u8C l)) : Byt w0 w A l.length := fun hn => by
  rcases h.2 with ⟨_, h0⟩ | ⟨b, cap, cur, hv, hb, hh, hc, hm, hsz, ht⟩
  · omega
  · injection hv with hv1 hv2 hv3
    have hx : Box w b 5 cur := hh
    refine ⟨b, hv1, hb, hx.lt, fun j hj => ⟨l[j], ?_, hx.frozen j⟩⟩
    have h2 : (u8C l)[j]? = some (.int .u8 (l[j].toNat : Int)) := by simp [u8C, List.getElem?_eq_getElem hj]
    rw [← ht, List.getElem?_take, if_pos (by omega), Array.getElem?_toList] at h2
    rw [hx.cell j, h2]
theorem wrap_succ (x : UInt8) : IntKind.u8.wrap ((x.toNat : Int) + 1) = ((x + 1).toNat : Int) := by
  rw [IntKind.wrap_u8, UInt8.toNat_add]
  have : (1 : UInt8).toNat = 1 := rfl
  rw [this]
  omega
end

theorem read_err {w : World} {g s : Nat} {d : Dsk} (xa : Int) (h : Dk w g s d) (hz : d.rerr xa ≠ 0) : Calls Try.prog 22 #[.pointer (some ⟨g, 0, none⟩), .int .i64 xa] w (Same (.tuple #[.slice none 0 0, .int .i64 (d.rerr xa)]) w) := by
  unfold Dsk.rerr at hz ⊢
  by_cases ho : d.on = false
  · rw [if_pos ho]
    exact read_off xa h ho
  · rw [if_neg ho] at hz ⊢
    by_cases hb : d.Bad xa
    · rw [if_pos hb]
      exact read_bad xa h (by simpa using ho) hb
    · rw [if_neg hb] at hz
      exact absurd rfl hz

def NilRel (w : World) (i : Value) (wr : World) : Prop := i = .int .i64 0 ∧ w = wr
structure Apart (g s g' s' : Nat) : Prop where
  a : g ≠ g'
  b : g ≠ s'
  c : s ≠ g'
  d : s ≠ s'
/-- Both disks are the same one. -/
def Both (w : World) (g s g' s' : Nat) (d : Dsk) : Prop := Dk w g s d ∧ Rk w g' s' d
def Kept (d d' : Dsk) : Prop := d'.L.length = d.L.length ∧ d.wr ≤ d'.wr ∧ d'.wr ≤ d.wr + 1 ∧ i64 d'.left
theorem Kept.refl {d : Dsk} (h : i64 d.left) : Kept d d := ⟨rfl, Int.le_refl _, by omega, h⟩
theorem Kept.write {d : Dsk} (h : i64 d.left) (n : Int) (b : List UInt8) : Kept d (d.write n b) := by
  refine ⟨write_len d n b, (write_wr d n b).1, (write_wr d n b).2, ?_⟩
  unfold Dsk.write
  split
  · exact h
  · split
    · exact h
    · split
      · exact h
      · show i64 (less d.left)
        unfold less i64 at *
        split <;> omega
theorem Kept.cut {d : Dsk} {n : Int} (h : i64 n) : Kept d (d.cut n) := by
  refine ⟨rfl, Int.le_refl _, by show d.wr ≤ d.wr + 1; omega, ?_⟩
  show i64 (if n < 0 then -1 else n)
  unfold i64 at *
  split <;> omega
theorem Kept.up {d : Dsk} : Kept d d.up := ⟨rfl, Int.le_refl _, by show d.wr ≤ d.wr + 1; omega, by show i64 (-1); unfold i64; omega⟩
def DoesPost (g s g' s' : Nat) (d : Dsk) (w : World) (e : Ending) (w' : World) : Prop := e = .returned (.bool true) ∧ ∃ d', Both w' g s g' s' d' ∧ Kept d d' ∧ Fr (Four g s g' s') w w'
def OverRel (g s g' s' : Nat) (d : Dsk) (A : Option Addr) (n : Nat) (w : World) (i : Value) (wr : World) : Prop :=
  ∃ k : Nat, i = .int .i64 (k : Int) ∧ k ≤ n ∧ Byt w wr A n ∧ Both wr g s g' s' d ∧ Fr (Four g s g' s') w wr
theorem Both.lt {w : World} {g s g' s' : Nat} {d : Dsk} (h : Both w g s g' s' d) : g < w.heap.size ∧ s < w.heap.size ∧ g' < w.heap.size ∧ s' < w.heap.size := by
  have h1 := h.1.lt
  have h2 := h.2.lt
  omega
theorem Both.below {w w' : World} {g s g' s' : Nat} {d : Dsk} (h : Both w g s g' s' d) (k : Below w.heap.size w w') : Both w' g s g' s' d := ⟨h.1.below k, h.2.below k⟩
theorem Both.far {w : World} {g s g' s' : Nat} {d : Dsk} (h : Both w g s g' s' d) {p : Addr} (h1 : p.block ≠ g) (h2 : p.block ≠ s) (h3 : p.block ≠ g') (h4 : p.block ≠ s') (u : Value) : Both (w.setCell p u) g s g' s' d := by
  have f := (Fr.refl (fun b => b = p.block) w).set_ (p := p) rfl u
  exact ⟨h.1.fr f (fun e => h1 e.symm) (fun e => h2 e.symm), h.2.fr f (fun e => h3 e.symm) (fun e => h4 e.symm)⟩
theorem fr_one {w w' : World} {g s g' s' : Nat} (h : Fr (Two g s) w w') : Fr (Four g s g' s') w w' := h.mono fun b hb => by rcases hb with h | h <;> simp [Four, h]
theorem fr_two {w w' : World} {g s g' s' : Nat} (h : Fr (Two g' s') w w') : Fr (Four g s g' s') w w' := h.mono fun b hb => by rcases hb with h | h <;> simp [Four, h]
theorem fr_below {w w' : World} {g s g' s' : Nat} (h : Below w.heap.size w w') : Fr (Four g s g' s') w w' := Fr.of_below h

set_option maxRecDepth 100000 in
set_option maxHeartbeats 4000000 in
theorem does_cut (g s g' s' : Nat) (d : Dsk) (xa : Int) (A : Option Addr) (xb : List UInt8) (xc : Nat) (w : World) (h : Both w g s g' s' d) (hs : Apart g s g' s') (_hi : i64 d.left) (_hwr : 0 ≤ d.wr ∧ d.wr ≤ 1000000) (ha : i64 xa) (hL : Lie w A xb) (_hxr : xb.length ≤ 140737488351232) :
    Calls Try.prog 15 #[.pointer (some ⟨g, 0, none⟩), .pointer (some ⟨g', 0, none⟩), .agg #[.int .i64 2, .int .i64 xa, .slice A xb.length xc]] w (DoesPost g s g' s' d w) := by
  have hb1 := (Below.refl w.heap.size w).alloc (Nat.le_refl _) (.cells #[.int .i64 2, .int .i64 xa, .slice A xb.length xc] 33)
  have h1 := h.below hb1
  have hl := h.lt
  have hq := Box.new w 33 #[.int .i64 2, .int .i64 xa, .slice A xb.length xc]
  have hL1 := hL.below hb1
  have hF1 : Fr (Four g s g' s') w _ := fr_below hb1
  have q0 : (w.alloc (.cells #[.int .i64 2, .int .i64 xa, .slice A xb.length xc] 33)).cell? ⟨w.heap.size, 0, none⟩ = some (.int .i64 2) := hq.cell 0
  have q1 : (w.alloc (.cells #[.int .i64 2, .int .i64 xa, .slice A xb.length xc] 33)).cell? ⟨w.heap.size, 1, none⟩ = some (.int .i64 xa) := hq.cell 1
  go_enter Try.func15, Try.ntmps15
  go_wp2_with fail
  refine (cut_all xa h1.1).mono ?_
  rintro e w2 ⟨rfl, hD2, f2⟩
  have hR2 := h1.2.fr f2 (fun e => by rcases e with e | e; exact hs.a e.symm; exact hs.c e.symm) (fun e => by rcases e with e | e; exact hs.b e.symm; exact hs.d e.symm)
  have hx2 := hq.fr f2 (fun e => by rcases e with e | e <;> omega)
  have p1 : w2.cell? ⟨w.heap.size, 1, none⟩ = some (.int .i64 xa) := hx2.cell 1
  have hF2 := hF1.trans (fr_one f2)
  clear f2 hF1 hb1 h1 hq q0 q1
  go_wp2_with fail
  refine (rcut_all xa hR2).mono ?_
  rintro e w3 ⟨rfl, hR3, f3⟩
  have hD3 := hD2.fr f3 (fun e => by rcases e with e | e; exact hs.a e; exact hs.b e) (fun e => by rcases e with e | e; exact hs.c e; exact hs.d e)
  have hF3 := hF2.trans (fr_two f3)
  go_wp2
  go_ret
  exact ⟨rfl, _, ⟨hD3, hR3⟩, Kept.cut ha, hF3⟩

set_option maxRecDepth 100000 in
set_option maxHeartbeats 4000000 in
theorem does_up (g s g' s' : Nat) (d : Dsk) (xa : Int) (A : Option Addr) (xb : List UInt8) (xc : Nat) (w : World) (h : Both w g s g' s' d) (hs : Apart g s g' s') (_hi : i64 d.left) (_hwr : 0 ≤ d.wr ∧ d.wr ≤ 1000000) (_ha : i64 xa) (hL : Lie w A xb) (_hxr : xb.length ≤ 140737488351232) :
    Calls Try.prog 15 #[.pointer (some ⟨g, 0, none⟩), .pointer (some ⟨g', 0, none⟩), .agg #[.int .i64 3, .int .i64 xa, .slice A xb.length xc]] w (DoesPost g s g' s' d w) := by
  have hb1 := (Below.refl w.heap.size w).alloc (Nat.le_refl _) (.cells #[.int .i64 3, .int .i64 xa, .slice A xb.length xc] 33)
  have h1 := h.below hb1
  have hl := h.lt
  have hq := Box.new w 33 #[.int .i64 3, .int .i64 xa, .slice A xb.length xc]
  have hL1 := hL.below hb1
  have hF1 : Fr (Four g s g' s') w _ := fr_below hb1
  have q0 : (w.alloc (.cells #[.int .i64 3, .int .i64 xa, .slice A xb.length xc] 33)).cell? ⟨w.heap.size, 0, none⟩ = some (.int .i64 3) := hq.cell 0
  have q1 : (w.alloc (.cells #[.int .i64 3, .int .i64 xa, .slice A xb.length xc] 33)).cell? ⟨w.heap.size, 1, none⟩ = some (.int .i64 xa) := hq.cell 1
  go_enter Try.func15, Try.ntmps15
  go_wp2_with fail
  refine (up_all h1.1).mono ?_
  rintro e w2 ⟨rfl, hD2, f2⟩
  have hR2 := h1.2.fr f2 (fun e => by rcases e with e | e; exact hs.a e.symm; exact hs.c e.symm) (fun e => by rcases e with e | e; exact hs.b e.symm; exact hs.d e.symm)
  have hF2 := hF1.trans (fr_one f2)
  clear f2 hF1 hb1 h1 hq q0 q1
  go_wp2_with fail
  refine (rup_all hR2).mono ?_
  rintro e w3 ⟨rfl, hR3, f3⟩
  have hD3 := hD2.fr f3 (fun e => by rcases e with e | e; exact hs.a e; exact hs.b e) (fun e => by rcases e with e | e; exact hs.c e; exact hs.d e)
  have hF3 := hF2.trans (fr_two f3)
  go_wp2
  go_ret
  exact ⟨rfl, _, ⟨hD3, hR3⟩, Kept.up, hF3⟩

set_option maxRecDepth 100000 in
set_option maxHeartbeats 4000000 in
theorem does_none (g s g' s' : Nat) (d : Dsk) (xa : Int) (A : Option Addr) (xb : List UInt8) (xc : Nat) (xk : Int) (w : World) (h : Both w g s g' s' d) (_hs : Apart g s g' s') (hi : i64 d.left) (_hwr : 0 ≤ d.wr ∧ d.wr ≤ 1000000) (_ha : i64 xa) (hL : Lie w A xb) (_hxr : xb.length ≤ 140737488351232) (n0 : xk ≠ 0) (n5 : xk ≠ 5) (n1 : xk ≠ 1) (n2 : xk ≠ 2) (n3 : xk ≠ 3) :
    Calls Try.prog 15 #[.pointer (some ⟨g, 0, none⟩), .pointer (some ⟨g', 0, none⟩), .agg #[.int .i64 xk, .int .i64 xa, .slice A xb.length xc]] w (DoesPost g s g' s' d w) := by
  have hb1 := (Below.refl w.heap.size w).alloc (Nat.le_refl _) (.cells #[.int .i64 xk, .int .i64 xa, .slice A xb.length xc] 33)
  have h1 := h.below hb1
  have hl := h.lt
  have hq := Box.new w 33 #[.int .i64 xk, .int .i64 xa, .slice A xb.length xc]
  have hL1 := hL.below hb1
  have hF1 : Fr (Four g s g' s') w _ := fr_below hb1
  have q0 : (w.alloc (.cells #[.int .i64 xk, .int .i64 xa, .slice A xb.length xc] 33)).cell? ⟨w.heap.size, 0, none⟩ = some (.int .i64 xk) := hq.cell 0
  have q1 : (w.alloc (.cells #[.int .i64 xk, .int .i64 xa, .slice A xb.length xc] 33)).cell? ⟨w.heap.size, 1, none⟩ = some (.int .i64 xa) := hq.cell 1
  have b0 : (xk == 0) = false := beq_eq_false_iff_ne.2 n0
  have b5 : (xk == 5) = false := beq_eq_false_iff_ne.2 n5
  have b1 : (xk == 1) = false := beq_eq_false_iff_ne.2 n1
  have b2 : (xk == 2) = false := beq_eq_false_iff_ne.2 n2
  have b3 : (xk == 3) = false := beq_eq_false_iff_ne.2 n3
  go_enter Try.func15, Try.ntmps15
  go_wp2
  go_ret
  exact ⟨rfl, _, h1, Kept.refl hi, hF1⟩

set_option maxRecDepth 100000 in
set_option maxHeartbeats 4000000 in
theorem does_full (g s g' s' : Nat) (d : Dsk) (xa : Int) (A : Option Addr) (xb : List UInt8) (xc : Nat) (w : World) (h : Both w g s g' s' d) (hs : Apart g s g' s') (hi : i64 d.left) (hwr : 0 ≤ d.wr ∧ d.wr ≤ 1000000) (_ha : i64 xa) (hL : Lie w A xb) (hxr : xb.length ≤ 140737488351232) :
    Calls Try.prog 15 #[.pointer (some ⟨g, 0, none⟩), .pointer (some ⟨g', 0, none⟩), .agg #[.int .i64 5, .int .i64 xa, .slice A xb.length xc]] w (DoesPost g s g' s' d w) := by
  have hb1 := (Below.refl w.heap.size w).alloc (Nat.le_refl _) (.cells #[.int .i64 5, .int .i64 xa, .slice A xb.length xc] 33)
  have h1 := h.below hb1
  have hl := h.lt
  have hq := Box.new w 33 #[.int .i64 5, .int .i64 xa, .slice A xb.length xc]
  have hL1 := hL.below hb1
  have hF1 : Fr (Four g s g' s') w _ := fr_below hb1
  have q0 : (w.alloc (.cells #[.int .i64 5, .int .i64 xa, .slice A xb.length xc] 33)).cell? ⟨w.heap.size, 0, none⟩ = some (.int .i64 5) := hq.cell 0
  have q1 : (w.alloc (.cells #[.int .i64 5, .int .i64 xa, .slice A xb.length xc] 33)).cell? ⟨w.heap.size, 1, none⟩ = some (.int .i64 xa) := hq.cell 1
  have HF : Hid (∀ w, Calls Try.prog 13 #[.int .u8 ((xb.headD 0).toNat : Int)] w (FullP (full (xb.headD 0)) w)) := fun w => full_l _ _ _ w rfl rfl
  have HFst := Lib.hid (fun w h => first_all A xb xc w h)
  have LF := Lib.hid (full_len (xb.headD 0))
  generalize xb.headD 0 = y at *
  go_enter Try.func15, Try.ntmps15
  go_wp2_with (at_builtin; refine wpList_append_lie rfl (.const (.slice none 0 0)) (.tmp 23) rfl rfl (World.ownsRow_nil _ w.heap.size 5 1) rfl hL1 ?c1 ?c2 ?c3 ?_)
  case c1 => unfold maxLen; omega
  case c2 => omega
  case c3 => simp
  intro A1 c1 w1 ho1 hg1 _
  have hba : Below (w.alloc (.cells #[.int .i64 5, .int .i64 xa, .slice A xb.length xc] 33)).heap.size (w.alloc (.cells #[.int .i64 5, .int .i64 xa, .slice A xb.length xc] 33)) w1 := (Below.refl _ _).grown hg1 (Nat.le_refl _) (fun k hk => by simp [Value.ownBlock] at hk)
  have h2 := h1.below hba
  have hL2 := hL1.below hba
  have hq2 := hq.below hba hq.lt
  have hF2 := hF1.trans (fr_below hba)
  have r0 : w1.cell? ⟨w.heap.size, 0, none⟩ = some (.int .i64 5) := hq2.cell 0
  have r1 : w1.cell? ⟨w.heap.size, 1, none⟩ = some (.int .i64 xa) := hq2.cell 1
  have r2 : w1.cell? ⟨w.heap.size, 2, none⟩ = some (.slice A xb.length xc) := hq2.cell 2
  clear ho1 hg1 hba h1 hL1 hq hF1 q0 q1 hb1
  go_wp2_with fail
  refine (HFst.out w1 hL2).mono ?_
  rintro e w' ⟨rfl, rfl⟩
  clear HFst
  go_wp2_with fail
  refine (HF.out _).mono ?_
  rintro e w4 ⟨g4, rfl, hg4, hx4, hb4⟩
  have h4 := h2.below hb4
  have hq4 := hq2.below hb4 hq2.lt
  have hF4 := hF2.trans (fr_below hb4)
  have hgw : w.heap.size ≤ g4 := Nat.le_trans hF2.size hg4
  have s1 : w4.cell? ⟨w.heap.size, 1, none⟩ = some (.int .i64 xa) := hq4.cell 1
  have hBy : Byt w w4 (some ⟨g4, 0, none⟩) 256 := Byt.of_box hx4 hgw LF.out
  have hLi := full_lie hx4
  clear HF h2 hL2 hq2 hF2 r0 r1 r2 hb4 hg4
  generalize full y = Fy at *
  go_wp2_with fail
  have HW1 := Lib.hid (rwrite_all xa (some ⟨g4, 0, none⟩) Fy 256 h4.2 hi (by omega) hLi (fun ad e => by injection e with e; subst e; exact fun k => by rcases k with k | k <;> (simp only at k; omega)))
  rw [LF.out] at HW1
  refine HW1.out.mono ?_
  rintro e w2 ⟨rfl, hR2, f2⟩
  have hD2 := h4.1.fr f2 (fun e => by rcases e with e | e; exact hs.a e; exact hs.b e) (fun e => by rcases e with e | e; exact hs.c e; exact hs.d e)
  have hL2 := hLi.fr f2 (fun ad e => by injection e with e; subst e; exact fun k => by rcases k with k | k <;> (simp only at k; omega))
  have hB2 := hBy.fr f2 (fun b hb => by rcases hb with rfl | rfl <;> omega)
  have hx2 := hq4.fr f2 (fun e => by rcases e with e | e <;> omega)
  have hF2 := hF4.trans (fr_two f2)
  have p1 : w2.cell? ⟨w.heap.size, 1, none⟩ = some (.int .i64 xa) := hx2.cell 1
  clear HW1 f2
  go_wp2_with fail
  have HW2 := Lib.hid (write_all xa (some ⟨g4, 0, none⟩) Fy 256 hD2 hi (by omega) hL2 (fun ad e => by injection e with e; subst e; exact fun k => by rcases k with k | k <;> (simp only at k; omega)))
  rw [LF.out] at HW2
  refine HW2.out.mono ?_
  rintro e w3 ⟨rfl, hD3, f3⟩
  have hR3 := hR2.fr f3 (fun e => by rcases e with e | e; exact hs.a e.symm; exact hs.c e.symm) (fun e => by rcases e with e | e; exact hs.b e.symm; exact hs.d e.symm)
  have hB3 := hB2.fr f3 (fun b hb => by rcases hb with rfl | rfl <;> omega)
  have hF3 := hF2.trans (fr_one f3)
  have HK := Lib.hid (Kept.write hi xa Fy)
  clear HW2 f3 hD2 hR2 hL2 hB2 hx2 hF2 p1
  generalize d.write xa Fy = d' at *
  go_wp2_with fail
  go_loopw [10] (OverRel g s g' s' d' (some ⟨g4, 0, none⟩) 256 w) (fun i _ => 256 - (intOf i).toNat)
  case atStart => exact ⟨0, rfl, by omega, hB3, ⟨hD3, hR3⟩, hF3⟩
  case round =>
    obtain ⟨k, rfl, hk, hB, hBo, hFw⟩ := hrel
    clear hB3 hD3 hR3 hF3
    by_cases hlt : k < 256
    · obtain ⟨b, y, e, hb0, hb2, hc, hf⟩ := hB.at_ hlt
      injection e with e
      injection e with e
      subst e
      have hy := hB.set_ k (y + 1)
      have hBo2 := hBo.far (p := ⟨g4, k, none⟩) (show g4 ≠ g by omega) (show g4 ≠ s by omega) (show g4 ≠ g' by omega) (show g4 ≠ s' by omega) (.int .u8 ((y + 1).toNat : Int))
      have hF4 := hFw.far (p := ⟨g4, k, none⟩) hb0 (.int .u8 ((y + 1).toNat : Int))
      have hws := wrap_succ y
      have k0 : (0 : Int) ≤ (k : Int) := by omega
      have k1 : (k : Int) < (256 : Int) := by omega
      clear hB hBo hFw
      go_wp2
      go_roundw
      case rel => exact ⟨k + 1, by go_num, by omega, hy, hBo2, hF4⟩
      case measure => simp [intOf]; omega
    · go_wp2
      go_ret
      exact ⟨rfl, _, hBo, HK.out, hFw⟩

set_option maxRecDepth 100000 in
set_option maxHeartbeats 4000000 in
theorem does_any (g s g' s' : Nat) (d : Dsk) (xa : Int) (A : Option Addr) (xb : List UInt8) (xc : Nat) (w : World) (h : Both w g s g' s' d) (hs : Apart g s g' s') (hi : i64 d.left) (hwr : 0 ≤ d.wr ∧ d.wr ≤ 1000000) (_ha : i64 xa) (hL : Lie w A xb) (hxr : xb.length ≤ 140737488351232) :
    Calls Try.prog 15 #[.pointer (some ⟨g, 0, none⟩), .pointer (some ⟨g', 0, none⟩), .agg #[.int .i64 0, .int .i64 xa, .slice A xb.length xc]] w (DoesPost g s g' s' d w) := by
  have hb1 := (Below.refl w.heap.size w).alloc (Nat.le_refl _) (.cells #[.int .i64 0, .int .i64 xa, .slice A xb.length xc] 33)
  have h1 := h.below hb1
  have hl := h.lt
  have hq := Box.new w 33 #[.int .i64 0, .int .i64 xa, .slice A xb.length xc]
  have hL1 := hL.below hb1
  have hF1 : Fr (Four g s g' s') w _ := fr_below hb1
  have q0 : (w.alloc (.cells #[.int .i64 0, .int .i64 xa, .slice A xb.length xc] 33)).cell? ⟨w.heap.size, 0, none⟩ = some (.int .i64 0) := hq.cell 0
  have q1 : (w.alloc (.cells #[.int .i64 0, .int .i64 xa, .slice A xb.length xc] 33)).cell? ⟨w.heap.size, 1, none⟩ = some (.int .i64 xa) := hq.cell 1
  go_enter Try.func15, Try.ntmps15
  go_wp2_with (at_builtin; refine wpList_append_lie rfl (.const (.slice none 0 0)) (.tmp 23) rfl rfl (World.ownsRow_nil _ w.heap.size 5 1) rfl hL1 ?c1 ?c2 ?c3 ?_)
  case c1 => unfold maxLen; omega
  case c2 => omega
  case c3 => simp
  intro A1 c1 w1 ho1 hg1 _
  have hba : Below (w.alloc (.cells #[.int .i64 0, .int .i64 xa, .slice A xb.length xc] 33)).heap.size (w.alloc (.cells #[.int .i64 0, .int .i64 xa, .slice A xb.length xc] 33)) w1 := (Below.refl _ _).grown hg1 (Nat.le_refl _) (fun k hk => by simp [Value.ownBlock] at hk)
  have h2 := h1.below hba
  have hq2 := hq.below hba hq.lt
  have hF2' := hF1.trans (fr_below hba)
  have r0 : w1.cell? ⟨w.heap.size, 0, none⟩ = some (.int .i64 0) := hq2.cell 0
  have r1 : w1.cell? ⟨w.heap.size, 1, none⟩ = some (.int .i64 xa) := hq2.cell 1
  have hBy : Byt w w1 A1 xb.length := Byt.of_own ho1
  have hLi := Lie.of_own ho1
  have hAb : ∀ ad, A1 = some ad → w.heap.size ≤ ad.block := fun ad e => (ho1.lt ad.block (by rw [e]; rfl)).1
  have HAb := Lib.hid hAb
  clear ho1 hg1 hba h1 hL1 hq hF1 q0 q1 hb1 hAb
  go_wp2_with fail
  have HW1 := Lib.hid (rwrite_all xa A1 xb c1 h2.2 hi (by omega) hLi (fun ad e => by have := HAb.out ad e; exact fun k => by rcases k with k | k <;> omega))
  refine HW1.out.mono ?_
  rintro e w2 ⟨rfl, hR2, f2⟩
  have hD2 := h2.1.fr f2 (fun e => by rcases e with e | e; exact hs.a e; exact hs.b e) (fun e => by rcases e with e | e; exact hs.c e; exact hs.d e)
  have hL2 := hLi.fr f2 (fun ad e => by have := HAb.out ad e; exact fun k => by rcases k with k | k <;> omega)
  have hB2 := hBy.fr f2 (fun b hb => by rcases hb with rfl | rfl <;> omega)
  have hx2 := hq2.fr f2 (fun e => by rcases e with e | e <;> omega)
  have hF2 := hF2'.trans (fr_two f2)
  have p1 : w2.cell? ⟨w.heap.size, 1, none⟩ = some (.int .i64 xa) := hx2.cell 1
  clear HW1 f2
  go_wp2_with fail
  have HW2 := Lib.hid (write_all xa A1 xb c1 hD2 hi (by omega) hL2 (fun ad e => by have := HAb.out ad e; exact fun k => by rcases k with k | k <;> omega))
  refine HW2.out.mono ?_
  rintro e w3 ⟨rfl, hD3, f3⟩
  have hR3 := hR2.fr f3 (fun e => by rcases e with e | e; exact hs.a e.symm; exact hs.c e.symm) (fun e => by rcases e with e | e; exact hs.b e.symm; exact hs.d e.symm)
  have hB3 := hB2.fr f3 (fun b hb => by rcases hb with rfl | rfl <;> omega)
  have hF3 := hF2.trans (fr_one f3)
  have HK := Lib.hid (Kept.write hi xa xb)
  clear HW2 f3 hD2 hR2 hL2 hB2 hx2 hF2 p1
  generalize d.write xa xb = d' at *
  go_wp2_with fail
  go_loopw [10] (OverRel g s g' s' d' A1 xb.length w) (fun i _ => xb.length - (intOf i).toNat)
  case atStart => exact ⟨0, rfl, by omega, hB3, ⟨hD3, hR3⟩, hF3⟩
  case round =>
    obtain ⟨k, rfl, hk, hB, hBo, hFw⟩ := hrel
    clear hB3 hD3 hR3 hF3
    by_cases hlt : k < xb.length
    · obtain ⟨b, y, e, hb0, hb2, hc, hf⟩ := hB.at_ hlt
      subst e
      have hy := hB.set_ k (y + 1)
      have hBo2 := hBo.far (p := ⟨b, k, none⟩) (show b ≠ g by omega) (show b ≠ s by omega) (show b ≠ g' by omega) (show b ≠ s' by omega) (.int .u8 ((y + 1).toNat : Int))
      have hF4 := hFw.far (p := ⟨b, k, none⟩) hb0 (.int .u8 ((y + 1).toNat : Int))
      have hws := wrap_succ y
      have k0 : (0 : Int) ≤ (k : Int) := by omega
      have k1 : (k : Int) < (xb.length : Int) := by omega
      clear hB hBo hFw
      go_wp2
      go_roundw
      case rel => exact ⟨k + 1, by go_num, by omega, hy, hBo2, hF4⟩
      case measure => simp [intOf]; omega
    · go_wp2
      go_ret
      exact ⟨rfl, _, hBo, HK.out, hFw⟩

set_option maxRecDepth 100000 in
set_option maxHeartbeats 4000000 in
theorem does_read (g s g' s' : Nat) (d : Dsk) (xa : Int) (A : Option Addr) (xb : List UInt8) (xc : Nat) (w : World) (h : Both w g s g' s' d) (_hs : Apart g s g' s') (hi : i64 d.left) (_hwr : 0 ≤ d.wr ∧ d.wr ≤ 1000000) (ha : i64 xa) (hL : Lie w A xb) (_hxr : xb.length ≤ 140737488351232) :
    Calls Try.prog 15 #[.pointer (some ⟨g, 0, none⟩), .pointer (some ⟨g', 0, none⟩), .agg #[.int .i64 1, .int .i64 xa, .slice A xb.length xc]] w (DoesPost g s g' s' d w) := by
  have hb1 := (Below.refl w.heap.size w).alloc (Nat.le_refl _) (.cells #[.int .i64 1, .int .i64 xa, .slice A xb.length xc] 33)
  have h1 := h.below hb1
  have hl := h.lt
  have hq := Box.new w 33 #[.int .i64 1, .int .i64 xa, .slice A xb.length xc]
  have hL1 := hL.below hb1
  have hF1 : Fr (Four g s g' s') w _ := fr_below hb1
  have q0 : (w.alloc (.cells #[.int .i64 1, .int .i64 xa, .slice A xb.length xc] 33)).cell? ⟨w.heap.size, 0, none⟩ = some (.int .i64 1) := hq.cell 0
  have q1 : (w.alloc (.cells #[.int .i64 1, .int .i64 xa, .slice A xb.length xc] 33)).cell? ⟨w.heap.size, 1, none⟩ = some (.int .i64 xa) := hq.cell 1
  have HRd := Lib.hid (fun w h => rread_all xa (w := w) (g := g') (s := s') (d := d) h)
  by_cases hz : d.rerr xa = 0
  · obtain ⟨ho, hbad⟩ : d.on = true ∧ ¬ d.Bad xa := by
      unfold Dsk.rerr at hz
      by_cases ho : d.on = false
      · rw [if_pos ho] at hz; cases hz
      · rw [if_neg ho] at hz
        by_cases hb : d.Bad xa
        · rw [if_pos hb] at hz; cases hz
        · exact ⟨by simpa using ho, hb⟩
    obtain ⟨k, rfl⟩ : ∃ k : Nat, xa = (k : Int) := ⟨xa.toNat, by unfold Dsk.Bad at hbad; omega⟩
    have hk : k < d.L.length := by unfold Dsk.Bad at hbad; omega
    have e1 : d.read (k : Int) = d.L[k] := by unfold Dsk.read; rw [if_pos hz, Int.toNat_natCast, List.getD_eq_getElem?_getD, List.getElem?_eq_getElem hk]; rfl
    rw [hz, e1] at HRd
    have HLk : Hid (d.L[k]? = some d.L[k]) := List.getElem?_eq_getElem hk
    have LF : Hid (d.L[k].length = 256) := h.1.each _ (List.getElem_mem hk)
    have HO := Lib.hid ho
    clear hz e1 ho hbad
    go_enter Try.func15, Try.ntmps15
    go_wp2_with fail
    refine (read_at (k : Int) k _ h1.1 HO.out rfl HLk.out).mono ?_
    rintro e w2 ⟨g2, rfl, hg2, hx2, hb2⟩
    have h2 := h1.below hb2
    have hq2 := hq.below hb2 hq.lt
    have hF2 := hF1.trans (fr_below hb2)
    have hgw : w.heap.size ≤ g2 := Nat.le_trans hF1.size hg2
    have p1 : w2.cell? ⟨w.heap.size, 1, none⟩ = some (.int .i64 (k : Int)) := hq2.cell 1
    have hB3 : Byt w w2 (some ⟨g2, 0, none⟩) 256 := Byt.of_box hx2 hgw LF.out
    have cv := conv_box 256 hx2 LF.out
    clear h1 hq hF1 q0 q1 hb1 hb2 HLk hg2 hq2
    go_wp2_with fail
    refine (HRd.out _ h2.2).mono ?_
    rintro e w' ⟨rfl, rfl⟩
    clear HRd
    generalize d.L[k] = Fy at *
    go_wp2_with fail
    clear cv p1 hx2
    go_loopw [16] (OverRel g s g' s' d (some ⟨g2, 0, none⟩) 256 w) (fun i _ => 256 - (intOf i).toNat)
    case atStart => exact ⟨0, rfl, by omega, hB3, h2, hF2⟩
    case round =>
      obtain ⟨n, rfl, hn, hB, hBo, hFw⟩ := hrel
      clear hB3 h2 hF2
      by_cases hlt : n < 256
      · obtain ⟨b, y, e, hb0, hb2, hc, hf⟩ := hB.at_ hlt
        injection e with e
        injection e with e
        subst e
        have hy := hB.set_ n (y + 1)
        have hBo2 := hBo.far (p := ⟨g2, n, none⟩) (show g2 ≠ g by omega) (show g2 ≠ s by omega) (show g2 ≠ g' by omega) (show g2 ≠ s' by omega) (.int .u8 ((y + 1).toNat : Int))
        have hF4 := hFw.far (p := ⟨g2, n, none⟩) hb0 (.int .u8 ((y + 1).toNat : Int))
        have hws := wrap_succ y
        have k0 : (0 : Int) ≤ (n : Int) := by omega
        have k1 : (n : Int) < (256 : Int) := by omega
        clear hB hBo hFw
        go_wp2
        go_roundw
        case rel => exact ⟨n + 1, by go_num, by omega, hy, hBo2, hF4⟩
        case measure => simp [intOf]; omega
      · go_wp2
        go_ret
        exact ⟨rfl, _, hBo, Kept.refl hi, hFw⟩
  · have e1 : d.read xa = [] := by unfold Dsk.read; rw [if_neg hz]
    rw [e1] at HRd
    have HD := Lib.hid (read_err xa h1.1 hz)
    have cv : ∀ w, (convert 31 9 (.slice none 0 0)).run Try.prog w = .ok (.string ⟨#[]⟩) w := fun w => conv_lie (w := w) (A := none) (l := []) 0 Lie.nil_
    clear hz e1
    generalize d.rerr xa = er at *
    go_enter Try.func15, Try.ntmps15
    go_wp2_with fail
    refine HD.out.mono ?_
    rintro e w' ⟨rfl, rfl⟩
    clear HD
    go_wp2_with fail
    refine (HRd.out _ h1.2).mono ?_
    rintro e w' ⟨rfl, rfl⟩
    clear HRd
    go_wp2_with fail
    clear cv
    go_loopw [16] (NilRel (w.alloc (.cells #[.int .i64 1, .int .i64 xa, .slice A xb.length xc] 33))) (fun _ _ => 0)
    case atStart => exact ⟨rfl, rfl⟩
    case round =>
      obtain ⟨rfl, rfl⟩ := hrel
      go_wp2
      go_ret
      exact ⟨rfl, _, h1, Kept.refl hi, hF1⟩

theorem does_all (g s g' s' : Nat) (d : Dsk) (xk xa : Int) (A : Option Addr) (xb : List UInt8) (xc : Nat) (w : World) (h : Both w g s g' s' d) (hs : Apart g s g' s') (hi : i64 d.left) (hwr : 0 ≤ d.wr ∧ d.wr ≤ 1000000) (ha : i64 xa) (hL : Lie w A xb) (hxr : xb.length ≤ 140737488351232) :
    Calls Try.prog 15 #[.pointer (some ⟨g, 0, none⟩), .pointer (some ⟨g', 0, none⟩), .agg #[.int .i64 xk, .int .i64 xa, .slice A xb.length xc]] w (DoesPost g s g' s' d w) := by
  by_cases n0 : xk = 0
  · subst n0; exact does_any g s g' s' d xa A xb xc w h hs hi hwr ha hL hxr
  by_cases n5 : xk = 5
  · subst n5; exact does_full g s g' s' d xa A xb xc w h hs hi hwr ha hL hxr
  by_cases n1 : xk = 1
  · subst n1; exact does_read g s g' s' d xa A xb xc w h hs hi hwr ha hL hxr
  by_cases n2 : xk = 2
  · subst n2; exact does_cut g s g' s' d xa A xb xc w h hs hi hwr ha hL hxr
  by_cases n3 : xk = 3
  · subst n3; exact does_up g s g' s' d xa A xb xc w h hs hi hwr ha hL hxr
  exact does_none g s g' s' d xa A xb xc xk w h hs hi hwr ha hL hxr n0 n5 n1 n2 n3
end Go.Proofs.Ytjhbeebednahhaa.Dk
