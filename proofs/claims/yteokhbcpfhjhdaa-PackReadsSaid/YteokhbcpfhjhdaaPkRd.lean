/-
  The contract of the laws' own reads: both readers take up the same.
-/
import Derived.Test.YteokhbcpfhjhdaaPkR4
import Derived.Test.YteokhbcpfhjhdaaPkO
import Derived.Deep.RegionHeld
import Derived.Deep.QuietTactic
import Derived.BigQuiet
namespace Go.Proofs.Yteokhbcpfhjhdaa.Pk
open Go.RowKit

theorem quiet_l {P : Program} {f : FuncId} {args : Array Value} {w : World} {n : Nat} {v : Value}
    (h : Calls P f args (w.drewN n) fun e w' => e = .returned v ∧ w.drewN n = w') : Calls P f args (w.drewN n) fun e w'' => e = .returned v ∧ ∃ m, w'' = w.drewN m :=
  h.mono fun _ _ ⟨he, hm⟩ => ⟨he, n, hm.symm⟩
theorem Rr.drewN {t : TypeId} {S : Nat → Prop} {w : World} {g : Nat} {l : List UInt8} {bad : Bool} (h : Rr t S w g l bad) (n : Nat) : Rr t S (w.drewN n) g l bad := h.below (below_drewN (Below.refl _ w) n)

def ReadsPost (S1 S2 : Nat → Prop) (g q B m : Nat) (w : World) (e : Ending) (w' : World) : Prop :=
  e = .returned (.bool true) ∧ ∃ l bad, Rr 61 S1 w' g l bad ∧ Rr 41 S2 w' q l bad ∧ l.length ≤ m ∧ Below B w w'

theorem rInt_len (l : List UInt8) (bad : Bool) : (rInt l bad).2.1.length ≤ l.length := by
  unfold rInt; cases bad
  · simp only [Bool.false_eq_true, if_false]; split <;> simp
  · simp
theorem rCount_len (l : List UInt8) (bad : Bool) (m : Int) : (rCount l bad m).2.1.length ≤ l.length := by
  unfold rCount; cases bad
  · simp only [Bool.false_eq_true, if_false]; split <;> simp
  · simp
theorem rBool_len (l : List UInt8) (bad : Bool) : (rBool l bad).2.1.length ≤ l.length := by
  unfold rBool; cases bad
  · simp only [Bool.false_eq_true, if_false]; split
    · simp
    · split <;> simp
  · simp
theorem rText_len (l : List UInt8) (bad : Bool) (m : Int) : (rText l bad m).2.1.length ≤ l.length := by
  unfold rText; cases bad
  · simp only [Bool.false_eq_true, if_false]; split
    · simp
    · split <;> simp
  · simp

set_option maxRecDepth 100000 in
set_option maxHeartbeats 8000000 in
theorem reads_int (S1 S2 : Nat → Prop) (g q B : Nat) (l : List UInt8) (bad : Bool) (xn : Int) (xb : Bool) (xs : ByteArray) (xm : Int) (w : World) (hr : Rr 61 S1 w g l bad) (hq : Rr 41 S2 w q l bad)
    (h1 : ∀ b, S1 b → b ≠ g) (h1' : ∀ b, S1 b → b ≠ q) (h2 : ∀ b, S2 b → b ≠ q) (h2' : ∀ b, S2 b → b ≠ g) (hgq : g ≠ q) (hBg : B ≤ g) (hBq : B ≤ q) (hll : l.length ≤ 140737488355328) :
    Calls Try.prog 18 #[.pointer (some ⟨g, 0, none⟩), .pointer (some ⟨q, 0, none⟩), .agg #[.int .i64 0, .int .i64 xn, .bool xb, .string xs, .int .i64 xm]] w (ReadsPost S1 S2 g q B l.length w) := by
  have hgl := hr.lt
  have hql := hq.lt
  have hb1 : Below w.heap.size w (w.alloc (.cells #[.int .i64 0, .int .i64 xn, .bool xb, .string xs, .int .i64 xm] 27)) := (Below.refl _ w).alloc (Nat.le_refl _) _
  have hx1 := Box.new w 27 #[.int .i64 0, .int .i64 xn, .bool xb, .string xs, .int .i64 xm]
  have hr1 := hr.below hb1
  have hq1 := hq.below hb1
  have hlen := rInt_len l bad
  obtain ⟨v, l', bad', hrd⟩ : ∃ v l' bad', rInt l bad = (v, l', bad') := ⟨_, _, _, rfl⟩
  have HR := Lib.hid hrd
  rw [hrd] at hlen
  clear hrd hr hq
  simp only at hlen
  go_enter Try.func18, Try.ntmps18
  go_wp2_with fail
  refine (rint_all S1 g l bad _ (hr1) h1).mono ?_
  rintro e w2 ⟨rfl, hr2, hg2⟩
  rw [HR.out] at hr2 ⊢
  have hq2 := hq1.grown hg2 (fun e => hgq (by injection e with e; exact e.symm)) (fun b hb e => h2' b hb (by injection e))
  have hb2 := below_gr (hb1.mono (show B ≤ w.heap.size by omega)) hg2 (by simp; omega) hBg
  go_wp2_with fail
  refine (refrint_all S2 q l bad _ (hq2) h2 hll).mono ?_
  rintro e w3 ⟨rfl, hq3, hg3⟩
  rw [HR.out] at hq3 ⊢
  have hr3 := hr2.grown hg3 (fun e => hgq (by injection e)) (fun b hb e => h1' b hb (by injection e))
  have hb3 := below_gr hb2 hg3 (by have := hb2.size; omega) hBq
  have hq4 := hq3
  obtain ⟨Aq, cq, hxq, _, _, _, _⟩ := hq3
  obtain ⟨q0, q1, _, _⟩ := hxq.pair
  cases bad' with
  | true =>
    go_wp2
    go_quiet ((first | (go_at_call 26; exact quiet_l (rleft_all S1 g l' true _ (by exact hr3.drewN _))) | (go_at_call 25; exact quiet_l (rerr_all S1 g l' true _ (by exact hr3.drewN _)))))
    go_wp2
    go_ret
    exact ⟨ret_bool (by simp [errV]), l', true, hr3.drewN _, hq4.drewN _, hlen, below_drewN hb3 _⟩
  | false =>
    go_wp2
    go_quiet ((first | (go_at_call 26; exact quiet_l (rleft_all S1 g l' false _ (by exact hr3.drewN _))) | (go_at_call 25; exact quiet_l (rerr_all S1 g l' false _ (by exact hr3.drewN _)))))
    go_wp2
    go_ret
    exact ⟨ret_bool (by simp [errV]), l', false, hr3.drewN _, hq4.drewN _, hlen, below_drewN hb3 _⟩

set_option maxRecDepth 100000 in
set_option maxHeartbeats 8000000 in
theorem reads_bool (S1 S2 : Nat → Prop) (g q B : Nat) (l : List UInt8) (bad : Bool) (xn : Int) (xb : Bool) (xs : ByteArray) (xm : Int) (w : World) (hr : Rr 61 S1 w g l bad) (hq : Rr 41 S2 w q l bad)
    (h1 : ∀ b, S1 b → b ≠ g) (h1' : ∀ b, S1 b → b ≠ q) (h2 : ∀ b, S2 b → b ≠ q) (h2' : ∀ b, S2 b → b ≠ g) (hgq : g ≠ q) (hBg : B ≤ g) (hBq : B ≤ q) (hll : l.length ≤ 140737488355328) :
    Calls Try.prog 18 #[.pointer (some ⟨g, 0, none⟩), .pointer (some ⟨q, 0, none⟩), .agg #[.int .i64 1, .int .i64 xn, .bool xb, .string xs, .int .i64 xm]] w (ReadsPost S1 S2 g q B l.length w) := by
  have hgl := hr.lt
  have hql := hq.lt
  have hb1 : Below w.heap.size w (w.alloc (.cells #[.int .i64 1, .int .i64 xn, .bool xb, .string xs, .int .i64 xm] 27)) := (Below.refl _ w).alloc (Nat.le_refl _) _
  have hx1 := Box.new w 27 #[.int .i64 1, .int .i64 xn, .bool xb, .string xs, .int .i64 xm]
  have hr1 := hr.below hb1
  have hq1 := hq.below hb1
  have hlen := rBool_len l bad
  obtain ⟨v, l', bad', hrd⟩ : ∃ v l' bad', rBool l bad = (v, l', bad') := ⟨_, _, _, rfl⟩
  have HR := Lib.hid hrd
  rw [hrd] at hlen
  clear hrd hr hq
  simp only at hlen
  go_enter Try.func18, Try.ntmps18
  go_wp2_with fail
  refine (rbool_all S1 g l bad _ (hr1) h1).mono ?_
  rintro e w2 ⟨rfl, hr2, hg2⟩
  rw [HR.out] at hr2 ⊢
  have hq2 := hq1.grown hg2 (fun e => hgq (by injection e with e; exact e.symm)) (fun b hb e => h2' b hb (by injection e))
  have hb2 := below_gr (hb1.mono (show B ≤ w.heap.size by omega)) hg2 (by simp; omega) hBg
  go_wp2_with fail
  refine (refrbool_all S2 q l bad _ (hq2) h2 hll).mono ?_
  rintro e w3 ⟨rfl, hq3, hg3⟩
  rw [HR.out] at hq3 ⊢
  have hr3 := hr2.grown hg3 (fun e => hgq (by injection e)) (fun b hb e => h1' b hb (by injection e))
  have hb3 := below_gr hb2 hg3 (by have := hb2.size; omega) hBq
  have hq4 := hq3
  obtain ⟨Aq, cq, hxq, _, _, _, _⟩ := hq3
  obtain ⟨q0, q1, _, _⟩ := hxq.pair
  cases bad' with
  | true =>
    go_wp2
    go_quiet ((first | (go_at_call 26; exact quiet_l (rleft_all S1 g l' true _ (by exact hr3.drewN _))) | (go_at_call 25; exact quiet_l (rerr_all S1 g l' true _ (by exact hr3.drewN _)))))
    go_wp2
    go_ret
    exact ⟨ret_bool (by simp [errV]), l', true, hr3.drewN _, hq4.drewN _, hlen, below_drewN hb3 _⟩
  | false =>
    go_wp2
    go_quiet ((first | (go_at_call 26; exact quiet_l (rleft_all S1 g l' false _ (by exact hr3.drewN _))) | (go_at_call 25; exact quiet_l (rerr_all S1 g l' false _ (by exact hr3.drewN _)))))
    go_wp2
    go_ret
    exact ⟨ret_bool (by simp [errV]), l', false, hr3.drewN _, hq4.drewN _, hlen, below_drewN hb3 _⟩

set_option maxRecDepth 100000 in
set_option maxHeartbeats 8000000 in
theorem reads_text (S1 S2 : Nat → Prop) (g q B : Nat) (l : List UInt8) (bad : Bool) (xn : Int) (xb : Bool) (xs : ByteArray) (xm : Int) (w : World) (hr : Rr 61 S1 w g l bad) (hq : Rr 41 S2 w q l bad)
    (h1 : ∀ b, S1 b → b ≠ g) (h1' : ∀ b, S1 b → b ≠ q) (h2 : ∀ b, S2 b → b ≠ q) (h2' : ∀ b, S2 b → b ≠ g) (hgq : g ≠ q) (hBg : B ≤ g) (hBq : B ≤ q) (hll : l.length ≤ 140737488355328) :
    Calls Try.prog 18 #[.pointer (some ⟨g, 0, none⟩), .pointer (some ⟨q, 0, none⟩), .agg #[.int .i64 2, .int .i64 xn, .bool xb, .string xs, .int .i64 xm]] w (ReadsPost S1 S2 g q B l.length w) := by
  have hgl := hr.lt
  have hql := hq.lt
  have hb1 : Below w.heap.size w (w.alloc (.cells #[.int .i64 2, .int .i64 xn, .bool xb, .string xs, .int .i64 xm] 27)) := (Below.refl _ w).alloc (Nat.le_refl _) _
  have hx1 := Box.new w 27 #[.int .i64 2, .int .i64 xn, .bool xb, .string xs, .int .i64 xm]
  have hr1 := hr.below hb1
  have hq1 := hq.below hb1
  have hlen := rText_len l bad xm
  obtain ⟨v, l', bad', hrd⟩ : ∃ v l' bad', rText l bad xm = (v, l', bad') := ⟨_, _, _, rfl⟩
  have HR := Lib.hid hrd
  rw [hrd] at hlen
  clear hrd hr hq
  simp only at hlen
  go_enter Try.func18, Try.ntmps18
  have hxm : (w.alloc (.cells #[.int .i64 2, .int .i64 xn, .bool xb, .string xs, .int .i64 xm] 27)).cell? ⟨w.heap.size, 4, none⟩ = some (.int .i64 xm) := hx1.cell 4
  go_wp2_with fail
  go_region_held (fun w' => w'.cell? ⟨w.heap.size, 4, none⟩ = some (.int .i64 xm)) (first | exact hxm | exact hxm2 | exact hxm3 | assumption)
    (first | (go_at_call 24; refine (rtext_all S1 g l bad xm _ (by exact hr1.below (Below.refl _ _).drew) h1 hll).mono ?_; rintro e w2 ⟨rfl, hr2, hg2⟩; rw [HR.out] at hr2 ⊢; have hq2 := (hq1.below (Below.refl _ _).drew).grown hg2 (fun e => hgq (by injection e with e; exact e.symm)) (fun b hb e => h2' b hb (by injection e)); have hb2 := below_gr (hb1.mono (show B ≤ w.heap.size by omega)).drew hg2 (by show B ≤ (w.alloc _).heap.size; simp; omega) hBg; have hx2 := hx1.drew.grown hg2 (fun e => by injection e; omega); have hxm2 : w2.cell? ⟨w.heap.size, 4, none⟩ = some (.int .i64 xm) := hx2.cell 4) | (go_at_call 33; refine (refrtext_all S2 q l bad xm _ (by exact hq2) h2 hll).mono ?_; rintro e w3 ⟨rfl, hq3, hg3⟩; rw [HR.out] at hq3 ⊢; have hr3 := hr2.grown hg3 (fun e => hgq (by injection e)) (fun b hb e => h1' b hb (by injection e)); have hb3 := below_gr hb2 hg3 (by have := hb2.size; omega) hBq; have hx3 := hx2.grown hg3 (fun e => by injection e; omega); have hxm3 : w3.cell? ⟨w.heap.size, 4, none⟩ = some (.int .i64 xm) := hx3.cell 4))
  all_goals
    have hq4 := hq3

    obtain ⟨Aq, cq, hxq, _, _, _, _⟩ := hq3
    obtain ⟨q0, q1, _, _⟩ := hxq.pair
    cases bad' with
    | true =>
      go_wp2
      go_quiet ((first | (go_at_call 26; exact quiet_l (rleft_all S1 g l' true _ (by exact hr3.drewN _))) | (go_at_call 25; exact quiet_l (rerr_all S1 g l' true _ (by exact hr3.drewN _)))))
      go_wp2
      go_ret
      exact ⟨ret_bool (by simp [errV]), l', true, hr3.drewN _, hq4.drewN _, hlen, below_drewN hb3 _⟩
    | false =>
      go_wp2
      go_quiet ((first | (go_at_call 26; exact quiet_l (rleft_all S1 g l' false _ (by exact hr3.drewN _))) | (go_at_call 25; exact quiet_l (rerr_all S1 g l' false _ (by exact hr3.drewN _)))))
      go_wp2
      go_ret
      exact ⟨ret_bool (by simp [errV]), l', false, hr3.drewN _, hq4.drewN _, hlen, below_drewN hb3 _⟩

set_option maxRecDepth 100000 in
set_option maxHeartbeats 8000000 in
theorem reads_count (S1 S2 : Nat → Prop) (g q B : Nat) (l : List UInt8) (bad : Bool) (xn : Int) (xb : Bool) (xs : ByteArray) (xm : Int) (w : World) (hr : Rr 61 S1 w g l bad) (hq : Rr 41 S2 w q l bad)
    (h1 : ∀ b, S1 b → b ≠ g) (h1' : ∀ b, S1 b → b ≠ q) (h2 : ∀ b, S2 b → b ≠ q) (h2' : ∀ b, S2 b → b ≠ g) (hgq : g ≠ q) (hBg : B ≤ g) (hBq : B ≤ q) (hll : l.length ≤ 140737488355328) :
    Calls Try.prog 18 #[.pointer (some ⟨g, 0, none⟩), .pointer (some ⟨q, 0, none⟩), .agg #[.int .i64 3, .int .i64 xn, .bool xb, .string xs, .int .i64 xm]] w (ReadsPost S1 S2 g q B l.length w) := by
  have hgl := hr.lt
  have hql := hq.lt
  have hb1 : Below w.heap.size w (w.alloc (.cells #[.int .i64 3, .int .i64 xn, .bool xb, .string xs, .int .i64 xm] 27)) := (Below.refl _ w).alloc (Nat.le_refl _) _
  have hx1 := Box.new w 27 #[.int .i64 3, .int .i64 xn, .bool xb, .string xs, .int .i64 xm]
  have hr1 := hr.below hb1
  have hq1 := hq.below hb1
  have hlen := rCount_len l bad xm
  obtain ⟨v, l', bad', hrd⟩ : ∃ v l' bad', rCount l bad xm = (v, l', bad') := ⟨_, _, _, rfl⟩
  have HR := Lib.hid hrd
  rw [hrd] at hlen
  clear hrd hr hq
  simp only at hlen
  go_enter Try.func18, Try.ntmps18
  have hxm : (w.alloc (.cells #[.int .i64 3, .int .i64 xn, .bool xb, .string xs, .int .i64 xm] 27)).cell? ⟨w.heap.size, 4, none⟩ = some (.int .i64 xm) := hx1.cell 4
  go_wp2_with fail
  go_region_held (fun w' => w'.cell? ⟨w.heap.size, 4, none⟩ = some (.int .i64 xm)) (first | exact hxm | exact hxm2 | exact hxm3 | assumption)
    (first | (go_at_call 27; refine (rcount_all S1 g l bad xm _ (by exact hr1.below (Below.refl _ _).drew) h1).mono ?_; rintro e w2 ⟨rfl, hr2, hg2⟩; rw [HR.out] at hr2 ⊢; have hq2 := (hq1.below (Below.refl _ _).drew).grown hg2 (fun e => hgq (by injection e with e; exact e.symm)) (fun b hb e => h2' b hb (by injection e)); have hb2 := below_gr (hb1.mono (show B ≤ w.heap.size by omega)).drew hg2 (by show B ≤ (w.alloc _).heap.size; simp; omega) hBg; have hx2 := hx1.drew.grown hg2 (fun e => by injection e; omega); have hxm2 : w2.cell? ⟨w.heap.size, 4, none⟩ = some (.int .i64 xm) := hx2.cell 4) | (go_at_call 34; refine (refrcount_all S2 q l bad xm _ (by exact hq2) h2 hll).mono ?_; rintro e w3 ⟨rfl, hq3, hg3⟩; rw [HR.out] at hq3 ⊢; have hr3 := hr2.grown hg3 (fun e => hgq (by injection e)) (fun b hb e => h1' b hb (by injection e)); have hb3 := below_gr hb2 hg3 (by have := hb2.size; omega) hBq; have hx3 := hx2.grown hg3 (fun e => by injection e; omega); have hxm3 : w3.cell? ⟨w.heap.size, 4, none⟩ = some (.int .i64 xm) := hx3.cell 4))
  all_goals
    have hq4 := hq3

    obtain ⟨Aq, cq, hxq, _, _, _, _⟩ := hq3
    obtain ⟨q0, q1, _, _⟩ := hxq.pair
    cases bad' with
    | true =>
      go_wp2
      go_quiet ((first | (go_at_call 26; exact quiet_l (rleft_all S1 g l' true _ (by exact hr3.drewN _))) | (go_at_call 25; exact quiet_l (rerr_all S1 g l' true _ (by exact hr3.drewN _)))))
      go_wp2
      go_ret
      exact ⟨ret_bool (by simp [errV]), l', true, hr3.drewN _, hq4.drewN _, hlen, below_drewN hb3 _⟩
    | false =>
      go_wp2
      go_quiet ((first | (go_at_call 26; exact quiet_l (rleft_all S1 g l' false _ (by exact hr3.drewN _))) | (go_at_call 25; exact quiet_l (rerr_all S1 g l' false _ (by exact hr3.drewN _)))))
      go_wp2
      go_ret
      exact ⟨ret_bool (by simp [errV]), l', false, hr3.drewN _, hq4.drewN _, hlen, below_drewN hb3 _⟩

set_option maxRecDepth 100000 in
set_option maxHeartbeats 8000000 in
theorem reads_none (S1 S2 : Nat → Prop) (g q B : Nat) (l : List UInt8) (bad : Bool) (xk xn : Int) (xb : Bool) (xs : ByteArray) (xm : Int) (w : World) (hr : Rr 61 S1 w g l bad) (hq : Rr 41 S2 w q l bad) (hBg : B ≤ g)
    (k0 : (xk == 0) = false) (k1 : (xk == 1) = false) (k2 : (xk == 2) = false) (k3 : (xk == 3) = false) :
    Calls Try.prog 18 #[.pointer (some ⟨g, 0, none⟩), .pointer (some ⟨q, 0, none⟩), .agg #[.int .i64 xk, .int .i64 xn, .bool xb, .string xs, .int .i64 xm]] w (ReadsPost S1 S2 g q B l.length w) := by
  have hgl := hr.lt
  have hb1 : Below w.heap.size w (w.alloc (.cells #[.int .i64 xk, .int .i64 xn, .bool xb, .string xs, .int .i64 xm] 27)) := (Below.refl _ w).alloc (Nat.le_refl _) _
  have hr3 := hr.below hb1
  have hq3 := hq.below hb1
  have hb3 := hb1.mono (show B ≤ w.heap.size by omega)
  have hlen : l.length ≤ l.length := Nat.le_refl _
  have hq4 := hq3
  clear hr hq
  go_enter Try.func18, Try.ntmps18
  obtain ⟨Aq, cq, hxq, _, _, _, _⟩ := hq3
  obtain ⟨q0, q1, _, _⟩ := hxq.pair
  cases bad with
  | true =>
    go_wp2
    go_quiet ((first | (go_at_call 26; exact quiet_l (rleft_all S1 g l true _ (by exact hr3.drewN _))) | (go_at_call 25; exact quiet_l (rerr_all S1 g l true _ (by exact hr3.drewN _)))))
    go_wp2
    go_ret
    exact ⟨ret_bool (by simp [errV]), l, true, hr3.drewN _, hq4.drewN _, hlen, below_drewN hb3 _⟩
  | false =>
    go_wp2
    go_quiet ((first | (go_at_call 26; exact quiet_l (rleft_all S1 g l false _ (by exact hr3.drewN _))) | (go_at_call 25; exact quiet_l (rerr_all S1 g l false _ (by exact hr3.drewN _)))))
    go_wp2
    go_ret
    exact ⟨ret_bool (by simp [errV]), l, false, hr3.drewN _, hq4.drewN _, hlen, below_drewN hb3 _⟩
end Go.Proofs.Yteokhbcpfhjhdaa.Pk
