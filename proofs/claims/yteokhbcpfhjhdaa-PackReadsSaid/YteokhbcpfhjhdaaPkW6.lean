/-
  Contracts of pack's Reader.
-/
import Derived.Test.YteokhbcpfhjhdaaPkW5
import Derived.Laws.IdiomStrings
namespace Go.Proofs.Yteokhbcpfhjhdaa.Pk
open Go.RowKit

/-- A reader at a block: what is left, and whether a call has failed; S: the blocks in which its bytes may lie. -/
def Rr (t : TypeId) (S : Nat → Prop) (w : World) (g : Nat) (l : List UInt8) (bad : Bool) : Prop :=
  ∃ A c, Box w g t #[.slice A l.length c, .bool bad] ∧ l.length ≤ c ∧ c ≤ maxLen ∧ Lie w A l ∧ ∀ ad, A = some ad → S ad.block
section
variable {t : TypeId} {S : Nat → Prop} {w w' : World} {g : Nat} {l : List UInt8} {bad : Bool}
theorem Rr.lt (h : Rr t S w g l bad) : g < w.heap.size := by
  obtain ⟨A, c, hx, _⟩ := h
  exact hx.lt
theorem Lie.grown {A : Option Addr} {row : Option Nat} (h : Lie w A l) (hg : w.grownBy w' row) (hS : ∀ ad, A = some ad → some ad.block ≠ row) : Lie w' A l := fun hl => by
  obtain ⟨ad, e, hlt, hc⟩ := h hl
  exact ⟨ad, e, Nat.lt_of_lt_of_le hlt hg.size, fun j hj => (World.cell?_of_block (w := w) (a := ad.add j) (by rw [blk_add]; exact hg.block ad.block hlt (hS ad e))).trans (hc j hj)⟩
theorem Rr.grown {row : Option Nat} (h : Rr t S w g l bad) (hg : w.grownBy w' row) (hne : some g ≠ row) (hS : ∀ b, S b → some b ≠ row) : Rr t S w' g l bad := by
  obtain ⟨A, c, hx, h1, h2, h3, h4⟩ := h
  exact ⟨A, c, hx.grown hg hne, h1, h2, h3.grown hg (fun ad e => hS _ (h4 ad e)), h4⟩
theorem Rr.below (h : Rr t S w g l bad) (hb : Below w.heap.size w w') : Rr t S w' g l bad := by
  obtain ⟨A, c, hx, h1, h2, h3, h4⟩ := h
  exact ⟨A, c, hx.below hb hx.lt, h1, h2, h3.below hb, h4⟩
theorem Rr.fail (h : Rr t S w g l bad) (hS : ∀ b, S b → b ≠ g) : Rr t S (w.setCell ⟨g, 1, none⟩ (.bool true)) g l true := by
  obtain ⟨A, c, hx, h1, h2, h3, h4⟩ := h
  refine ⟨A, c, hx.set_ 1 _, h1, h2, ?_, h4⟩
  exact h3.grown (gr_set (g := g) (World.grownBy.refl w _) 1 _) (fun ad e h => hS _ (h4 ad e) (by injection h))
end

/-- What a slice from a place on is. -/
def cutA (A : Option Addr) (c s : Nat) : Option Addr := if c = s then A else A.map (·.add s)
theorem Rr.cut {t : TypeId} {S : Nat → Prop} {w : World} {g : Nat} {l : List UInt8} {bad : Bool} {A : Option Addr} {c s : Nat} (hx : Box w g t #[.slice A l.length c, .bool bad]) (h1 : l.length ≤ c) (h2 : c ≤ maxLen) (h3 : Lie w A l) (h4 : ∀ ad, A = some ad → S ad.block)
    (hS : ∀ b, S b → b ≠ g) (hs : s ≤ l.length) : Rr t S (w.setCell ⟨g, 0, none⟩ (.slice (cutA A c s) (l.length - s) (c - s))) g (l.drop s) bad := by
  have hA : ∀ ad, cutA A c s = some ad → S ad.block := by
    intro ad e
    unfold cutA at e
    split at e
    · exact h4 ad e
    · rw [Option.map_eq_some_iff] at e
      obtain ⟨a, ha, rfl⟩ := e
      rw [blk_add]
      exact h4 a ha
  refine ⟨cutA A c s, c - s, ?_, by rw [List.length_drop]; omega, by unfold maxLen at h2 ⊢; omega, ?_, hA⟩
  · have := hx.set_ 0 (.slice (cutA A c s) (l.length - s) (c - s))
    rw [List.length_drop]
    exact this
  · exact (h3.cut (k := s) h1).grown (gr_set (g := g) (World.grownBy.refl w _) 0 _) (fun ad e h => hS _ (hA ad e) (by injection h))

theorem slice_from (A : Option Addr) (len c s : Nat) (hs : s ≤ len) : ∀ w : World, (Instr.slice 25 (.slice A len c) (some (.int .i64 (s : Int))) none none).run Try.prog w = .ok (.slice (cutA A c s) (len - s) (c - s)) w := fun w => by
  have e2 : Try.prog.elem 25 = 5 := by kernel_rfl
  obtain ⟨i0, hi0, hz0, hz1, hz2⟩ := info_parts info_u8
  have e3 : ((sizeOf 5).run Try.prog w) = .ok 1 w := by simp [sizeOf, typeInfo, hi0, hz1]
  have h := run_slice_l (P := Try.prog) w 25 (by kernel_rfl) (a := A) (len := len) (cap := c) .i64 (s : Int) (by omega) (by omega)
  rw [e2, e3] at h
  rw [h]
  simp [sliced, cutA]

def RPost (t : TypeId) (S : Nat → Prop) (g : Nat) (v : Value) (st : List UInt8 × Bool) (w : World) (e : Ending) (w' : World) : Prop :=
  e = .returned v ∧ Rr t S w' g st.1 st.2 ∧ w.grownBy w' (some g)

def errV (bad : Bool) : Int := if bad then 30 else 0

set_option maxHeartbeats 1000000 in
theorem rerr_all (S : Nat → Prop) (g : Nat) (l : List UInt8) (bad : Bool) (w : World) (h : Rr 61 S w g l bad) :
    Calls Try.prog 25 #[.pointer (some ⟨g, 0, none⟩)] w fun e w' => e = .returned (.int .i64 (errV bad)) ∧ w = w' := by
  obtain ⟨A, c, hx, h1, h2, h3, h4⟩ := h
  have hc : w.cell? ⟨g, 1, none⟩ = some (.bool bad) := hx.cell 1
  cases bad with
  | true =>
    go_enter Try.func25, Try.ntmps25
    go_wp2
    go_ret
    exact ⟨rfl, rfl⟩
  | false =>
    go_enter Try.func25, Try.ntmps25
    go_wp2
    go_ret
    exact ⟨rfl, rfl⟩

set_option maxHeartbeats 1000000 in
theorem rleft_all (S : Nat → Prop) (g : Nat) (l : List UInt8) (bad : Bool) (w : World) (h : Rr 61 S w g l bad) :
    Calls Try.prog 26 #[.pointer (some ⟨g, 0, none⟩)] w fun e w' => e = .returned (.int .i64 (l.length : Int)) ∧ w = w' := by
  obtain ⟨A, c, hx, h1, h2, h3, h4⟩ := h
  have hc : w.cell? ⟨g, 0, none⟩ = some (.slice A l.length c) := hx.cell 0
  go_enter Try.func26, Try.ntmps26
  go_wp2
  go_ret
  exact ⟨rfl, rfl⟩

set_option maxHeartbeats 1000000 in
theorem rest_bad (S : Nat → Prop) (g : Nat) (l : List UInt8) (w : World) (h : Rr 61 S w g l true) :
    Calls Try.prog 36 #[.pointer (some ⟨g, 0, none⟩)] w fun e w' => e = .returned (.slice none ([] : List UInt8).length 0) ∧ w = w' := by
  go_enter Try.func36, Try.ntmps36
  go_wp2_with fail
  refine (rerr_all S g l true w h).mono ?_
  rintro e w' ⟨rfl, rfl⟩
  have he : errV true = 30 := rfl
  rw [he]
  go_wp2
  go_ret
  exact ⟨rfl, rfl⟩

set_option maxHeartbeats 1000000 in
theorem rest_ok (g : Nat) (l : List UInt8) (A : Option Addr) (c : Nat) (w : World) (hx : Box w g 61 #[.slice A l.length c, .bool false]) (h1 : l.length ≤ c) (h2 : c ≤ maxLen) (h3 : Lie w A l) :
    Calls Try.prog 36 #[.pointer (some ⟨g, 0, none⟩)] w fun e w' => e = .returned (.slice A l.length c) ∧ w = w' := by
  have hc : w.cell? ⟨g, 0, none⟩ = some (.slice A l.length c) := hx.cell 0
  go_enter Try.func36, Try.ntmps36
  go_wp2_with fail
  refine (rerr_all (fun _ => True) g l false w ⟨A, c, hx, h1, h2, h3, fun _ _ => trivial⟩).mono ?_
  rintro e w' ⟨rfl, rfl⟩
  have he : errV false = 0 := rfl
  rw [he]
  go_wp2
  go_ret
  exact ⟨rfl, rfl⟩

set_option maxHeartbeats 1000000 in
theorem pass_no (S : Nat → Prop) (g : Nat) (l : List UInt8) (bad : Bool) (n : Int) (w : World) (h : Rr 61 S w g l bad) (hS : ∀ b, S b → b ≠ g) :
    Calls Try.prog 37 #[.pointer (some ⟨g, 0, none⟩), .int .i64 n, .bool false] w (RPost 61 S g (.bool false) (l, true) w) := by
  have hf := h.fail hS
  obtain ⟨A, c, hx, h1, h2, h3, h4⟩ := h
  have hc : w.cell? ⟨g, 1, none⟩ = some (.bool bad) := hx.cell 1
  have hfr := hx.frozen 1
  go_enter Try.func37, Try.ntmps37
  go_wp2
  go_ret
  exact ⟨rfl, hf, gr_set (World.grownBy.refl w _) 1 _⟩

set_option maxHeartbeats 1000000 in
theorem pass_yes (S : Nat → Prop) (g : Nat) (l : List UInt8) (s : Nat) (A : Option Addr) (c : Nat) (w : World) (hx : Box w g 61 #[.slice A l.length c, .bool false]) (h1 : l.length ≤ c) (h2 : c ≤ maxLen) (h3 : Lie w A l) (h4 : ∀ ad, A = some ad → S ad.block)
    (hS : ∀ b, S b → b ≠ g) (hs : s ≤ l.length) :
    Calls Try.prog 37 #[.pointer (some ⟨g, 0, none⟩), .int .i64 (s : Int), .bool true] w (RPost 61 S g (.bool true) (l.drop s, false) w) := by
  have hf := Rr.cut hx h1 h2 h3 h4 hS hs
  have hc : w.cell? ⟨g, 0, none⟩ = some (.slice A l.length c) := hx.cell 0
  have hfr := hx.frozen 0
  have hz := slice_from A l.length c s hs
  go_enter Try.func37, Try.ntmps37
  go_wp2
  go_ret
  exact ⟨rfl, hf, gr_set (World.grownBy.refl w _) 0 _⟩
/-- What reading an integer comes to. -/
def rInt (l : List UInt8) (bad : Bool) : Int × List UInt8 × Bool :=
  if bad then (0, l, true) else match dec l with
  | none => (0, l, true)
  | some (n, s) => (n, l.drop s, false)
def rCount (l : List UInt8) (bad : Bool) (most : Int) : Int × List UInt8 × Bool :=
  if bad then (0, l, true) else match decC l most with
  | none => (0, l, true)
  | some (n, s) => (n, l.drop s, false)
def rBool (l : List UInt8) (bad : Bool) : Bool × List UInt8 × Bool :=
  if bad then (false, l, true) else match l with
  | [] => (false, l, true)
  | b :: t => if b.toNat ≤ 1 then (decide (b.toNat = 1), t, false) else (false, l, true)
def rText (l : List UInt8) (bad : Bool) (most : Int) : List UInt8 × List UInt8 × Bool :=
  if bad then ([], l, true) else match decC l most with
  | none => ([], l, true)
  | some (n, s) => if n.toNat ≤ l.length - s then ((l.drop s).take n.toNat, l.drop (s + n.toNat), false) else ([], l, true)

theorem decC_some {l : List UInt8} {most n : Int} {s : Nat} (h : decC l most = some (n, s)) : dec l = some (n, s) ∧ 0 ≤ n ∧ n ≤ most := by
  unfold decC at h
  split at h
  · cases h
  · rename_i n' s' hd
    split at h
    · cases h
    · rename_i hc
      injection h with h
      injection h with h1 h2
      subst h1; subst h2
      exact ⟨hd, by omega, by omega⟩
theorem decC_len {l : List UInt8} {most n : Int} {s : Nat} (h : decC l most = some (n, s)) : 0 < s ∧ s ≤ l.length ∧ s ≤ 10 := by
  have := dec_len (decC_some h).1
  omega
theorem gr_of_below {w w1 w2 : World} {g : Nat} (hb : Below w.heap.size w w1) (hg : w1.grownBy w2 (some g)) : w.grownBy w2 (some g) := gr_trans (gr_below hb) hg

set_option maxHeartbeats 1000000 in
theorem rint_all (S : Nat → Prop) (g : Nat) (l : List UInt8) (bad : Bool) (w : World) (h : Rr 61 S w g l bad) (hS : ∀ b, S b → b ≠ g) :
    Calls Try.prog 20 #[.pointer (some ⟨g, 0, none⟩)] w (RPost 61 S g (.int .i64 (rInt l bad).1) (rInt l bad).2 w) := by
  cases bad with
  | true =>
    have HD : Hid (decE [] = .returned (.tuple #[.int .i64 0, .int .i64 0, .bool false])) := rfl
    go_enter Try.func20, Try.ntmps20
    go_wp2_with fail
    refine (rest_bad S g l w h).mono ?_
    rintro e w' ⟨rfl, rfl⟩
    go_wp2_with fail
    refine (decode_all none [] 0 w Lie.nil_ (by simp) (by unfold maxLen; omega)).mono ?_
    rintro e w1 ⟨rfl, hb1⟩
    rw [HD.out]
    have h1 := h.below hb1
    go_wp2_with fail
    refine (pass_no S g l true 0 w1 h1 hS).mono ?_
    rintro e w2 ⟨rfl, hr2, hg2⟩
    go_wp2
    go_ret
    exact ⟨rfl, hr2, gr_of_below hb1 hg2⟩
  | false =>
    obtain ⟨A, c, hx, h1, h2, h3, h4⟩ := h
    rcases hd : dec l with _ | ⟨n, s⟩
    · have HD : Hid (decE l = .returned (.tuple #[.int .i64 0, .int .i64 0, .bool false])) := by unfold Hid decE; rw [hd]
      have HR : Hid (rInt l false = (0, l, true)) := by unfold Hid rInt; rw [hd]; rfl
      clear hd
      go_enter Try.func20, Try.ntmps20
      go_wp2_with fail
      refine (rest_ok g l A c w hx h1 h2 h3).mono ?_
      rintro e w' ⟨rfl, rfl⟩
      go_wp2_with fail
      refine (decode_all A l c w h3 h1 h2).mono ?_
      rintro e w1 ⟨rfl, hb1⟩
      rw [HD.out]
      have hr1 : Rr 61 S w1 g l false := Rr.below ⟨A, c, hx, h1, h2, h3, h4⟩ hb1
      go_wp2_with fail
      refine (pass_no S g l false 0 w1 hr1 hS).mono ?_
      rintro e w2 ⟨rfl, hr2, hg2⟩
      go_wp2
      go_ret
      rw [HR.out]
      exact ⟨rfl, hr2, gr_of_below hb1 hg2⟩
    · have HD : Hid (decE l = .returned (.tuple #[.int .i64 n, .int .i64 (s : Int), .bool true])) := by unfold Hid decE; rw [hd]
      have HR : Hid (rInt l false = (n, l.drop s, false)) := by unfold Hid rInt; rw [hd]; rfl
      have hsl := (dec_len hd).2.2
      clear hd
      go_enter Try.func20, Try.ntmps20
      go_wp2_with fail
      refine (rest_ok g l A c w hx h1 h2 h3).mono ?_
      rintro e w' ⟨rfl, rfl⟩
      go_wp2_with fail
      refine (decode_all A l c w h3 h1 h2).mono ?_
      rintro e w1 ⟨rfl, hb1⟩
      rw [HD.out]
      go_wp2_with fail
      refine (pass_yes S g l s A c w1 (hx.below hb1 hx.lt) h1 h2 (h3.below hb1) h4 hS hsl).mono ?_
      rintro e w2 ⟨rfl, hr2, hg2⟩
      go_wp2
      go_ret
      rw [HR.out]
      exact ⟨rfl, hr2, gr_of_below hb1 hg2⟩

set_option maxHeartbeats 1000000 in
theorem rcount_all (S : Nat → Prop) (g : Nat) (l : List UInt8) (bad : Bool) (most : Int) (w : World) (h : Rr 61 S w g l bad) (hS : ∀ b, S b → b ≠ g) :
    Calls Try.prog 27 #[.pointer (some ⟨g, 0, none⟩), .int .i64 most] w (RPost 61 S g (.int .i64 (rCount l bad most).1) (rCount l bad most).2 w) := by
  cases bad with
  | true =>
    have HD : Hid (decCE [] most = .returned (.tuple #[.int .i64 0, .int .i64 0, .bool false])) := rfl
    go_enter Try.func27, Try.ntmps27
    go_wp2_with fail
    refine (rest_bad S g l w h).mono ?_
    rintro e w' ⟨rfl, rfl⟩
    go_wp2_with fail
    refine (decodeCount_all none [] 0 most w Lie.nil_ (by simp) (by unfold maxLen; omega)).mono ?_
    rintro e w1 ⟨rfl, hb1⟩
    rw [HD.out]
    have h1 := h.below hb1
    go_wp2_with fail
    refine (pass_no S g l true 0 w1 h1 hS).mono ?_
    rintro e w2 ⟨rfl, hr2, hg2⟩
    go_wp2
    go_ret
    exact ⟨rfl, hr2, gr_of_below hb1 hg2⟩
  | false =>
    obtain ⟨A, c, hx, h1, h2, h3, h4⟩ := h
    rcases hd : decC l most with _ | ⟨n, s⟩
    · have HD : Hid (decCE l most = .returned (.tuple #[.int .i64 0, .int .i64 0, .bool false])) := by unfold Hid decCE; rw [hd]
      have HR : Hid (rCount l false most = (0, l, true)) := by unfold Hid rCount; rw [hd]; rfl
      clear hd
      go_enter Try.func27, Try.ntmps27
      go_wp2_with fail
      refine (rest_ok g l A c w hx h1 h2 h3).mono ?_
      rintro e w' ⟨rfl, rfl⟩
      go_wp2_with fail
      refine (decodeCount_all A l c most w h3 h1 h2).mono ?_
      rintro e w1 ⟨rfl, hb1⟩
      rw [HD.out]
      have hr1 : Rr 61 S w1 g l false := Rr.below ⟨A, c, hx, h1, h2, h3, h4⟩ hb1
      go_wp2_with fail
      refine (pass_no S g l false 0 w1 hr1 hS).mono ?_
      rintro e w2 ⟨rfl, hr2, hg2⟩
      go_wp2
      go_ret
      rw [HR.out]
      exact ⟨rfl, hr2, gr_of_below hb1 hg2⟩
    · have HD : Hid (decCE l most = .returned (.tuple #[.int .i64 n, .int .i64 (s : Int), .bool true])) := by unfold Hid decCE; rw [hd]
      have HR : Hid (rCount l false most = (n, l.drop s, false)) := by unfold Hid rCount; rw [hd]; rfl
      have hsl := (decC_len hd).2.1
      clear hd
      go_enter Try.func27, Try.ntmps27
      go_wp2_with fail
      refine (rest_ok g l A c w hx h1 h2 h3).mono ?_
      rintro e w' ⟨rfl, rfl⟩
      go_wp2_with fail
      refine (decodeCount_all A l c most w h3 h1 h2).mono ?_
      rintro e w1 ⟨rfl, hb1⟩
      rw [HD.out]
      go_wp2_with fail
      refine (pass_yes S g l s A c w1 (hx.below hb1 hx.lt) h1 h2 (h3.below hb1) h4 hS hsl).mono ?_
      rintro e w2 ⟨rfl, hr2, hg2⟩
      go_wp2
      go_ret
      rw [HR.out]
      exact ⟨rfl, hr2, gr_of_below hb1 hg2⟩
end Go.Proofs.Yteokhbcpfhjhdaa.Pk
