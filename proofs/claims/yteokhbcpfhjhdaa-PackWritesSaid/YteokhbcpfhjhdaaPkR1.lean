/-
  Contracts of the document's own Int, Bool, Text (what is laid down).
-/
import Derived.Test.YteokhbcpfhjhdaaPkW8
import Derived.Lib.AppendStr
namespace Go.Proofs.Yteokhbcpfhjhdaa.Pk
open Go.RowKit

/-- A row of the caller's own that has been laid on. -/
def OwnPost (base : Nat) (l : List UInt8) (w : World) (e : Ending) (w' : World) : Prop :=
  ∃ A c, e = .returned (.slice A l.length c) ∧ w'.ownsRow base 5 1 (.slice A l.length c) l.length (u8C l) ∧ Below base w w'

theorem Lie.one (w : World) (t : TypeId) (x : Int) (b : UInt8) (h : (b.toNat : Int) = x) : Lie (w.alloc (.cells #[.int .u8 x] t)) (some ⟨w.heap.size, 0, none⟩) [b] := by
  subst h
  exact Lie.of_list w t [b]
theorem own_below {w w1 : World} {base : Nat} {v : Value} {n : Nat} {xs : List Value} (ho : w.ownsRow base 5 1 v n xs) (hb : base ≤ w.heap.size) (o : Obj) (hg : (w.alloc o).grownBy w1 v.ownBlock) : Below base w w1 :=
  ((Below.refl base w).alloc hb o).grown hg (by simp; omega) (fun k hk => (ho.lt k hk).1)

/-- One byte laid behind a row. -/
def refLen (A : Option Addr) (l : List UInt8) (c : Nat) : Value := .slice A l.length c

set_option maxHeartbeats 1000000 in
theorem refBool_all (base : Nat) (A : Option Addr) (l : List UInt8) (c : Nat) (b : Bool) (w : World) (ho : w.ownsRow base 5 1 (.slice A l.length c) l.length (u8C l)) (hb : base ≤ w.heap.size) (hs : l.length + 1 ≤ 140737488355328) :
    Calls Try.prog 12 #[.slice A l.length c, .bool b] w (OwnPost base (l ++ [if b then 1 else 0]) w) := by
  cases b with
  | true =>
    go_enter Try.func12, Try.ntmps12
    go_wp2_with (at_builtin; refine wpList_append_lie rfl (.tmp 6) (.tmp 7) rfl rfl (ho.alloc _) rfl (Lie.one w 5 1 1 rfl) ?c1 ?c2 ?c3 ?_)
    case c1 => unfold maxLen; simp; omega
    case c2 => simp; omega
    case c3 => simp; omega
    intro A2 c2 w2 ho2 hg2 hat2
    have hb2 := own_below ho hb _ hg2
    rw [← u8C_append, show l.length + 1 = (l ++ [(1 : UInt8)]).length by simp] at ho2
    go_wp2
    go_ret
    refine ⟨A2, c2, ?_, ho2, hb2⟩
    simp
  | false =>
    go_enter Try.func12, Try.ntmps12
    go_wp2_with (at_builtin; refine wpList_append_lie rfl (.tmp 9) (.tmp 10) rfl rfl (ho.alloc _) rfl (Lie.one w 5 0 0 rfl) ?c1 ?c2 ?c3 ?_)
    case c1 => unfold maxLen; simp; omega
    case c2 => simp; omega
    case c3 => simp; omega
    intro A2 c2 w2 ho2 hg2 hat2
    have hb2 := own_below ho hb _ hg2
    rw [← u8C_append, show l.length + 1 = (l ++ [(0 : UInt8)]).length by simp] at ho2
    go_wp2
    go_ret
    refine ⟨A2, c2, ?_, ho2, hb2⟩
    simp

/-- Where the document's Int stands: what is laid, what is left. -/
def RefRel (base : Nat) (l : List UInt8) (n : Int) (w : World) (v m low : Value) (wr : World) : Prop :=
  ∃ (A : Option Addr) (p : List UInt8) (c z f : Nat), v = .slice A p.length c ∧ wr.ownsRow base 5 1 (.slice A p.length c) p.length (u8C p) ∧ base ≤ wr.heap.size ∧ Below base w wr ∧
    m = .int .i64 ((z / 128 : Nat) : Int) ∧ low = .int .i64 ((z % 128 : Nat) : Int) ∧ z < 18446744073709551616 ∧ z < 128 ^ (f + 1) ∧ p.length + f = l.length + 9 ∧ p ++ encF f z = l ++ bs n

set_option maxRecDepth 100000 in
set_option maxHeartbeats 4000000 in
theorem refInt_all (base : Nat) (A : Option Addr) (l : List UInt8) (c : Nat) (n : Int) (w : World) (hn : i64 n) (ho : w.ownsRow base 5 1 (.slice A l.length c) l.length (u8C l)) (hb : base ≤ w.heap.size) (hs : l.length + 10 ≤ 140737488355328) :
    Calls Try.prog 11 #[.slice A l.length c, .int .i64 n] w (OwnPost base (l ++ bs n) w) := by
  obtain ⟨hn1, hn2⟩ := hn
  have hz := zig_lt ⟨hn1, hn2⟩
  have HN := Lib.hid hn1
  by_cases h0 : n < 0
  · have g1 : decide (n < 0) = true := by simpa using h0
    have HZ : Hid ((zig n : Int) = -2 * n - 1) := by unfold Hid zig; rw [if_pos h0]; omega
    go_enter Try.func11, Try.ntmps11
    go_wp2_with fail
    go_loopw [0, 1, 6] (RefRel base l n w) (fun _ m _ _ => (intOf m).toNat)
    case atStart =>
      have e := HZ.out
      refine ⟨A, l, c, zig n, 9, rfl, ho, hb, Below.refl _ _, ?_, ?_, hz, Nat.lt_of_lt_of_le hz pow_big, rfl, rfl⟩
      · congr 1; omega
      · congr 1; omega
    case round =>
      obtain ⟨A2, p, c2, z, f, rfl, hop, hbp, hbw, rfl, rfl, hz2, hzf, hpf, hpe⟩ := hrel
      have HP := Lib.hid hzf
      have HF := Lib.hid hpf
      have HE := Lib.hid hpe
      have hpl : p.length ≤ l.length + 9 := by omega
      clear hzf hpf hpe ho
      by_cases hlt : z < 128
      · have g2 : decide ((0 : Int) < ((z / 128 : Nat) : Int)) = false := by simp; omega
        have hb2 : ((UInt8.ofNat (z % 128)).toNat : Int) = ((z % 128 : Nat) : Int) := by rw [ofNat_toNat (by omega)]
        have HQ : Hid (p ++ [UInt8.ofNat (z % 128)] = l ++ bs n) := by
          unfold Hid
          rw [← HE.out, Nat.mod_eq_of_lt hlt]
          cases f <;> simp [encF, hlt]
        clear HE HP HF
        go_wp2_with (at_builtin; refine wpList_append_lie rfl (.tmp 33) (.tmp 36) rfl rfl (hop.alloc _) rfl (Lie.one wr 5 _ (UInt8.ofNat (z % 128)) hb2) ?c1 ?c2 ?c3 ?_)
        case c1 => unfold maxLen; simp; omega
        case c2 => simp; omega
        case c3 => simp; omega
        intro A3 c3 w3 ho3 hg3 hat3
        have hb3 := hbw.trans (own_below hop hbp _ hg3)
        rw [← u8C_append, HQ.out, show p.length + 1 = (l ++ bs n).length by rw [← HQ.out]; simp] at ho3
        have hle : p.length + 1 = (l ++ bs n).length := by rw [← HQ.out]; simp
        have HLE := Lib.hid hle
        clear hle hop hat3 hg3 hb2
        go_wp2
        go_ret
        refine ⟨A3, c3, ?_, ho3, hb3⟩
        rw [← HLE.out]
        simp
      · have g2 : decide ((0 : Int) < ((z / 128 : Nat) : Int)) = true := by simp; omega
        have hb2 : ((UInt8.ofNat (z % 128 + 128)).toNat : Int) = ((z % 128 : Nat) : Int) + 128 := by rw [ofNat_toNat (by omega)]; omega
        have hq1 : z / 128 < 18446744073709551616 := by omega
        have hq2 : z % 128 < 128 := by omega
        have hqp : 0 < z / 128 := by omega
        have hpl8 : p.length ≤ l.length + 8 := by
          have h1 := HP.out
          have h2 := HF.out
          cases f with
          | zero => omega
          | succ f => omega
        have HQ : Hid (∃ f', f = f' + 1 ∧ z / 128 < 128 ^ (f' + 1) ∧ (p ++ [UInt8.ofNat (z % 128 + 128)]).length + f' = l.length + 9 ∧ (p ++ [UInt8.ofNat (z % 128 + 128)]) ++ encF f' (z / 128) = l ++ bs n) := by
          unfold Hid
          have h1 := HP.out
          have h2 := HF.out
          have h3 := HE.out
          cases f with
          | zero => omega
          | succ f =>
            refine ⟨f, rfl, ?_, by simp; omega, ?_⟩
            · rw [Nat.div_lt_iff_lt_mul (by omega), ← Nat.pow_succ]; exact h1
            · rw [← h3, encF, if_neg hlt]; simp
        clear HE HP HF
        generalize UInt8.ofNat (z % 128 + 128) = bb at *
        generalize z / 128 = q at *
        generalize z % 128 = r at *
        clear hz2 hlt
        go_wp2_with (at_builtin; refine wpList_append_lie rfl (.tmp 23) (.tmp 27) rfl rfl (hop.alloc _) rfl (Lie.one wr 5 _ (bb) hb2) ?c1 ?c2 ?c3 ?_)
        case c1 => unfold maxLen; simp; omega
        case c2 => simp; omega
        case c3 => simp; omega
        intro A3 c3 w3 ho3 hg3 hat3
        have hb3 := hbw.trans (own_below hop hbp _ hg3)
        have hsz3 : base ≤ w3.heap.size := by have := hg3.size; simp at this; omega
        rw [← u8C_append, show p.length + 1 = (p ++ [bb]).length by simp] at ho3
        clear hop hat3 hg3 hb2 hbw
        go_wp2
        go_roundw
        case rel =>
          obtain ⟨f', _, h2, h3, h4⟩ := HQ.out
          refine ⟨A3, p ++ [bb], c3, q, f', by simp, ho3, hsz3, hb3, by go_num, by go_num, hq1, h2, h3, h4⟩
        case measure => simp [intOf]; omega
  · have g1 : decide (n < 0) = false := by simpa using h0
    have HZ : Hid ((zig n : Int) = 2 * n) := by unfold Hid zig; rw [if_neg h0]; omega
    go_enter Try.func11, Try.ntmps11
    go_wp2_with fail
    go_loopw [0, 1, 6] (RefRel base l n w) (fun _ m _ _ => (intOf m).toNat)
    case atStart =>
      have e := HZ.out
      refine ⟨A, l, c, zig n, 9, rfl, ho, hb, Below.refl _ _, ?_, ?_, hz, Nat.lt_of_lt_of_le hz pow_big, rfl, rfl⟩
      · congr 1; omega
      · congr 1; omega
    case round =>
      obtain ⟨A2, p, c2, z, f, rfl, hop, hbp, hbw, rfl, rfl, hz2, hzf, hpf, hpe⟩ := hrel
      have HP := Lib.hid hzf
      have HF := Lib.hid hpf
      have HE := Lib.hid hpe
      have hpl : p.length ≤ l.length + 9 := by omega
      clear hzf hpf hpe ho
      by_cases hlt : z < 128
      · have g2 : decide ((0 : Int) < ((z / 128 : Nat) : Int)) = false := by simp; omega
        have hb2 : ((UInt8.ofNat (z % 128)).toNat : Int) = ((z % 128 : Nat) : Int) := by rw [ofNat_toNat (by omega)]
        have HQ : Hid (p ++ [UInt8.ofNat (z % 128)] = l ++ bs n) := by
          unfold Hid
          rw [← HE.out, Nat.mod_eq_of_lt hlt]
          cases f <;> simp [encF, hlt]
        clear HE HP HF
        go_wp2_with (at_builtin; refine wpList_append_lie rfl (.tmp 33) (.tmp 36) rfl rfl (hop.alloc _) rfl (Lie.one wr 5 _ (UInt8.ofNat (z % 128)) hb2) ?c1 ?c2 ?c3 ?_)
        case c1 => unfold maxLen; simp; omega
        case c2 => simp; omega
        case c3 => simp; omega
        intro A3 c3 w3 ho3 hg3 hat3
        have hb3 := hbw.trans (own_below hop hbp _ hg3)
        rw [← u8C_append, HQ.out, show p.length + 1 = (l ++ bs n).length by rw [← HQ.out]; simp] at ho3
        have hle : p.length + 1 = (l ++ bs n).length := by rw [← HQ.out]; simp
        have HLE := Lib.hid hle
        clear hle hop hat3 hg3 hb2
        go_wp2
        go_ret
        refine ⟨A3, c3, ?_, ho3, hb3⟩
        rw [← HLE.out]
        simp
      · have g2 : decide ((0 : Int) < ((z / 128 : Nat) : Int)) = true := by simp; omega
        have hb2 : ((UInt8.ofNat (z % 128 + 128)).toNat : Int) = ((z % 128 : Nat) : Int) + 128 := by rw [ofNat_toNat (by omega)]; omega
        have hq1 : z / 128 < 18446744073709551616 := by omega
        have hq2 : z % 128 < 128 := by omega
        have hqp : 0 < z / 128 := by omega
        have hpl8 : p.length ≤ l.length + 8 := by
          have h1 := HP.out
          have h2 := HF.out
          cases f with
          | zero => omega
          | succ f => omega
        have HQ : Hid (∃ f', f = f' + 1 ∧ z / 128 < 128 ^ (f' + 1) ∧ (p ++ [UInt8.ofNat (z % 128 + 128)]).length + f' = l.length + 9 ∧ (p ++ [UInt8.ofNat (z % 128 + 128)]) ++ encF f' (z / 128) = l ++ bs n) := by
          unfold Hid
          have h1 := HP.out
          have h2 := HF.out
          have h3 := HE.out
          cases f with
          | zero => omega
          | succ f =>
            refine ⟨f, rfl, ?_, by simp; omega, ?_⟩
            · rw [Nat.div_lt_iff_lt_mul (by omega), ← Nat.pow_succ]; exact h1
            · rw [← h3, encF, if_neg hlt]; simp
        clear HE HP HF
        generalize UInt8.ofNat (z % 128 + 128) = bb at *
        generalize z / 128 = q at *
        generalize z % 128 = r at *
        clear hz2 hlt
        go_wp2_with (at_builtin; refine wpList_append_lie rfl (.tmp 23) (.tmp 27) rfl rfl (hop.alloc _) rfl (Lie.one wr 5 _ (bb) hb2) ?c1 ?c2 ?c3 ?_)
        case c1 => unfold maxLen; simp; omega
        case c2 => simp; omega
        case c3 => simp; omega
        intro A3 c3 w3 ho3 hg3 hat3
        have hb3 := hbw.trans (own_below hop hbp _ hg3)
        have hsz3 : base ≤ w3.heap.size := by have := hg3.size; simp at this; omega
        rw [← u8C_append, show p.length + 1 = (p ++ [bb]).length by simp] at ho3
        clear hop hat3 hg3 hb2 hbw
        go_wp2
        go_roundw
        case rel =>
          obtain ⟨f', _, h2, h3, h4⟩ := HQ.out
          refine ⟨A3, p ++ [bb], c3, q, f', by simp, ho3, hsz3, hb3, by go_num, by go_num, hq1, h2, h3, h4⟩
        case measure => simp [intOf]; omega

set_option maxHeartbeats 1000000 in
theorem refText_all (base : Nat) (A : Option Addr) (l : List UInt8) (c : Nat) (s : ByteArray) (w : World) (ho : w.ownsRow base 5 1 (.slice A l.length c) l.length (u8C l)) (hb : base ≤ w.heap.size) (hs : l.length + 10 + s.size ≤ 140737488355328) :
    Calls Try.prog 13 #[.slice A l.length c, .string s] w (OwnPost base (l ++ bs (s.size : Int) ++ s.data.toList) w) := by
  obtain ⟨i0, hi0, hz0, hz1, hz2⟩ := info_parts info_u8
  have hbl := bs_len (s.size : Int)
  go_enter Try.func13, Try.ntmps13
  go_wp2_with fail
  refine (refInt_all base A l c (s.size : Int) w (by unfold i64; omega) ho hb (by omega)).mono ?_
  rintro e w1 ⟨A1, c1, rfl, ho1, hb1⟩
  have hsz1 : base ≤ w1.heap.size := Nat.le_trans hb hb1.size
  have hl1 : (l ++ bs (s.size : Int)).length ≤ l.length + 10 := by simp; exact hbl
  generalize l ++ bs (s.size : Int) = L at *
  go_wp2_with (at_builtin; refine Lib.wpList_append_own_string _ rfl (.tmp 8) (.tmp 9) _ _ rfl base 5 i0 Try.underlying25 Try.underlying9 hi0 hz0 hz1 hz2 _ _ _ rfl ho1 s rfl ?c1 ?c2 ?c3 ?_)
  case c1 => unfold maxLen; omega
  case c2 => omega
  case c3 => omega
  intro v2 w2 ho2 hg2 _
  have hv : ∃ A2 c2, v2 = .slice A2 (L ++ s.data.toList).length c2 := by
    have e : (L ++ s.data.toList).length = L.length + s.size := by simp
    rw [e]
    rcases ho2.2 with ⟨rfl, h0⟩ | ⟨g, cap, cur, rfl, _⟩
    · exact ⟨none, 0, by rw [h0]⟩
    · exact ⟨_, _, rfl⟩
  obtain ⟨A2, c2, hv2⟩ := hv
  have hb2 : Below base w w2 := hb1.grown hg2 hsz1 (fun k hk => (ho1.lt k hk).1)
  have e : L.length + s.size = (L ++ s.data.toList).length := by simp
  have e2 : u8C L ++ Lib.strCells s = u8C (L ++ s.data.toList) := by rw [u8C_append L]; rfl
  rw [e, e2, hv2] at ho2
  rw [hv2]
  have HO := Lib.hid ho2
  clear ho2 e e2 hv2 hg2 ho1
  go_wp2
  go_ret
  exact ⟨A2, c2, rfl, HO.out, hb2⟩
end Go.Proofs.Yteokhbcpfhjhdaa.Pk
