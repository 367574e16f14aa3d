/-
  Contracts of the document's own Reader.
-/
import Derived.Test.YteokhbcpfhjhdaaPkR3
namespace Go.Proofs.Yteokhbcpfhjhdaa.Pk
open Go.RowKit

theorem Box.pair {w : World} {g : Nat} {t : TypeId} {a b : Value} (h : Box w g t #[a, b]) :
    w.cell? ⟨g, 0, none⟩ = some a ∧ w.cell? ⟨g, 1, none⟩ = some b ∧ w.frozen? ⟨g, 0, none⟩ = false ∧ w.frozen? ⟨g, 1, none⟩ = false :=
  ⟨h.cell 0, h.cell 1, h.frozen 0, h.frozen 1⟩
theorem num_pos {l : List UInt8} {n : Int} {s : Nat} (h : dec l = some (n, s)) : ((s : Int) == 0) = false := beq_eq_false_iff_ne.2 (by have := dec_len h; omega)

set_option maxRecDepth 100000 in
set_option maxHeartbeats 2000000 in
theorem refrint_all (S : Nat → Prop) (g : Nat) (l : List UInt8) (bad : Bool) (w : World) (h : Rr 41 S w g l bad) (hS : ∀ b, S b → b ≠ g) (_hll : l.length ≤ 140737488355328) :
    Calls Try.prog 31 #[.pointer (some ⟨g, 0, none⟩)] w (RPost 41 S g (.int .i64 (rInt l bad).1) (rInt l bad).2 w) := by
  have hfail := h.fail hS
  have hgf : w.grownBy (w.setCell ⟨g, 1, none⟩ (.bool true)) (some g) := gr_set (World.grownBy.refl w _) 1 _
  obtain ⟨A, c, hx, h1, h2, h3, h4⟩ := h
  obtain ⟨c0, c1, f0, f1⟩ := hx.pair
  rcases hd : dec l with _ | ⟨n, s⟩
  · have HN : Hid (numE l = .returned (.tuple #[.int .i64 0, .int .i64 0])) := by unfold Hid numE; rw [hd]
    have HR : Hid (rInt l bad = (0, l, true)) := by unfold Hid rInt; rw [hd]; cases bad <;> rfl
    clear hd
    cases bad with
    | true =>
      go_enter Try.func31, Try.ntmps31
      go_wp2_with fail
      refine (number_all A l c w h3 h1 h2).mono ?_
      rintro e w' ⟨rfl, rfl⟩
      rw [HN.out]
      go_wp2
      go_ret
      rw [HR.out]
      exact ⟨rfl, hfail, hgf⟩
    | false =>
      go_enter Try.func31, Try.ntmps31
      go_wp2_with fail
      refine (number_all A l c w h3 h1 h2).mono ?_
      rintro e w' ⟨rfl, rfl⟩
      rw [HN.out]
      go_wp2
      go_ret
      rw [HR.out]
      exact ⟨rfl, hfail, hgf⟩
  · have HN : Hid (numE l = .returned (.tuple #[.int .i64 n, .int .i64 (s : Int)])) := by unfold Hid numE; rw [hd]
    have hs0 := num_pos hd
    have hsl := (dec_len hd).2.2
    cases bad with
    | true =>
      have HR : Hid (rInt l true = (0, l, true)) := rfl
      clear hd
      go_enter Try.func31, Try.ntmps31
      go_wp2_with fail
      refine (number_all A l c w h3 h1 h2).mono ?_
      rintro e w' ⟨rfl, rfl⟩
      rw [HN.out]
      go_wp2
      go_ret
      rw [HR.out]
      exact ⟨rfl, hfail, hgf⟩
    | false =>
      have HR : Hid (rInt l false = (n, l.drop s, false)) := by unfold Hid rInt; rw [hd]; rfl
      have hz := slice_from A l.length c s hsl
      have hcut := Rr.cut hx h1 h2 h3 h4 hS hsl
      clear hd
      go_enter Try.func31, Try.ntmps31
      go_wp2_with fail
      refine (number_all A l c w h3 h1 h2).mono ?_
      rintro e w' ⟨rfl, rfl⟩
      rw [HN.out]
      go_wp2
      go_ret
      rw [HR.out]
      exact ⟨rfl, hcut, gr_set (World.grownBy.refl w _) 0 _⟩


set_option maxRecDepth 100000 in
set_option maxHeartbeats 2000000 in
theorem refrcount_all (S : Nat → Prop) (g : Nat) (l : List UInt8) (bad : Bool) (most : Int) (w : World) (h : Rr 41 S w g l bad) (hS : ∀ b, S b → b ≠ g) (_hll : l.length ≤ 140737488355328) :
    Calls Try.prog 34 #[.pointer (some ⟨g, 0, none⟩), .int .i64 most] w (RPost 41 S g (.int .i64 (rCount l bad most).1) (rCount l bad most).2 w) := by
  have hfail := h.fail hS
  have hgf : w.grownBy (w.setCell ⟨g, 1, none⟩ (.bool true)) (some g) := gr_set (World.grownBy.refl w _) 1 _
  obtain ⟨A, c, hx, h1, h2, h3, h4⟩ := h
  obtain ⟨c0, c1, f0, f1⟩ := hx.pair
  rcases hd : dec l with _ | ⟨n, s⟩
  · have HN : Hid (numE l = .returned (.tuple #[.int .i64 0, .int .i64 0])) := by unfold Hid numE; rw [hd]
    have HR : Hid (rCount l bad most = (0, l, true)) := by unfold Hid rCount decC; rw [hd]; cases bad <;> rfl
    clear hd
    cases bad with
    | true =>
      go_enter Try.func34, Try.ntmps34
      go_wp2_with fail
      refine (number_all A l c w h3 h1 h2).mono ?_
      rintro e w' ⟨rfl, rfl⟩
      rw [HN.out]
      go_wp2
      go_ret
      rw [HR.out]
      exact ⟨rfl, hfail, hgf⟩
    | false =>
      go_enter Try.func34, Try.ntmps34
      go_wp2_with fail
      refine (number_all A l c w h3 h1 h2).mono ?_
      rintro e w' ⟨rfl, rfl⟩
      rw [HN.out]
      go_wp2
      go_ret
      rw [HR.out]
      exact ⟨rfl, hfail, hgf⟩
  · have HN : Hid (numE l = .returned (.tuple #[.int .i64 n, .int .i64 (s : Int)])) := by unfold Hid numE; rw [hd]
    have hs0 := num_pos hd
    have hsl := (dec_len hd).2.2
    cases bad with
    | true =>
      have HR : Hid (rCount l true most = (0, l, true)) := rfl
      clear hd
      go_enter Try.func34, Try.ntmps34
      go_wp2_with fail
      refine (number_all A l c w h3 h1 h2).mono ?_
      rintro e w' ⟨rfl, rfl⟩
      rw [HN.out]
      go_wp2
      go_ret
      rw [HR.out]
      exact ⟨rfl, hfail, hgf⟩
    | false =>
      have HQ : Hid (rCount l false most = if n < 0 ∨ most < n then (0, l, true) else (n, l.drop s, false)) := by
        unfold Hid rCount decC; rw [hd]; simp only [Bool.false_eq_true, if_false]
        by_cases hc : n < 0 ∨ most < n
        · rw [if_pos hc, if_pos hc]
        · rw [if_neg hc, if_neg hc]
      clear hd
      by_cases hn0 : n < 0
      · have g1 : decide (n < 0) = true := by simpa using hn0
        have HR : Hid (rCount l false most = (0, l, true)) := HQ.out.trans (if_pos (.inl hn0))
        go_enter Try.func34, Try.ntmps34
        go_wp2_with fail
        refine (number_all A l c w h3 h1 h2).mono ?_
        rintro e w' ⟨rfl, rfl⟩
        rw [HN.out]
        go_wp2
        go_ret
        rw [HR.out]
        exact ⟨rfl, hfail, hgf⟩
      · have g1 : decide (n < 0) = false := by simpa using hn0
        by_cases hn1 : most < n
        · have g2 : decide (most < n) = true := by simpa using hn1
          have HR : Hid (rCount l false most = (0, l, true)) := HQ.out.trans (if_pos (.inr hn1))
          go_enter Try.func34, Try.ntmps34
          go_wp2_with fail
          refine (number_all A l c w h3 h1 h2).mono ?_
          rintro e w' ⟨rfl, rfl⟩
          rw [HN.out]
          go_wp2
          go_ret
          rw [HR.out]
          exact ⟨rfl, hfail, hgf⟩
        · have g2 : decide (most < n) = false := by simpa using hn1
          have HR : Hid (rCount l false most = (n, l.drop s, false)) := HQ.out.trans (if_neg (by omega))
          have hz := slice_from A l.length c s hsl
          have hcut := Rr.cut hx h1 h2 h3 h4 hS hsl
          go_enter Try.func34, Try.ntmps34
          go_wp2_with fail
          refine (number_all A l c w h3 h1 h2).mono ?_
          rintro e w' ⟨rfl, rfl⟩
          rw [HN.out]
          go_wp2
          go_ret
          rw [HR.out]
          exact ⟨rfl, hcut, gr_set (World.grownBy.refl w _) 0 _⟩


set_option maxRecDepth 100000 in
set_option maxHeartbeats 2000000 in
theorem refrtext_all (S : Nat → Prop) (g : Nat) (l : List UInt8) (bad : Bool) (most : Int) (w : World) (h : Rr 41 S w g l bad) (hS : ∀ b, S b → b ≠ g) (hll : l.length ≤ 140737488355328) :
    Calls Try.prog 33 #[.pointer (some ⟨g, 0, none⟩), .int .i64 most] w (RPost 41 S g (.string ⟨(rText l bad most).1.toArray⟩) (rText l bad most).2 w) := by
  have hfail := h.fail hS
  have hgf : w.grownBy (w.setCell ⟨g, 1, none⟩ (.bool true)) (some g) := gr_set (World.grownBy.refl w _) 1 _
  obtain ⟨A, c, hx, h1, h2, h3, h4⟩ := h
  obtain ⟨c0, c1, f0, f1⟩ := hx.pair
  rcases hd : dec l with _ | ⟨n, s⟩
  · have HN : Hid (numE l = .returned (.tuple #[.int .i64 0, .int .i64 0])) := by unfold Hid numE; rw [hd]
    have HR : Hid (rText l bad most = ([], l, true)) := by unfold Hid rText decC; rw [hd]; cases bad <;> rfl
    clear hd
    cases bad with
    | true =>
      go_enter Try.func33, Try.ntmps33
      go_wp2_with fail
      refine (number_all A l c w h3 h1 h2).mono ?_
      rintro e w' ⟨rfl, rfl⟩
      rw [HN.out]
      go_wp2
      go_ret
      rw [HR.out]
      exact ⟨rfl, hfail, hgf⟩
    | false =>
      go_enter Try.func33, Try.ntmps33
      go_wp2_with fail
      refine (number_all A l c w h3 h1 h2).mono ?_
      rintro e w' ⟨rfl, rfl⟩
      rw [HN.out]
      go_wp2
      go_ret
      rw [HR.out]
      exact ⟨rfl, hfail, hgf⟩
  · have HN : Hid (numE l = .returned (.tuple #[.int .i64 n, .int .i64 (s : Int)])) := by unfold Hid numE; rw [hd]
    have hs0 := num_pos hd
    have hsl := (dec_len hd).2.2
    have hi := (dec_some hd).1
    obtain ⟨hi1, hi2⟩ := hi
    cases bad with
    | true =>
      have HR : Hid (rText l true most = ([], l, true)) := rfl
      clear hd
      go_enter Try.func33, Try.ntmps33
      go_wp2_with fail
      refine (number_all A l c w h3 h1 h2).mono ?_
      rintro e w' ⟨rfl, rfl⟩
      rw [HN.out]
      go_wp2
      go_ret
      rw [HR.out]
      exact ⟨rfl, hfail, hgf⟩
    | false =>
      have HQ : Hid (rText l false most = if n < 0 ∨ most < n then ([], l, true) else if n.toNat ≤ l.length - s then ((l.drop s).take n.toNat, l.drop (s + n.toNat), false) else ([], l, true)) := by
        unfold Hid rText decC; rw [hd]; simp only [Bool.false_eq_true, if_false]
        by_cases hc : n < 0 ∨ most < n
        · rw [if_pos hc, if_pos hc]
        · rw [if_neg hc, if_neg hc]
      clear hd
      by_cases hn0 : n < 0
      · have g1 : decide (n < 0) = true := by simpa using hn0
        have HR : Hid (rText l false most = ([], l, true)) := HQ.out.trans (if_pos (.inl hn0))
        go_enter Try.func33, Try.ntmps33
        go_wp2_with fail
        refine (number_all A l c w h3 h1 h2).mono ?_
        rintro e w' ⟨rfl, rfl⟩
        rw [HN.out]
        go_wp2
        go_ret
        rw [HR.out]
        exact ⟨rfl, hfail, hgf⟩
      · have g1 : decide (n < 0) = false := by simpa using hn0
        by_cases hn1 : most < n
        · have g2 : decide (most < n) = true := by simpa using hn1
          have HR : Hid (rText l false most = ([], l, true)) := HQ.out.trans (if_pos (.inr hn1))
          go_enter Try.func33, Try.ntmps33
          go_wp2_with fail
          refine (number_all A l c w h3 h1 h2).mono ?_
          rintro e w' ⟨rfl, rfl⟩
          rw [HN.out]
          go_wp2
          go_ret
          rw [HR.out]
          exact ⟨rfl, hfail, hgf⟩
        · have g2 : decide (most < n) = false := by simpa using hn1
          obtain ⟨m, rfl⟩ : ∃ m : Nat, n = (m : Int) := ⟨n.toNat, by omega⟩
          have HQ2 : Hid (rText l false most = if m ≤ l.length - s then ((l.drop s).take m, l.drop (s + m), false) else ([], l, true)) := HQ.out.trans (if_neg (by omega))
          clear HQ
          by_cases hm : m ≤ l.length - s
          · have g3 : decide ((l.length : Int) - (s : Int) < (m : Int)) = false := by simp; omega
            have HR : Hid (rText l false most = ((l.drop s).take m, l.drop (s + m), false)) := HQ2.out.trans (if_pos hm)
            have hz := slice_part A l.length c s m (by omega) h1
            have hz2 : ∀ w : World, (Instr.slice 25 (.slice A l.length c) (some (.int .i64 ((s : Int) + (m : Int)))) none none).run Try.prog w = .ok (.slice (cutA A c (s + m)) (l.length - (s + m)) (c - (s + m))) w := fun w => by
              have h := slice_from A l.length c (s + m) (by omega) w
              rw [Int.natCast_add] at h
              exact h
            have hcut := Rr.cut (s := s + m) hx h1 h2 h3 h4 hS (by omega)
            have hcv := conv_lie (c - s) (h3.part (s := s) (m := m) (c := c) (by omega) h1)
            rw [part_len (by omega)] at hcv
            go_enter Try.func33, Try.ntmps33
            go_wp2_with fail
            refine (number_all A l c w h3 h1 h2).mono ?_
            rintro e w' ⟨rfl, rfl⟩
            rw [HN.out]
            go_wp2
            go_ret
            rw [HR.out]
            exact ⟨rfl, hcut, gr_set (World.grownBy.refl w _) 0 _⟩
          · have g3 : decide ((l.length : Int) - (s : Int) < (m : Int)) = true := by simp; omega
            have HR : Hid (rText l false most = ([], l, true)) := HQ2.out.trans (if_neg hm)
            go_enter Try.func33, Try.ntmps33
            go_wp2_with fail
            refine (number_all A l c w h3 h1 h2).mono ?_
            rintro e w' ⟨rfl, rfl⟩
            rw [HN.out]
            go_wp2
            go_ret
            rw [HR.out]
            exact ⟨rfl, hfail, hgf⟩


set_option maxRecDepth 100000 in
set_option maxHeartbeats 2000000 in
theorem refrbool_all (S : Nat → Prop) (g : Nat) (l : List UInt8) (bad : Bool) (w : World) (h : Rr 41 S w g l bad) (hS : ∀ b, S b → b ≠ g) (hll : l.length ≤ 140737488355328) :
    Calls Try.prog 32 #[.pointer (some ⟨g, 0, none⟩)] w (RPost 41 S g (.bool (rBool l bad).1) (rBool l bad).2 w) := by
  have hfail := h.fail hS
  have hgf : w.grownBy (w.setCell ⟨g, 1, none⟩ (.bool true)) (some g) := gr_set (World.grownBy.refl w _) 1 _
  obtain ⟨A, c, hx, h1, h2, h3, h4⟩ := h
  obtain ⟨c0, c1, f0, f1⟩ := hx.pair
  cases bad with
  | true =>
    have HR : Hid (rBool l true = (false, l, true)) := rfl
    go_enter Try.func32, Try.ntmps32
    go_wp2
    go_ret
    rw [HR.out]
    exact ⟨rfl, hfail, hgf⟩
  | false =>
    rcases l with _ | ⟨b, t⟩
    · have HR : Hid (rBool [] false = (false, [], true)) := rfl
      simp only [List.length_nil] at c0
      go_enter Try.func32, Try.ntmps32
      go_wp2
      go_ret
      rw [HR.out]
      exact ⟨rfl, hfail, hgf⟩
    · obtain ⟨ad, rfl, hab, hcl⟩ := h3 (by simp)
      have hc0 : w.cell? ad = some (.int .u8 (b.toNat : Int)) := hcl 0 (by simp)
      have hle : (((b :: t).length : Int) == 0) = false := beq_eq_false_iff_ne.2 (by rw [List.length_cons]; omega)
      have hl0 : (0 : Int) < ((b :: t).length : Int) := by rw [List.length_cons]; omega
      have hl1 : 1 ≤ (b :: t).length := by simp
      by_cases hb : b.toNat ≤ 1
      · have hbd : decide ((1 : Int) < (b.toNat : Int)) = false := by simp; omega
        have HR : Hid (rBool (b :: t) false = (decide (b.toNat = 1), (b :: t).drop 1, false)) := by unfold Hid rBool; simp [hb]
        have hz : ∀ w : World, (Instr.slice 25 (.slice (some ad) (b :: t).length c) (some (.int .i64 1)) none none).run Try.prog w = .ok (.slice (cutA (some ad) c 1) ((b :: t).length - 1) (c - 1)) w := slice_from (some ad) (b :: t).length c 1 hl1
        have hcut := Rr.cut hx h1 h2 h3 h4 hS hl1
        have hfar : ad.block ≠ g := hS _ (h4 ad rfl)
        generalize hL : (b :: t) = L at *
        have HL := Lib.hid hL
        clear hL
        go_enter Try.func32, Try.ntmps32
        go_wp2
        go_ret
        rw [HR.out]
        refine ⟨ret_bool ?_, hcut, gr_set (World.grownBy.refl w _) 0 _⟩
        rw [Bool.eq_iff_iff]
        simp
        omega
      · have hbd : decide ((1 : Int) < (b.toNat : Int)) = true := by simp; omega
        have HR : Hid (rBool (b :: t) false = (false, b :: t, true)) := by unfold Hid rBool; simp [hb]
        generalize hL : (b :: t) = L at *
        have HL := Lib.hid hL
        clear hL
        go_enter Try.func32, Try.ntmps32
        go_wp2
        go_ret
        rw [HR.out]
        exact ⟨rfl, hfail, hgf⟩

end Go.Proofs.Yteokhbcpfhjhdaa.Pk
