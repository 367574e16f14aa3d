/-
  Contracts of pack's Read, and of its Reader's Bool and Text.
-/
import Derived.Test.YteokhbcpfhjhdaaPkW6
import Derived.Laws.BytesArg
namespace Go.Proofs.Yteokhbcpfhjhdaa.Pk
open Go.RowKit

def ReadPost (l : List UInt8) (w : World) (e : Ending) (w' : World) : Prop :=
  ∃ g, e = .returned (.pointer (some ⟨g, 0, none⟩)) ∧ w.heap.size ≤ g ∧ Rr 61 (fun b => w.heap.size ≤ b ∧ b < g) w' g l false ∧ Below w.heap.size w w'

theorem Rr.of_own {w : World} {base : Nat} {A : Option Addr} {c : Nat} {l : List UInt8} (h : w.ownsRow base 5 1 (.slice A l.length c) l.length (u8C l)) :
    l.length ≤ c ∧ c ≤ maxLen ∧ Lie w A l ∧ ∀ ad, A = some ad → base ≤ ad.block ∧ ad.block < w.heap.size := by
  have hL := Lie.of_own h
  rcases h.2 with ⟨hv, hn⟩ | ⟨g, cap, cur, hv, hb, hh, hnc, hcm, _⟩
  · injection hv with e1 e2 e3
    subst e1; subst e3
    exact ⟨by omega, by unfold maxLen; omega, hL, fun ad e => by cases e⟩
  · injection hv with e1 e2 e3
    subst e1; subst e3
    refine ⟨hnc, hcm, hL, fun ad e => ?_⟩
    injection e with e
    subst e
    exact ⟨hb, (Array.getElem?_eq_some_iff.1 hh).1⟩

set_option maxHeartbeats 1000000 in
theorem read_all (A : Option Addr) (l : List UInt8) (c : Nat) (w : World) (hl : Lie w A l) (hs : l.length ≤ 140737488355328) :
    Calls Try.prog 17 #[.slice A l.length c] w (ReadPost l w) := by
  go_enter Try.func17, Try.ntmps17
  go_wp2_with fail
  refine (clone_all A l c w hl hs).mono ?_
  rintro e w1 ⟨A1, c1, rfl, ho1, hb1⟩
  go_wp2
  go_ret
  obtain ⟨h1, h2, h3, h4⟩ := Rr.of_own ho1
  exact ⟨w1.heap.size, rfl, hb1.size, ⟨A1, c1, Box.new w1 _ _, h1, h2, h3.alloc _, h4⟩, hb1.alloc hb1.size _⟩

theorem conv_lie {w : World} {A : Option Addr} {l : List UInt8} (c : Nat) (h : Lie w A l) : (convert 25 9 (.slice A l.length c)).run Try.prog w = .ok (.string ⟨l.toArray⟩) w := by
  rcases A with _ | ad
  · have h0 : l = [] := by
      rcases l with _ | ⟨b, t⟩
      · rfl
      · obtain ⟨ad, h, _⟩ := h (by simp)
        cases h
    subst h0
    exact run_convert_bytes_nil (P := Try.prog) w 25 5 Try.underlying25 Try.underlying5 0 c 9 Try.underlying9
  · refine run_convert_bytes_back (P := Try.prog) w 25 9 5 ad c l Try.underlying25 Try.underlying5 Try.underlying9 (fun j hj => ?_)
    obtain ⟨ad', e, _, hc⟩ := h (by omega)
    injection e with e
    subst e
    exact hc j hj

set_option maxHeartbeats 1000000 in
theorem rbool_all (S : Nat → Prop) (g : Nat) (l : List UInt8) (bad : Bool) (w : World) (h : Rr 61 S w g l bad) (hS : ∀ b, S b → b ≠ g) :
    Calls Try.prog 22 #[.pointer (some ⟨g, 0, none⟩)] w (RPost 61 S g (.bool (rBool l bad).1) (rBool l bad).2 w) := by
  cases bad with
  | true =>
    go_enter Try.func22, Try.ntmps22
    go_wp2_with fail
    refine (rest_bad S g l w h).mono ?_
    rintro e w' ⟨rfl, rfl⟩
    simp only [List.length_nil]
    go_wp2_with fail
    refine (pass_no S g l true 1 w h hS).mono ?_
    rintro e w2 ⟨rfl, hr2, hg2⟩
    go_wp2
    go_ret
    exact ⟨rfl, hr2, hg2⟩
  | false =>
    obtain ⟨A, c, hx, h1, h2, h3, h4⟩ := h
    rcases l with _ | ⟨b, t⟩
    · go_enter Try.func22, Try.ntmps22
      go_wp2_with fail
      refine (rest_ok g [] A c w hx h1 h2 h3).mono ?_
      rintro e w' ⟨rfl, rfl⟩
      simp only [List.length_nil]
      go_wp2_with fail
      refine (pass_no S g [] false 1 w ⟨A, c, hx, h1, h2, h3, h4⟩ hS).mono ?_
      rintro e w2 ⟨rfl, hr2, hg2⟩
      go_wp2
      go_ret
      exact ⟨rfl, hr2, hg2⟩
    · obtain ⟨ad, rfl, hab, hcl⟩ := h3 (by simp)
      have hc0 : w.cell? (ad.add 0) = some (.int .u8 (b.toNat : Int)) := hcl 0 (by simp)
      have hc0' : w.cell? ad = some (.int .u8 (b.toNat : Int)) := hc0
      have hlen : 0 < (b :: t).length := by simp
      have hln : decide ((b :: t).length > 0) = true := by simp
      by_cases hb : b.toNat ≤ 1
      · have hbd : decide ((b.toNat : Int) ≤ 1) = true := by simp; omega
        have HR : Hid (rBool (b :: t) false = (decide (b.toNat = 1), (b :: t).drop 1, false)) := by unfold Hid rBool; simp [hb]
        generalize hL : (b :: t) = L at *
        have HL := Lib.hid hL
        clear hL
        go_enter Try.func22, Try.ntmps22
        go_wp2_with fail
        refine (rest_ok g L (some ad) c w hx h1 h2 h3).mono ?_
        rintro e w' ⟨rfl, rfl⟩
        go_wp2_with fail
        refine (pass_yes S g L 1 (some ad) c w hx h1 h2 h3 h4 hS (by omega)).mono ?_
        rintro e w2 ⟨rfl, hr2, hg2⟩
        have hc2 : w2.cell? ad = some (.int .u8 (b.toNat : Int)) := (World.cell?_of_block (w := w) (a := ad) (hg2.block ad.block hab (fun e => hS _ (h4 ad rfl) (by injection e)))).trans hc0'
        go_wp2
        go_ret
        rw [HR.out]
        refine ⟨ret_bool ?_, hr2, hg2⟩
        rw [Bool.eq_iff_iff]
        simp
        omega
      · have hbd : decide ((b.toNat : Int) ≤ 1) = false := by simp; omega
        have HR : Hid (rBool (b :: t) false = (false, b :: t, true)) := by unfold Hid rBool; simp [hb]
        generalize hL : (b :: t) = L at *
        have HL := Lib.hid hL
        clear hL
        go_enter Try.func22, Try.ntmps22
        go_wp2_with fail
        refine (rest_ok g L (some ad) c w hx h1 h2 h3).mono ?_
        rintro e w' ⟨rfl, rfl⟩
        go_wp2_with fail
        refine (pass_no S g L false 1 w ⟨some ad, c, hx, h1, h2, h3, h4⟩ hS).mono ?_
        rintro e w2 ⟨rfl, hr2, hg2⟩
        go_wp2
        go_ret
        rw [HR.out]
        exact ⟨rfl, hr2, hg2⟩
/-- A slice from a place to another. -/
theorem slice_part (A : Option Addr) (len c s m : Nat) (hs : s + m ≤ len) (hc : len ≤ c) : ∀ w : World, (Instr.slice 25 (.slice A len c) (some (.int .i64 (s : Int))) (some (.int .i64 ((s : Int) + (m : Int)))) none).run Try.prog w = .ok (.slice (cutA A c s) m (c - s)) w := fun w => by
  have e2 : Try.prog.elem 25 = 5 := by kernel_rfl
  obtain ⟨i0, hi0, hz0, hz1, hz2⟩ := info_parts info_u8
  have e3 : ((sizeOf 5).run Try.prog w) = .ok 1 w := by simp [sizeOf, typeInfo, hi0, hz1]
  have h := run_slice_lh (P := Try.prog) w 25 (by kernel_rfl) (a := A) (len := len) (cap := c) .i64 .i64 (s : Int) ((s : Int) + (m : Int)) (by omega) (by omega) (by omega)
  rw [e2, e3] at h
  rw [h]
  have e4 : ((s : Int) + (m : Int)).toNat - s = m := by omega
  simp [sliced, cutA, e4]

theorem Lie.part {w : World} {A : Option Addr} {l : List UInt8} (h : Lie w A l) {s m c : Nat} (_hs : s + m ≤ l.length) (hc : l.length ≤ c) : Lie w (cutA A c s) ((l.drop s).take m) :=
  (h.cut (k := s) hc).take m
theorem part_len {l : List UInt8} {s m : Nat} (hs : s + m ≤ l.length) : ((l.drop s).take m).length = m := by rw [List.length_take, List.length_drop]; omega

set_option maxHeartbeats 2000000 in
theorem rtext_all (S : Nat → Prop) (g : Nat) (l : List UInt8) (bad : Bool) (most : Int) (w : World) (h : Rr 61 S w g l bad) (hS : ∀ b, S b → b ≠ g) (hll : l.length ≤ 140737488355328) :
    Calls Try.prog 24 #[.pointer (some ⟨g, 0, none⟩), .int .i64 most] w (RPost 61 S g (.string ⟨(rText l bad most).1.toArray⟩) (rText l bad most).2 w) := by
  cases bad with
  | true =>
    have HD : Hid (decCE [] most = .returned (.tuple #[.int .i64 0, .int .i64 0, .bool false])) := rfl
    go_enter Try.func24, Try.ntmps24
    go_wp2_with fail
    refine (rest_bad S g l w h).mono ?_
    rintro e w' ⟨rfl, rfl⟩
    go_wp2_with fail
    refine (decodeCount_all none [] 0 most w Lie.nil_ (by simp) (by unfold maxLen; omega)).mono ?_
    rintro e w1 ⟨rfl, hb1⟩
    rw [HD.out]
    have h1 := h.below hb1
    go_wp2_with fail
    refine (pass_no S g l true 0 w1 h1 hS).mono ?_
    rintro e w2 ⟨rfl, hr2, hg2⟩
    go_wp2
    go_ret
    exact ⟨rfl, hr2, gr_of_below hb1 hg2⟩
  | false =>
    obtain ⟨A, c, hx, h1, h2, h3, h4⟩ := h
    rcases hd : decC l most with _ | ⟨n, s⟩
    · have HD : Hid (decCE l most = .returned (.tuple #[.int .i64 0, .int .i64 0, .bool false])) := by unfold Hid decCE; rw [hd]
      have HR : Hid (rText l false most = ([], l, true)) := by unfold Hid rText; rw [hd]; rfl
      clear hd
      go_enter Try.func24, Try.ntmps24
      go_wp2_with fail
      refine (rest_ok g l A c w hx h1 h2 h3).mono ?_
      rintro e w' ⟨rfl, rfl⟩
      go_wp2_with fail
      refine (decodeCount_all A l c most w h3 h1 h2).mono ?_
      rintro e w1 ⟨rfl, hb1⟩
      rw [HD.out]
      have hr1 : Rr 61 S w1 g l false := Rr.below ⟨A, c, hx, h1, h2, h3, h4⟩ hb1
      go_wp2_with fail
      refine (pass_no S g l false 0 w1 hr1 hS).mono ?_
      rintro e w2 ⟨rfl, hr2, hg2⟩
      go_wp2
      go_ret
      rw [HR.out]
      exact ⟨rfl, hr2, gr_of_below hb1 hg2⟩
    · have hsl := decC_len hd
      have hn0 := (decC_some hd).2.1
      have hn63 := ((dec_some (decC_some hd).1).1).2
      obtain ⟨m, rfl⟩ : ∃ m : Nat, n = (m : Int) := ⟨n.toNat, by omega⟩
      have HD : Hid (decCE l most = .returned (.tuple #[.int .i64 (m : Int), .int .i64 (s : Int), .bool true])) := by unfold Hid decCE; rw [hd]
      have HR : Hid (rText l false most = if m ≤ l.length - s then ((l.drop s).take m, l.drop (s + m), false) else ([], l, true)) := by unfold Hid rText; rw [hd]; rfl
      clear hd
      by_cases hm : m ≤ l.length - s
      · have hmd : decide ((m : Int) ≤ (l.length : Int) - (s : Int)) = true := by simp; omega
        have hz := slice_part A l.length c s m (by omega) h1
        have HP := Lib.hid (part_len (l := l) (s := s) (m := m) (by omega))
        go_enter Try.func24, Try.ntmps24
        go_wp2_with fail
        refine (rest_ok g l A c w hx h1 h2 h3).mono ?_
        rintro e w' ⟨rfl, rfl⟩
        go_wp2_with fail
        refine (decodeCount_all A l c most w h3 h1 h2).mono ?_
        rintro e w1 ⟨rfl, hb1⟩
        rw [HD.out]
        go_wp2_with fail
        refine (pass_yes S g l (s + m) A c w1 (hx.below hb1 hx.lt) h1 h2 (h3.below hb1) h4 hS (by omega)).mono ?_
        rintro e w2 ⟨rfl, hr2, hg2⟩
        have hL2 : Lie w2 A l := (h3.below hb1).grown hg2 (fun ad e h => hS _ (h4 ad e) (by injection h))
        have hcv := conv_lie (c - s) (hL2.part (s := s) (m := m) (c := c) (by omega) h1)
        rw [HP.out] at hcv
        go_wp2
        go_ret
        rw [HR.out, if_pos hm]
        exact ⟨rfl, hr2, gr_of_below hb1 hg2⟩
      · have hmd : decide ((m : Int) ≤ (l.length : Int) - (s : Int)) = false := by simp; omega
        go_enter Try.func24, Try.ntmps24
        go_wp2_with fail
        refine (rest_ok g l A c w hx h1 h2 h3).mono ?_
        rintro e w' ⟨rfl, rfl⟩
        go_wp2_with fail
        refine (decodeCount_all A l c most w h3 h1 h2).mono ?_
        rintro e w1 ⟨rfl, hb1⟩
        rw [HD.out]
        have hr1 : Rr 61 S w1 g l false := Rr.below ⟨A, c, hx, h1, h2, h3, h4⟩ hb1
        go_wp2_with fail
        refine (pass_no S g l false _ w1 hr1 hS).mono ?_
        rintro e w2 ⟨rfl, hr2, hg2⟩
        go_wp2
        go_ret
        rw [HR.out, if_neg hm]
        exact ⟨rfl, hr2, gr_of_below hb1 hg2⟩
end Go.Proofs.Yteokhbcpfhjhdaa.Pk
