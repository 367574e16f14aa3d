/-
  The walk of ExprBrackets.
-/
import Derived.Test.YtfdafbppoefnaaaDoorExFr
import Derived.Test.YtfdafbppoefnaaaDoorExSame
import Derived.Test.YtfdafbppoefnaaaDoorExP7
import Derived.Test.YtfdafbppoefnaaaDoorLexW9
namespace Go.Proofs.YtfdafbppoefnaaaDoor.Ep
open Go.RowKit Lx

theorem parse_none {s : List UInt8} {f a : Int} (h : parseP s = (none, f, a)) : f ≠ 0 := by
  unfold parseP at h
  by_cases h0 : (cutL s).2.1 = 0
  · rw [if_neg (by rw [h0]; simp)] at h
    have hc := take_cons (fun _ => True) (cutL s).1 (fun _ _ => trivial)
    cases hr : takeT (cutL s).1 with
    | er g b' =>
      rw [hr] at h hc
      injection h with _ h
      injection h with h _
      obtain ⟨_, _, h3⟩ := hc
      omega
    | ok t b' ts =>
      rw [hr] at h
      simp only at h
      split at h
      · injection h with _ h
        injection h with h _
        omega
      · cases h
  · rw [if_pos h0] at h
    injection h with _ h
    injection h with h _
    rw [← h]; exact h0
theorem br_data (s : ByteArray) : ((⟨#[40]⟩ : ByteArray) ++ s ++ ⟨#[10, 41]⟩).data.toList = 40 :: (s.data.toList ++ [10, 41]) := by simp
theorem br_size (s : ByteArray) : ((⟨#[40]⟩ : ByteArray) ++ s ++ ⟨#[10, 41]⟩).size = s.size + 3 := by
  show ((⟨#[40]⟩ : ByteArray) ++ s ++ ⟨#[10, 41]⟩).data.size = s.data.size + 3
  rw [← Array.length_toList, br_data, List.length_cons, List.length_append, Array.length_toList]
  rfl

def BrPost (w : World) (e : Ending) (w' : World) : Prop := e = .returned (.bool true) ∧ Below w.heap.size w w'

set_option maxRecDepth 100000 in
set_option maxHeartbeats 8000000 in
theorem br_some (s : ByteArray) (w : World) (hs : s.size ≤ 2000) (hTab : Tab w) (hO : Ops w) (t : Ex) (ht : parseP s.data.toList = (some t, 0, 0)) :
    Calls Tryd.prog 6 #[.string s] w (BrPost w) := by
  have hsl : s.data.toList.length = s.size := Array.length_toList
  obtain ⟨ts, p, hcut, hbr⟩ := parse_brackets s.data.toList (by omega) t ht
  have hk2 := (parse_k2 ht).1
  have HT := Lib.hid ht
  have HCut := Lib.hid hcut
  have HB := Lib.hid hbr
  have hd : decide ((2000 : Int) < (s.size : Int)) = false := by simp; omega
  have hbs : ((⟨#[40]⟩ : ByteArray) ++ s ++ ⟨#[10, 41]⟩).size ≤ 9223372036854775807 := by rw [br_size]; omega
  clear ht hcut hbr
  go_enter Tryd.func6, Tryd.ntmps6
  go_wp2_with fail
  refine (awake_any w hO hTab).mono ?_
  rintro e w1 ⟨rfl, hb1⟩
  have hO1 := hO.below hb1 hO.lt
  go_wp2_with fail
  refine (Parse_any s w1 (by omega) hO1).mono ?_
  rw [HT.out]
  rintro e w2 ⟨v, rfl, hT2, hb2⟩
  obtain ⟨va, vcap, rfl, hvc, hvk⟩ := hT2.open
  have hO2 := hO1.below hb2 hO1.lt
  have hc2 := hb1.trans (hb2.mono hb1.size)
  unfold exV at hT2 ⊢
  have hx2 := Box.new w2 24 #[.int .i64 t.op, .int .i64 t.n, .string ⟨t.name.toArray⟩, .slice va t.kids.length vcap]
  have hO3 := hO2.alloc (.cells #[.int .i64 t.op, .int .i64 t.n, .string ⟨t.name.toArray⟩, .slice va t.kids.length vcap] 24)
  have hT3 := hT2.alloc (.cells #[.int .i64 t.op, .int .i64 t.n, .string ⟨t.name.toArray⟩, .slice va t.kids.length vcap] 24)
  have hc3 := hc2.alloc hc2.size (.cells #[.int .i64 t.op, .int .i64 t.n, .string ⟨t.name.toArray⟩, .slice va t.kids.length vcap] 24)
  clear hvk hT2 hc2 hO2 hb1 hb2
  by_cases h62 : ts.length ≤ 62
  · have HB1 : Hid (parseP (40 :: (s.data.toList ++ [10, 41])) = (some t, 0, 0)) := by have h := HB.out; rw [if_pos h62] at h; exact h
    clear HB
    have hP := Parse_any ((⟨#[40]⟩ : ByteArray) ++ s ++ ⟨#[10, 41]⟩) _ hbs hO3
    rw [br_data, HB1.out] at hP
    have HP := Lib.hid hP
    clear hP
    go_wp2_with fail
    with_reducible refine HP.out.mono ?_
    rintro e w4 ⟨v', rfl, hT4, hb4⟩
    obtain ⟨va', vcap', rfl, hvc', hvk'⟩ := hT4.open
    unfold exV at hT4 ⊢
    have hx4 := hx2.below hb4 (by simp)
    have hT4a := hT3.below hb4 (Nat.le_refl _)
    have hc4 := hc3.trans (hb4.mono hc3.size)
    have hx5 := hx4.alloc (.cells #[.int .i64 t.op, .int .i64 t.n, .string ⟨t.name.toArray⟩, .slice va' t.kids.length vcap'] 24)
    have hy5 := Box.new w4 24 #[.int .i64 t.op, .int .i64 t.n, .string ⟨t.name.toArray⟩, .slice va' t.kids.length vcap']
    have hT5 := hT4.alloc (.cells #[.int .i64 t.op, .int .i64 t.n, .string ⟨t.name.toArray⟩, .slice va' t.kids.length vcap'] 24)
    have hT5a := hT4a.alloc (.cells #[.int .i64 t.op, .int .i64 t.n, .string ⟨t.name.toArray⟩, .slice va' t.kids.length vcap'] 24)
    have hc5 := hc4.alloc hc4.size (.cells #[.int .i64 t.op, .int .i64 t.n, .string ⟨t.name.toArray⟩, .slice va' t.kids.length vcap'] 24)
    clear hvk' hT4 hT4a hx4 hc4 hT3 hc3 hx2 hO3 hb4
    go_wp2_with fail
    refine (Cut_any s _ (by omega)).mono ?_
    rw [HCut.out]
    rintro e w6 ⟨lv, rfl, ho6, hb6⟩
    have hx6 := hx5.below hb6 hx5.lt
    have hy6 := hy5.below hb6 hy5.lt
    have hT6 := hT5.below hb6 (Nat.le_refl _)
    have hT6a := hT5a.below hb6 (Nat.le_refl _)
    have hc6 := hc5.trans (hb6.mono hc5.size)
    have hn1 : (ts ++ [(⟨0, [], 0, p⟩ : Tok)]).length = ts.length + 1 := by simp
    simp only at ho6 ⊢
    rw [hn1] at ho6
    obtain ⟨lg, lc, rfl, _, _⟩ := ho6.form (by omega)
    clear hx5 hy5 hT5 hT5a hc5 hb6 ho6
    obtain ⟨a0, a1, a2, a3, _, _, _, _⟩ := hx6.four
    obtain ⟨b0, b1, b2, b3, _, _, _, _⟩ := hy6.four
    have hd2 : decide ((63 : Int) < ((ts.length + 1 : Nat) : Int)) = false := by simp; omega
    have hd3 : ¬ (63 : Int) < (ts.length : Int) + 1 := by omega
    have hd4 : ¬ 63 < ts.length + 1 := by omega
    go_wp2_with fail
    refine (same_any t _ _ _ _ w6 hk2 hT6 hT6a).mono ?_
    rintro e w7 ⟨rfl, hb7⟩
    go_wp2
    go_ret
    exact ⟨rfl, hc6.trans (hb7.mono hc6.size)⟩
  · have HB1 := HB.out
    rw [if_neg h62] at HB1
    obtain ⟨q, hq⟩ := HB1
    have HB2 := Lib.hid hq
    clear HB hq
    have hP := Parse_any ((⟨#[40]⟩ : ByteArray) ++ s ++ ⟨#[10, 41]⟩) _ hbs hO3
    rw [br_data, HB2.out] at hP
    have HP := Lib.hid hP
    clear hP
    go_wp2_with fail
    with_reducible refine HP.out.mono ?_
    rintro e w4 ⟨rfl, hb4⟩
    unfold exV
    have hc4 := hc3.trans (hb4.mono hc3.size)
    have hc5 := hc4.alloc hc4.size (.cells #[.int .i64 0, .int .i64 0, .string ⟨#[]⟩, .slice none 0 0] 24)
    clear hc4 hT3 hc3 hx2 hO3 hb4
    go_wp2_with fail
    refine (Cut_any s _ (by omega)).mono ?_
    rw [HCut.out]
    rintro e w6 ⟨lv, rfl, ho6, hb6⟩
    have hc6 := hc5.trans (hb6.mono hc5.size)
    have hn1 : (ts ++ [(⟨0, [], 0, p⟩ : Tok)]).length = ts.length + 1 := by simp
    simp only at ho6 ⊢
    rw [hn1] at ho6
    obtain ⟨lg, lc, rfl, _, _⟩ := ho6.form (by omega)
    clear hc5 hb6 ho6
    have hd2 : decide ((63 : Int) < ((ts.length + 1 : Nat) : Int)) = true := by simp; omega
    have hd3 : (63 : Int) < (ts.length : Int) + 1 := by omega
    have hd4 : 63 < ts.length + 1 := by omega
    go_wp2
    go_ret
    exact ⟨rfl, hc6⟩

set_option maxRecDepth 100000 in
set_option maxHeartbeats 8000000 in
theorem br_none (s : ByteArray) (w : World) (hs : s.size ≤ 2000) (hTab : Tab w) (hO : Ops w) (f a : Int) (ht : parseP s.data.toList = (none, f, a)) :
    Calls Tryd.prog 6 #[.string s] w (BrPost w) := by
  have hf := parse_none ht
  have hf0 : (f == 0) = false := beq_eq_false_iff_ne.2 hf
  have hf1 : (f != 0) = true := by simp [hf]
  have HT := Lib.hid ht
  have hd : decide ((2000 : Int) < (s.size : Int)) = false := by simp; omega
  have hbs : ((⟨#[40]⟩ : ByteArray) ++ s ++ ⟨#[10, 41]⟩).size ≤ 9223372036854775807 := by rw [br_size]; omega
  clear ht
  go_enter Tryd.func6, Tryd.ntmps6
  go_wp2_with fail
  refine (awake_any w hO hTab).mono ?_
  rintro e w1 ⟨rfl, hb1⟩
  have hO1 := hO.below hb1 hO.lt
  go_wp2_with fail
  refine (Parse_any s w1 (by omega) hO1).mono ?_
  rw [HT.out]
  rintro e w2 ⟨rfl, hb2⟩
  have hO2 := hO1.below hb2 hO1.lt
  have hc2 := hb1.trans (hb2.mono hb1.size)
  unfold exV
  have hO3 := hO2.alloc (.cells #[.int .i64 0, .int .i64 0, .string ⟨#[]⟩, .slice none 0 0] 24)
  have hc3 := hc2.alloc hc2.size (.cells #[.int .i64 0, .int .i64 0, .string ⟨#[]⟩, .slice none 0 0] 24)
  clear hc2 hO2 hb1 hb2 hO1
  have hP := Parse_any ((⟨#[40]⟩ : ByteArray) ++ s ++ ⟨#[10, 41]⟩) _ hbs hO3
  generalize parseP ((⟨#[40]⟩ : ByteArray) ++ s ++ ⟨#[10, 41]⟩).data.toList = r at hP
  obtain ⟨r1, r2, r3⟩ := r
  have HP := Lib.hid hP
  clear hP
  go_wp2_with fail
  with_reducible refine HP.out.mono ?_
  cases r1 with
  | none =>
    rintro e w4 ⟨rfl, hb4⟩
    unfold exV
    have hc4 := hc3.trans (hb4.mono hc3.size)
    clear hc3 hO3 hb4
    go_wp2
    go_ret
    exact ⟨rfl, hc4.alloc hc4.size _⟩
  | some t' =>
    rintro e w4 ⟨v', rfl, hT4, hb4⟩
    obtain ⟨va', vcap', rfl, hvc', hvk'⟩ := hT4.open
    unfold exV
    have hc4 := hc3.trans (hb4.mono hc3.size)
    clear hc3 hO3 hb4 hvk' hT4
    go_wp2
    go_ret
    exact ⟨rfl, hc4.alloc hc4.size _⟩

theorem brackets_walk (s : ByteArray) (w : World) (_hs : s.size ≤ 9223372036854775807) (hTab : Tab w) (hO : Ops w) :
    Calls Tryd.prog 6 #[.string s] w (BrPost w) := by
  rcases Nat.lt_or_ge 2000 s.size with h | h
  · have hd : decide ((2000 : Int) < (s.size : Int)) = true := by simp; omega
    go_enter Tryd.func6, Tryd.ntmps6
    go_wp2_with fail
    refine (awake_any w hO hTab).mono ?_
    rintro e w1 ⟨rfl, hb1⟩
    go_wp2
    go_ret
    exact ⟨rfl, hb1⟩
  · rcases hp : parseP s.data.toList with ⟨r1, f, a⟩
    cases r1 with
    | none => exact br_none s w h hTab hO f a hp
    | some t =>
      obtain ⟨_, rfl, rfl⟩ := parse_k2 hp
      exact br_some s w h hTab hO t hp
end Go.Proofs.YtfdafbppoefnaaaDoor.Ep
