/-
  The walk of ExprAgain.
-/
import Derived.Test.YtlbmojflinkfcaaDoorExFr
import Derived.Test.YtlbmojflinkfcaaDoorExSame
import Derived.Test.YtlbmojflinkfcaaDoorExPc
import Derived.Test.YtlbmojflinkfcaaDoorLexW9
namespace Go.Proofs.YtlbmojflinkfcaaDoor.Ep
open Go.RowKit Lx

theorem parse_none {s : List UInt8} {f a : Int} (h : parseP s = (none, f, a)) : f ≠ 0 := by
  unfold parseP at h
  by_cases h0 : (cutL s).2.1 = 0
  · rw [if_neg (by rw [h0]; simp)] at h
    have hc := take_cons (fun _ => True) (cutL s).1 (fun _ _ => trivial)
    cases hr : takeT (cutL s).1 with
    | er g b' =>
      rw [hr] at h hc
      injection h with _ h
      injection h with h _
      obtain ⟨_, _, h3⟩ := hc
      omega
    | ok t b' ts =>
      rw [hr] at h
      simp only at h
      split at h
      · injection h with _ h
        injection h with h _
        omega
      · cases h
  · rw [if_pos h0] at h
    injection h with _ h
    injection h with h _
    rw [← h]; exact h0
def AgPost (w : World) (e : Ending) (w' : World) : Prop := e = .returned (.bool true) ∧ Below w.heap.size w w'
theorem cut_pos {s : List UInt8} {ls : List Tok} (h : cutL s = (ls, 0, 0)) : 0 < ls.length := by
  obtain ⟨ts, p, e⟩ := cut_form s (by rw [h])
  rw [h] at e
  simp only at e
  rw [e]
  simp

set_option maxRecDepth 100000 in
set_option maxHeartbeats 8000000 in
theorem ag_some (s : ByteArray) (w : World) (hs : s.size ≤ 5000) (hTab : Tab w) (hO : Ops w) (t : Ex) (ht : parseP s.data.toList = (some t, 0, 0)) :
    Calls Tryd.prog 5 #[.string s] w (AgPost w) := by
  have hsl : s.data.toList.length = s.size := Array.length_toList
  obtain ⟨hN, hmay, ls, ms, hc1, hc2, hlen⟩ := again_text s.data.toList (by omega) t ht
  have hk2 := (parse_k2 ht).1
  have hpt := parse_text t hmay hN
  have hpr : printE t = textE t := by unfold printE; rw [if_pos hmay]
  have htl := may_len hmay hN
  have hp1 := cut_pos hc1
  have hp2 := cut_pos hc2
  obtain ⟨T2, hT2⟩ : ∃ T2 : ByteArray, T2 = ⟨(textE t).toArray⟩ := ⟨_, rfl⟩
  have hT2d : T2.data.toList = textE t := by rw [hT2]
  have hT2s : T2.size ≤ 8192 := by
    have : T2.size = (textE t).length := by rw [← hT2d]; exact Array.length_toList.symm
    omega
  have HP1 : Hid (∀ w, Ops w → Calls Tryd.prog 11 #[.string s] w (PPost (some t, 0, 0) w)) := fun w hO => by
    have := Parse_any s w (by omega) hO
    rw [ht] at this
    exact this
  have HP2 : Hid (∀ w, Ops w → Calls Tryd.prog 11 #[.string T2] w (PPost (some t, 0, 0) w)) := fun w hO => by
    have := Parse_any T2 w (by omega) hO
    rw [hT2d, hpt] at this
    exact this
  have HPR : Hid (∀ (S : Nat → Prop) (v : Value) (w : World), Ops w → Tab w → TreeV S w t v → Calls Tryd.prog 12 #[v] w fun e w' => e = .returned (.string T2) ∧ Below w.heap.size w w') := fun S v w h1 h2 h3 => by
    have := Print_any t S v w h1 h2 h3 hN
    rw [hpr, ← hT2] at this
    exact this
  have HC1 := Lib.hid (fun w => Cut_any s w (by omega))
  rw [hc1] at HC1
  have HC2 := Lib.hid (fun w => Cut_any T2 w (by omega))
  rw [hT2d, hc2] at HC2
  have hd : decide ((5000 : Int) < (s.size : Int)) = false := by simp; omega
  have HLE := Lib.hid hlen
  clear hc1 hc2 hpt hpr ht hmay hT2 hT2d hlen htl
  go_enter Tryd.func5, Tryd.ntmps5
  go_wp2_with fail
  refine (awake_any w hO hTab).mono ?_
  rintro e w1 ⟨rfl, hb1⟩
  have hO1 := hO.below hb1 hO.lt
  have hTab1 := Tab.belowB hTab hb1 (Tab.lt hTab)
  go_wp2_with fail
  refine (HP1.out w1 hO1).mono ?_
  rintro e w2 ⟨v, rfl, hT2, hb2⟩
  obtain ⟨va, vcap, rfl, hvc, hvk⟩ := hT2.open
  have hO2 := hO1.below hb2 hO1.lt
  have hTab2 := Tab.belowB hTab1 hb2 (Tab.lt hTab1)
  have hB2 := hb1.trans (hb2.mono hb1.size)
  unfold exV at hT2 ⊢
  have hx2 := Box.new w2 24 #[.int .i64 t.op, .int .i64 t.n, .string ⟨t.name.toArray⟩, .slice va t.kids.length vcap]
  have hbA : Below w2.heap.size w2 (w2.alloc (.cells #[.int .i64 t.op, .int .i64 t.n, .string ⟨t.name.toArray⟩, .slice va t.kids.length vcap] 24)) := (Below.refl _ _).alloc (Nat.le_refl _) _
  have hO3 := hO2.below hbA hO2.lt
  have hTab3 := Tab.belowB hTab2 hbA (Tab.lt hTab2)
  have hT3 := hT2.alloc (.cells #[.int .i64 t.op, .int .i64 t.n, .string ⟨t.name.toArray⟩, .slice va t.kids.length vcap] 24)
  have hB3 := hB2.alloc hB2.size (.cells #[.int .i64 t.op, .int .i64 t.n, .string ⟨t.name.toArray⟩, .slice va t.kids.length vcap] 24)
  obtain ⟨a0, a1, a2, a3, _, _, _, _⟩ := hx2.four
  clear hvk hT2 hB2 hO2 hb1 hb2 hTab1 hTab2 hbA
  go_wp2_with fail
  refine (HPR.out _ _ _ hO3 hTab3 hT3).mono ?_
  rintro e w4 ⟨rfl, hb4⟩
  have hx4 := hx2.below hb4 hx2.lt
  have hO4 := hO3.below hb4 hO3.lt
  have hT4 := hT3.below hb4 (Nat.le_refl _)
  have hB4 := hB3.trans (hb4.mono hB3.size)
  clear hx2 hO3 hTab3 hT3 hB3 hb4 a0 a1 a2 a3 HPR
  go_wp2_with fail
  refine (HP2.out w4 hO4).mono ?_
  rintro e w5 ⟨v', rfl, hT5, hb5⟩
  obtain ⟨va', vcap', rfl, hvc', hvk'⟩ := hT5.open
  unfold exV at hT5 ⊢
  have hx5 := hx4.below hb5 hx4.lt
  have hT5a := hT4.below hb5 (Nat.le_refl _)
  have hB5 := hB4.trans (hb5.mono hB4.size)
  have hx6 := hx5.alloc (.cells #[.int .i64 t.op, .int .i64 t.n, .string ⟨t.name.toArray⟩, .slice va' t.kids.length vcap'] 24)
  have hy6 := Box.new w5 24 #[.int .i64 t.op, .int .i64 t.n, .string ⟨t.name.toArray⟩, .slice va' t.kids.length vcap']
  have hT6 := hT5.alloc (.cells #[.int .i64 t.op, .int .i64 t.n, .string ⟨t.name.toArray⟩, .slice va' t.kids.length vcap'] 24)
  have hT6a := hT5a.alloc (.cells #[.int .i64 t.op, .int .i64 t.n, .string ⟨t.name.toArray⟩, .slice va' t.kids.length vcap'] 24)
  have hB6 := hB5.alloc hB5.size (.cells #[.int .i64 t.op, .int .i64 t.n, .string ⟨t.name.toArray⟩, .slice va' t.kids.length vcap'] 24)
  clear hvk' hT5 hT5a hx5 hB5 hT4 hB4 hx4 hO4 hb5
  obtain ⟨a0, a1, a2, a3, _, _, _, _⟩ := hx6.four
  obtain ⟨b0, b1, b2, b3, _, _, _, _⟩ := hy6.four
  go_wp2_with fail
  refine (same_any t _ _ _ _ _ hk2 hT6 hT6a).mono ?_
  rintro e w7 ⟨rfl, hb7⟩
  have hB7 := hB6.trans (hb7.mono hB6.size)
  clear hT6 hT6a hx6 hy6 hB6 hb7 a0 a1 a2 a3 b0 b1 b2 b3
  go_wp2_with fail
  refine (HC1.out w7).mono ?_
  rintro e w8 ⟨lv, rfl, ho8, hb8⟩
  have hB8 := hB7.trans (hb8.mono hB7.size)
  simp only at ho8 ⊢
  obtain ⟨lg, lc, rfl, _, _⟩ := ho8.form hp1
  clear ho8 hb8 hB7
  go_wp2_with fail
  refine (HC2.out w8).mono ?_
  rintro e w9 ⟨mv, rfl, ho9, hb9⟩
  have hB9 := hB8.trans (hb9.mono hB8.size)
  simp only at ho9 ⊢
  obtain ⟨mg, mc, rfl, _, _⟩ := ho9.form hp2
  clear ho9 hb9 hB8
  have hdle : decide ((ms.length : Int) ≤ (ls.length : Int)) = true := by have := HLE.out; simp; omega
  have hle2 : ms.length ≤ ls.length := HLE.out
  go_wp2
  go_ret
  exact ⟨ret_bool (by simp <;> omega), hB9⟩

set_option maxRecDepth 100000 in
set_option maxHeartbeats 4000000 in
theorem ag_none (s : ByteArray) (w : World) (hs : s.size ≤ 5000) (hTab : Tab w) (hO : Ops w) (f a : Int) (ht : parseP s.data.toList = (none, f, a)) :
    Calls Tryd.prog 5 #[.string s] w (AgPost w) := by
  have hf := parse_none ht
  have hf0 : (f == 0) = false := beq_eq_false_iff_ne.2 hf
  have hf1 : (f != 0) = true := by simp [hf]
  have HP1 : Hid (∀ w, Ops w → Calls Tryd.prog 11 #[.string s] w (PPost (none, f, a) w)) := fun w hO => by
    have := Parse_any s w (by omega) hO
    rw [ht] at this
    exact this
  have hd : decide ((5000 : Int) < (s.size : Int)) = false := by simp; omega
  clear ht
  go_enter Tryd.func5, Tryd.ntmps5
  go_wp2_with fail
  refine (awake_any w hO hTab).mono ?_
  rintro e w1 ⟨rfl, hb1⟩
  have hO1 := hO.below hb1 hO.lt
  go_wp2_with fail
  refine (HP1.out w1 hO1).mono ?_
  rintro e w2 ⟨rfl, hb2⟩
  have hB2 := hb1.trans (hb2.mono hb1.size)
  unfold exV
  clear hb1 hb2 hO1
  go_wp2
  go_ret
  exact ⟨rfl, hB2.alloc hB2.size _⟩
theorem again_walk (s : ByteArray) (w : World) (_hs : s.size ≤ 9223372036854775807) (hTab : Tab w) (hO : Ops w) :
    Calls Tryd.prog 5 #[.string s] w (AgPost w) := by
  rcases Nat.lt_or_ge 5000 s.size with h | h
  · have hd : decide ((5000 : Int) < (s.size : Int)) = true := by simp; omega
    go_enter Tryd.func5, Tryd.ntmps5
    go_wp2_with fail
    refine (awake_any w hO hTab).mono ?_
    rintro e w1 ⟨rfl, hb1⟩
    go_wp2
    go_ret
    exact ⟨rfl, hb1⟩
  · rcases hp : parseP s.data.toList with ⟨r1, f, a⟩
    cases r1 with
    | none => exact ag_none s w h hTab hO f a hp
    | some t =>
      obtain ⟨_, rfl, rfl⟩ := parse_k2 hp
      exact ag_some s w h hTab hO t hp
end Go.Proofs.YtlbmojflinkfcaaDoor.Ep
