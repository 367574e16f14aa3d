/-
  The walk of TagsApart: whatever is handed in, the law answers true.
-/
import Derived.Test.YtcapdekfbhbkiaaTgR5
import Derived.Test.YtcapdekfbhbkiaaTgW6
namespace Go.Proofs.Ytcapdekfbhbkiaa.Tg
open Go.RowKit Lx

theorem put_comm (im : Im) {i j : Nat} (h : i ≠ j) (n m : Int) (b d : Bool) : (im.put i n b).put j m d = (im.put j m d).put i n b := by
  simp only [Im.put]
  rw [List.set_comm _ _ h, List.set_comm _ _ h]
theorem tellF_two (l : List Tg) (out : Bool) (a b : Cl) (x : Im) (h : a.1 ≠ b.1) : tellF l out [a, b] x = tellF l out [b, a] x := by
  simp only [tellF]
  cases ha : findZ l a.1 with
  | none =>
    cases hb : findZ l b.1 with
    | none => rfl
    | some j => simp only; split <;> rfl
  | some i =>
    cases hb : findZ l b.1 with
    | none => simp only; split <;> rfl
    | some j =>
      simp only
      have hij : i ≠ j := by
        rintro rfl
        obtain ⟨h1, h2⟩ := findZ_at ha
        obtain ⟨h3, h4⟩ := findZ_at hb
        exact h (h2.symm.trans h4)
      by_cases h1 : (l.getD i default).out = out
      · by_cases h2 : (l.getD j default).out = out
        · rw [if_pos h1, if_pos h2, if_pos h2, if_pos h1, put_comm _ hij]
        · rw [if_pos h1, if_neg h2, if_neg h2]
      · by_cases h2 : (l.getD j default).out = out
        · rw [if_neg h1, if_pos h2, if_neg h1]
        · rw [if_neg h1, if_neg h2]
theorem tellT_two (l : List Tg) (im : Im) (out : Bool) (a b : Cl) (h : a.1 ≠ b.1) : tellT l im [a, b] out = tellT l im [b, a] out := by
  unfold tellT
  rw [tellF_two l out a b im h]
/-- What nothing is told of stays. -/
theorem tellF_keeps (l : List Tg) (out : Bool) (i : Nat) (hi : i < l.length) : ∀ (cs : List Cl) (x y : Im), (∀ c ∈ cs, l[i].nm ≠ c.1) → tellF l out cs x = some y → y.v[i]? = x.v[i]? ∧ y.bad[i]? = x.bad[i]?
  | [], x, y => fun _ h => by
    simp only [tellF, Option.some.injEq] at h
    subst h
    exact ⟨rfl, rfl⟩
  | c :: r, x, y => fun hc h => by
    unfold tellF at h
    cases hz : findZ l c.1 with
    | none => rw [hz] at h; simp at h
    | some j =>
      rw [hz] at h
      simp only at h
      split at h
      · obtain ⟨h1, h2⟩ := tellF_keeps l out i hi r _ _ (fun c' hc' => hc c' (List.mem_cons_of_mem _ hc')) h
        have hij : j ≠ i := by
          rintro rfl
          obtain ⟨_, h4⟩ := findZ_at hz
          exact hc c (List.mem_cons_self ..) h4
        rw [h1, h2]
        simp only [Im.put]
        exact ⟨List.getElem?_set_ne hij, List.getElem?_set_ne hij⟩
      · simp at h
theorem tell_ways (l : List Tg) (im : Im) (a b : Cl) (out : Bool) : (∃ z, tellT l im [a, b] out = (none, z) ∧ z ≠ 0) ∨ ∃ x, tellT l im [a, b] out = (some x, 0) ∧ x.v.length = l.length ∧ x.bad.length = l.length ∧ im.v.length = l.length ∧ im.bad.length = l.length ∧ ∀ i (hi : i < l.length), l[i].nm ≠ a.1 → l[i].nm ≠ b.1 → x.v[i]? = im.v[i]? ∧ x.bad[i]? = im.bad[i]? := by
  cases hr : rightB l im with
  | false => exact .inl ⟨1, tell_no hr, by omega⟩
  | true =>
    cases hf : tellF l out [a, b] im with
    | none => exact .inl ⟨21, tell_none hr hf, by omega⟩
    | some x =>
      obtain ⟨h1, h2⟩ := tellF_len l out [a, b] im x hf
      obtain ⟨-, h3, h4, -⟩ := right_ok hr
      refine .inr ⟨x, tell_some hr hf, by omega, by omega, h3, h4, fun i hi ha hb => tellF_keeps l out i hi [a, b] im x ?_ hf⟩
      intro c hc
      simp at hc
      rcases hc with rfl | rfl
      · exact ha
      · exact hb
theorem cell_two {w : World} {g : Nat} {x y : Cl} (h : Box w g 49 #[.string x.1, .int .i64 x.2, .string y.1, .int .i64 y.2]) : Cells w (some ⟨g, 0, none⟩) [x, y] := fun _ => by
  refine ⟨g, 0, rfl, h.lt, fun i hi j u hu => ?_⟩
  have : i < 2 := hi
  rw [h.cell]
  match i, hi, j, hu with
  | 0, _, 0, hu => simpa [cellC] using hu
  | 0, _, 1, hu => simpa [cellC] using hu
  | 0, _, j + 2, hu => simp [cellC] at hu
  | 1, _, 0, hu => simpa [cellC] using hu
  | 1, _, 1, hu => simpa [cellC] using hu
  | 1, _, j + 2, hu => simp [cellC] at hu
theorem cl_at {w : World} {p : Nat} {y0 y1 : Value} (h : Box w p 49 #[y0, y1]) : w.cell? ⟨p, 0, none⟩ = some y0 ∧ w.cell? ⟨p, 1, none⟩ = some y1 := ⟨h.cell 0, h.cell 1⟩

theorem own_drew {base : Nat} {w : World} {im : Im} {A B : Option Addr} {c d : Nat} (h : OwnIm base w im A c B d) (q : Nat) : OwnIm base (w.drewN q) im A c B d := h
set_option maxRecDepth 100000 in
set_option maxHeartbeats 8000000 in
theorem apartW (a : Option Addr) (l : List Tg) (cap : Nat) (im : Im) (A B : Option Addr) (c d : Nat) (ca cb : Cl) (w : World) (hcap : l.length ≤ cap) (hT : Tags w a l) (_ : ∀ x ∈ l, x.fits) (hV : Nums w A im.v) (hB : Flags w B im.bad) :
    Calls Try.prog 8 #[.slice a l.length cap, .agg #[.slice A im.v.length c, .slice B im.bad.length d], .agg #[.string ca.1, .int .i64 ca.2], .agg #[.string cb.1, .int .i64 cb.2]] w fun e w' => e = .returned (.bool true) ∧ Below w.heap.size w w' := by
  obtain ⟨na, za⟩ := ca
  obtain ⟨nb, zb⟩ := cb
  simp only
  have hx0 := ((Box.new w 28 #[.slice A im.v.length c, .slice B im.bad.length d]).alloc (.cells #[.string na, .int .i64 za] 49)).alloc (.cells #[.string nb, .int .i64 zb] 49)
  have ha0 := (box_at (w := w.alloc (.cells #[.slice A im.v.length c, .slice B im.bad.length d] 28)) (N := w.heap.size + 1) (t := 49) (cs := #[.string na, .int .i64 za]) (by simp)).alloc (.cells #[.string nb, .int .i64 zb] 49)
  have hb0 := box_at (w := (w.alloc (.cells #[.slice A im.v.length c, .slice B im.bad.length d] 28)).alloc (.cells #[.string na, .int .i64 za] 49)) (N := w.heap.size + 1 + 1) (t := 49) (cs := #[.string nb, .int .i64 zb]) (by simp)
  have HT := Lib.hid hT
  have HV := Lib.hid hV
  have HB := Lib.hid hB
  clear hT hV hB
  have HSm : ∀ w1, Below w.heap.size w w1 → Calls Try.prog 10 #[.slice a l.length cap] w1 (Tells (SmallP l) w1) := fun w1 hb => small_any l a cap w1 (RowF.below HT.out hb)
  have HFa : ∀ w1 q, Box w1 q 49 #[.string na, .int .i64 za, .string nb, .int .i64 zb] → Calls Try.prog 18 #[.agg #[.slice A im.v.length c, .slice B im.bad.length d], .slice (some ⟨q, 0, none⟩) 2 2] w1 (Tells (FairP im [(na, za), (nb, zb)]) w1) := fun w1 q hq => fair_any im [(na, za), (nb, zb)] A B _ c d 2 w1 (cell_two hq)
  have HL1 : SmallP l → FairP im [(na, za), (nb, zb)] → ∀ w1 q, Below w.heap.size w w1 → Box w1 q 49 #[.string na, .int .i64 za, .string nb, .int .i64 zb] → Calls Try.prog 20 #[.slice a l.length cap, .agg #[.slice A im.v.length c, .slice B im.bad.length d], .slice (some ⟨q, 0, none⟩) 2 2] w1 (ImPost (tellT l im [(na, za), (nb, zb)] false) w1) := fun h1 h2 w1 q hb hq => Latch_any l im [(na, za), (nb, zb)] a A B _ cap c d 2 w1 (Nat.le_trans h1.1 (by omega)) (Nat.le_trans h2.1 (by omega)) (Nat.le_trans h2.2.1 (by omega)) (by simp) hcap (RowF.below HT.out hb) (RowF.below HV.out hb) (RowF.below HB.out hb) (cell_two hq)
  have HL2 : SmallP l → FairP im [(na, za), (nb, zb)] → na ≠ nb → ∀ w1 q, Below w.heap.size w w1 → Box w1 q 49 #[.string nb, .int .i64 zb, .string na, .int .i64 za] → Calls Try.prog 20 #[.slice a l.length cap, .agg #[.slice A im.v.length c, .slice B im.bad.length d], .slice (some ⟨q, 0, none⟩) 2 2] w1 (ImPost (tellT l im [(na, za), (nb, zb)] false) w1) := fun h1 h2 hne w1 q hb hq => by
    have h := Latch_any l im [(nb, zb), (na, za)] a A B _ cap c d 2 w1 (Nat.le_trans h1.1 (by omega)) (Nat.le_trans h2.1 (by omega)) (Nat.le_trans h2.2.1 (by omega)) (by simp) hcap (RowF.below HT.out hb) (RowF.below HV.out hb) (RowF.below HB.out hb) (cell_two hq)
    rw [← tellT_two l im false (na, za) (nb, zb) hne] at h
    exact h
  have HLen : FairP im [(na, za), (nb, zb)] → (ansI (tellT l im [(na, za), (nb, zb)] false)).v.length ≤ 1000000 ∧ (ansI (tellT l im [(na, za), (nb, zb)] false)).bad.length ≤ 1000000 := fun h2 => tell_small l im _ false (Nat.le_trans h2.1 (by omega)) (Nat.le_trans h2.2.1 (by omega))
  have HS2 : FairP im [(na, za), (nb, zb)] → ∀ w1 A5 c5 B5 d5 A6 c6 B6 d6 base base', OwnIm base w1 (ansI (tellT l im [(na, za), (nb, zb)] false)) A5 c5 B5 d5 → OwnIm base' w1 (ansI (tellT l im [(na, za), (nb, zb)] false)) A6 c6 B6 d6 → Calls Try.prog 13 #[.agg #[.slice A5 (ansI (tellT l im [(na, za), (nb, zb)] false)).v.length c5, .slice B5 (ansI (tellT l im [(na, za), (nb, zb)] false)).bad.length d5], .agg #[.slice A6 (ansI (tellT l im [(na, za), (nb, zb)] false)).v.length c6, .slice B6 (ansI (tellT l im [(na, za), (nb, zb)] false)).bad.length d6]] w1 fun e w' => e = .returned (.bool true) ∧ Below w1.heap.size w1 w' := fun h2 w1 A5 c5 B5 d5 A6 c6 B6 d6 base base' ho5 ho6 => same_true _ A5 B5 A6 B6 c5 d5 c6 d6 w1 (HLen h2).1 (HLen h2).2 ho5.nums ho5.flags ho6.nums ho6.flags
  have HWy := Lib.hid (tell_ways l im (na, za) (nb, zb) false)
  have HSl : SmallP l → l.length ≤ 100 := fun h => h.1
  clear HLen
  generalize tellT l im [(na, za), (nb, zb)] false = X at *
  generalize SmallP l = Ps at *
  generalize FairP im [(na, za), (nb, zb)] = Pf at *
  generalize hn : im.v.length = n at *
  have HN := Lib.hid hn
  clear hn
  generalize hm : im.bad.length = m at *
  have HM := Lib.hid hm
  clear hm
  have HWy2 : Hid ((∃ z, X = (none, z) ∧ z ≠ 0) ∨ ∃ x, X = (some x, 0) ∧ x.v.length = l.length ∧ x.bad.length = l.length ∧ n = l.length ∧ m = l.length ∧ ∀ (i : Nat) (t : Tg), l[i]? = some t → t.nm ≠ na → t.nm ≠ nb → x.v[i]? = im.v[i]? ∧ x.bad[i]? = im.bad[i]?) := by
    unfold Hid
    rcases HWy.out with h | ⟨x, h1, h2, h3, h4, h5, h6⟩
    · exact .inl h
    · refine .inr ⟨x, h1, h2, h3, h4, h5, fun i t ht ha hb => ?_⟩
      obtain ⟨hi, rfl⟩ := List.getElem?_eq_some_iff.1 ht
      exact h6 i hi ha hb
  clear HWy
  generalize hlen : l.length = len at *
  have HL := Lib.hid hlen
  clear hlen
  go_enter Try.func8, Try.ntmps8
  go_wp2_with fail
  refine (awake_any _).mono ?_
  rintro e w1 ⟨rfl, hb1⟩
  have hB1 := below_new (below_new (below_new hb1))
  have hx1 := hx0.below hb1 hx0.lt
  have ha1 := ha0.below hb1 ha0.lt
  have hb1' := hb0.below hb1 hb0.lt
  clear hx0 ha0 hb0 hb1
  go_wp2_with fail
  refine (HSm w1 hB1).mono ?_
  rintro e w2 ⟨b, rfl, hSm, hb2⟩
  have hB2 := hB1.trans (hb2.mono hB1.size)
  have hx2 := hx1.below hb2 hx1.lt
  have ha2 := ha1.below hb2 ha1.lt
  have hb2' := hb1'.below hb2 hb1'.lt
  clear hx1 ha1 hb1' hb2
  obtain ⟨x0, x1⟩ := im_at hx2
  obtain ⟨y0, y1⟩ := cl_at ha2
  obtain ⟨z0, z1⟩ := cl_at hb2'
  have hbx2 : Below w2.heap.size w2 (w2.alloc (.cells #[.string na, .int .i64 za, .string nb, .int .i64 zb] 49)) := (Below.refl _ _).alloc (Nat.le_refl _) _
  have hFq := HFa _ _ (Box.new w2 49 #[.string na, .int .i64 za, .string nb, .int .i64 zb])
  go_wp2_with fail
  refine hFq.mono ?_
  rintro e w3 ⟨b', rfl, hFr, hb3⟩
  have hb3 := hbx2.trans (hb3.mono hbx2.size)
  have hB3 := hB2.trans (hb3.mono hB2.size)
  have hx3 := hx2.below hb3 hx2.lt
  have ha3 := ha2.below hb3 ha2.lt
  have hb3' := hb2'.below hb3 hb2'.lt
  clear hx2 ha2 hb2' hb3 hbx2 hFq x0 x1 y0 y1 z0 z1
  cases b with
  | false =>
    go_wp2_with fail
    go_ret
    exact ⟨rfl, hB3⟩
  | true =>
  cases b' with
  | false =>
    go_wp2_with fail
    go_ret
    exact ⟨rfl, hB3⟩
  | true =>
  have hP1 := hSm rfl
  have hP2 := hFr rfl
  have hl100 := HSl hP1
  clear hSm hFr
  obtain ⟨x0, x1⟩ := im_at hx3
  obtain ⟨y0, y1⟩ := cl_at ha3
  obtain ⟨z0, z1⟩ := cl_at hb3'
  by_cases hab : na = nb
  · have dn : (na.toList == nb.toList) = true := by rw [beq_str]; simpa using hab
    clear hab
    go_wp2_with fail
    go_ret
    exact ⟨rfl, hB3⟩
  have dn : (na.toList == nb.toList) = false := by rw [beq_str]; simpa using hab
  have HAB := Lib.hid hab
  clear hab
  have hbx3 : Below w3.heap.size w3 (w3.alloc (.cells #[.string na, .int .i64 za, .string nb, .int .i64 zb] 49)) := (Below.refl _ _).alloc (Nat.le_refl _) _
  have hLq := HL1 hP1 hP2 _ _ (hB3.trans (hbx3.mono hB3.size)) (Box.new w3 49 #[.string na, .int .i64 za, .string nb, .int .i64 zb])
  go_wp2_with fail
  refine hLq.mono ?_
  rintro e w5 ⟨A5, c5, B5, d5, rfl, hO5, hb5⟩
  generalize hn5 : (ansI X).v.length = n5 at *
  generalize hm5 : (ansI X).bad.length = m5 at *
  have HN5 := Lib.hid hn5
  have HM5 := Lib.hid hm5
  clear hn5 hm5
  generalize hz : X.2 = z at *
  have HZ := Lib.hid hz
  clear hz
  have hbA5 := (hbx3.trans (hb5.mono hbx3.size)).alloc (Nat.le_trans hbx3.size hb5.size) (.cells #[.slice A5 n5 c5, .slice B5 m5 d5] 28)
  have hB5 := hB3.trans (hbA5.mono hB3.size)
  have hx5 := hx3.below hbA5 hx3.lt
  have ha5 := ha3.below hbA5 ha3.lt
  have hb5' := hb3'.below hbA5 hb3'.lt
  have hz5 := Box.new w5 28 #[.slice A5 n5 c5, .slice B5 m5 d5]
  have hO55 := hO5.below ((Below.refl _ _).alloc (Nat.le_refl _) (.cells #[.slice A5 n5 c5, .slice B5 m5 d5] 28))
  clear hx3 ha3 hb3' hO5 hb5 hbA5 hbx3 hLq x0 x1 y0 y1 z0 z1
  generalize hW5 : w5.alloc (.cells #[.slice A5 n5 c5, .slice B5 m5 d5] 28) = W5 at *
  have hp5 : W5.heap.size = w5.heap.size + 1 := by rw [← hW5]; simp
  obtain ⟨x0, x1⟩ := im_at hx5
  obtain ⟨y0, y1⟩ := cl_at ha5
  obtain ⟨z0, z1⟩ := cl_at hb5'
  have hbx5 : Below W5.heap.size W5 (W5.alloc (.cells #[.string nb, .int .i64 zb, .string na, .int .i64 za] 49)) := (Below.refl _ _).alloc (Nat.le_refl _) _
  have hLq := HL2 hP1 hP2 HAB.out _ _ (hB5.trans (hbx5.mono hB5.size)) (Box.new W5 49 #[.string nb, .int .i64 zb, .string na, .int .i64 za])
  rw [hp5] at hLq
  go_wp2_with fail
  refine hLq.mono ?_
  rintro e w6 hP6
  clear hW5
  obtain ⟨A6, c6, B6, d6, rfl, hO6, hb6⟩ := of_len hP6 HN5.out HM5.out HZ.out
  clear hP6
  have hbA6 := (hbx5.trans (hb6.mono hbx5.size)).alloc (Nat.le_trans hbx5.size hb6.size) (.cells #[.slice A6 n5 c6, .slice B6 m5 d6] 28)
  have hB6 := hB5.trans (hbA6.mono hB5.size)
  have hx6 := hx5.below hbA6 hx5.lt
  have ha6 := ha5.below hbA6 ha5.lt
  have hb6' := hb5'.below hbA6 hb5'.lt
  have hz6 := hz5.below hbA6 hz5.lt
  have hO56 := hO55.below hbA6
  have hv6 := Box.new w6 28 #[.slice A6 n5 c6, .slice B6 m5 d6]
  have hO66 := hO6.below ((Below.refl _ _).alloc (Nat.le_refl _) (.cells #[.slice A6 n5 c6, .slice B6 m5 d6] 28))
  clear hx5 ha5 hb5' hz5 hO55 hO6 hb6 hbA6 hbx5 hLq x0 x1 y0 y1 z0 z1
  obtain ⟨x0, x1⟩ := im_at hz6
  obtain ⟨y0, y1⟩ := im_at hv6
  have hS := HS2 hP2 _ A5 c5 B5 d5 A6 c6 B6 d6 _ _ hO56 hO66
  clear hO66 hv6
  go_wp2_with fail
  refine hS.mono ?_
  rintro e w8 ⟨rfl, hb8⟩
  have hB8 := hB6.trans (hb8.mono hB6.size)
  have hx8 := hx6.below hb8 hx6.lt
  have ha8 := ha6.below hb8 ha6.lt
  have hb8' := hb6'.below hb8 hb6'.lt
  have hz8 := hz6.below hb8 hz6.lt
  have hO58 := hO56.below hb8
  clear hx6 ha6 hb6' hz6 hO56 hb8 hS x0 x1 y0 y1 HS2 HL1 HL2 HFa HSm
  obtain ⟨x0, x1⟩ := im_at hz8
  rcases HWy2.out with ⟨z', rfl, hz'⟩ | ⟨x, rfl, hxv, hxb, hin, him, hkeep⟩
  · have hzz : Hid (z' = z) := HZ.out
    have h05 : Hid (0 = n5) := HN5.out
    have hzne : (z != (0 : Int)) = true := by
      have := hzz.out
      simp
      omega
    have hn50 : ((n5 : Nat) : Int) = 0 := by have := h05.out; omega
    have hdec : (((n5 : Nat) : Int) == 0) = true := by simpa using hn50
    clear hn50 hz'
    go_wp2_with fail
    go_ret
    exact ⟨rfl, hB8⟩
  · have hz0 : Hid (0 = z) := HZ.out
    have hzeq : (z != (0 : Int)) = false := by
      have := hz0.out
      simp
      omega
    have HKp := Lib.hid hkeep
    have HXv := Lib.hid hxv
    have HXb := Lib.hid hxb
    have HIn := Lib.hid hin
    have HIm := Lib.hid him
    have hln : Hid (len = n5) := by unfold Hid; have := HN5.out; rw [← this, ← hxv]; rfl
    have hlm : Hid (len = m5) := by unfold Hid; have := HM5.out; rw [← this, ← hxb]; rfl
    clear hkeep hxv hxb hin him
    go_wp2_with fail
    go_loopw [17] (fun i wr => ∃ k : Nat, k ≤ len ∧ i = .int .i64 k ∧ Hid (Box wr w.heap.size 28 #[.slice A n c, .slice B m d]) ∧ Hid (Box wr (w.heap.size + 1) 49 #[.string na, .int .i64 za]) ∧ Hid (Box wr (w.heap.size + 1 + 1) 49 #[.string nb, .int .i64 zb]) ∧ Hid (Box wr w5.heap.size 28 #[.slice A5 n5 c5, .slice B5 m5 d5]) ∧ Hid (OwnIm _ wr x A5 c5 B5 d5) ∧ Below w.heap.size w wr) (fun i _ => len - (intOf i).toNat)
    case atStart => exact ⟨0, by omega, rfl, hx8, ha8, hb8', hz8, hO58, hB8⟩
    case round =>
      obtain ⟨k, hkl, rfl, HX, HA, HBb, HZb, HO, hbr⟩ := hrel
      obtain ⟨p0, p1⟩ := im_at HX.out
      obtain ⟨q0, -⟩ := cl_at HA.out
      obtain ⟨r0, -⟩ := cl_at HBb.out
      obtain ⟨s0, s1⟩ := im_at HZb.out
      by_cases hlt : k < len
      · have hki : k < l.length := by rw [HL.out]; exact hlt
        obtain ⟨g, off, rfl, hg, c0, -, -, -⟩ := Tags.at4 (RowF.below HT.out hbr) hki
        have HKk := Lib.hid (HKp.out k l[k] (List.getElem?_eq_getElem hki))
        generalize l[k] = t at *
        obtain ⟨nm, tout, lo, hi⟩ := t
        simp only at *
        by_cases h1 : nm = na
        · have d1 : (nm.toList == na.toList) = true := by rw [beq_str]; simpa using h1
          clear h1 HKk
          go_wp2_with fail
          go_quiet (fail)
          go_wp2_with fail
          go_roundw
          case rel => exact ⟨k + 1, hlt, by go_num, HX.out.drewN _, HA.out.drewN _, HBb.out.drewN _, HZb.out.drewN _, own_drew HO.out _, below_drewN hbr _⟩
          case measure => simp [intOf]; omega
        · have d1 : (nm.toList == na.toList) = false := by rw [beq_str]; simpa using h1
          by_cases h2 : nm = nb
          · have d2 : (nm.toList == nb.toList) = true := by rw [beq_str]; simpa using h2
            clear h1 h2 HKk
            go_wp2_with fail
            go_quiet (fail)
            go_wp2_with fail
            go_roundw
            case rel => exact ⟨k + 1, hlt, by go_num, HX.out.drewN _, HA.out.drewN _, HBb.out.drewN _, HZb.out.drewN _, own_drew HO.out _, below_drewN hbr _⟩
            case measure => simp [intOf]; omega
          · have d2 : (nm.toList == nb.toList) = false := by rw [beq_str]; simpa using h2
            obtain ⟨e1, e2⟩ := HKk.out h1 h2
            clear h1 h2 HKk
            have hkv : k < x.v.length := by have := HXv.out; omega
            have hkb : k < x.bad.length := by have := HXb.out; omega
            have hiv : k < im.v.length := by have := HN.out; have := HIn.out; have := HL.out; omega
            have hib : k < im.bad.length := by have := HM.out; have := HIm.out; have := HL.out; omega
            rw [List.getElem?_eq_getElem hkv, List.getElem?_eq_getElem hiv] at e1
            rw [List.getElem?_eq_getElem hkb, List.getElem?_eq_getElem hib] at e2
            injection e1 with e1
            injection e2 with e2
            obtain ⟨gx, ox, rfl, hgx, cx⟩ := Nums.at1 HO.out.nums hkv
            obtain ⟨gy, oy, rfl, hgy, cy⟩ := Flags.at1 HO.out.flags hkb
            obtain ⟨gi, oi, rfl, hgi, ci⟩ := Nums.at1 (RowF.below HV.out hbr) hiv
            obtain ⟨gj, oj, rfl, hgj, cj⟩ := Flags.at1 (RowF.below HB.out hbr) hib
            rw [e1] at cx
            rw [e2] at cy
            clear e1 e2
            generalize im.v[k] = xi at *
            generalize im.bad[k] = xb at *
            have hkn : ((k : Nat) : Int) < (n : Int) := by have := HIn.out; have := HL.out; omega
            have hkm : ((k : Nat) : Int) < (m : Int) := by have := HIm.out; have := HL.out; omega
            have hkn5 : ((k : Nat) : Int) < (n5 : Int) := by have := hln.out; omega
            have hkm5 : ((k : Nat) : Int) < (m5 : Int) := by have := hlm.out; omega
            go_wp2_with fail
            go_quiet (fail)
            go_wp2_with fail
            go_roundw
            case rel => exact ⟨k + 1, hlt, by go_num, HX.out.drewN _, HA.out.drewN _, HBb.out.drewN _, HZb.out.drewN _, own_drew HO.out _, below_drewN hbr _⟩
            case measure => simp [intOf]; omega
      · go_wp2_with fail
        go_ret
        exact ⟨rfl, hbr⟩
end Go.Proofs.Ytcapdekfbhbkiaa.Tg
