/-
  The walk of TagsLatches: whatever is handed in, the law answers true.
-/
import Derived.Test.YtcapdekfbhbkiaaTgR5
import Derived.Test.YtcapdekfbhbkiaaTgW6
namespace Go.Proofs.Ytcapdekfbhbkiaa.Tg
open Go.RowKit Lx

set_option maxRecDepth 100000 in
set_option maxHeartbeats 8000000 in
theorem latchesW (a : Option Addr) (l : List Tg) (cap : Nat) (im : Im) (A B : Option Addr) (c d : Nat) (ca : Option Addr) (cs : List Cl) (ccap : Nat) (w : World) (hcap : l.length ≤ cap) (hT : Tags w a l) (_ : ∀ x ∈ l, x.fits) (hV : Nums w A im.v) (hB : Flags w B im.bad) (_ : cs.length ≤ ccap) (hC : Cells w ca cs) (_ : ∀ x ∈ cs, wide x.2) :
    Calls Try.prog 4 #[.slice a l.length cap, .agg #[.slice A im.v.length c, .slice B im.bad.length d], .slice ca cs.length ccap] w fun e w' => e = .returned (.bool true) ∧ Below w.heap.size w w' := by
  have hx0 := Box.new w 28 #[.slice A im.v.length c, .slice B im.bad.length d]
  have hB0 : Below w.heap.size w (w.alloc (.cells #[.slice A im.v.length c, .slice B im.bad.length d] 28)) := (Below.refl _ w).alloc (Nat.le_refl _) _
  have HT := Lib.hid hT
  have HV := Lib.hid hV
  have HB := Lib.hid hB
  have HC := Lib.hid hC
  clear hT hV hB hC
  have HSm : ∀ w1, Below w.heap.size w w1 → Calls Try.prog 10 #[.slice a l.length cap] w1 (Tells (SmallP l) w1) := fun w1 hb => small_any l a cap w1 (RowF.below HT.out hb)
  have HFa : ∀ w1, Below w.heap.size w w1 → Calls Try.prog 18 #[.agg #[.slice A im.v.length c, .slice B im.bad.length d], .slice ca cs.length ccap] w1 (Tells (FairP im cs) w1) := fun w1 hb => fair_any im cs A B ca c d ccap w1 (RowF.below HC.out hb)
  have HLt : SmallP l → FairP im cs → ∀ w1 A4 c4 B4 d4, Below w.heap.size w w1 → Nums w1 A4 im.v → Flags w1 B4 im.bad → Calls Try.prog 20 #[.slice a l.length cap, .agg #[.slice A4 im.v.length c4, .slice B4 im.bad.length d4], .slice ca cs.length ccap] w1 (ImPost (tellT l im cs false) w1) := fun h1 h2 w1 A4 c4 B4 d4 hb hv hf => Latch_any l im cs a A4 B4 ca cap c4 d4 ccap w1 (Nat.le_trans h1.1 (by omega)) (Nat.le_trans h2.1 (by omega)) (Nat.le_trans h2.2.1 (by omega)) (Nat.le_trans h2.2.2.1 (by omega)) hcap (RowF.below HT.out hb) hv hf (RowF.below HC.out hb)
  have HRf : SmallP l → FairP im cs → ∀ w1, Below w.heap.size w w1 → Calls Try.prog 21 #[.slice a l.length cap, .agg #[.slice A im.v.length c, .slice B im.bad.length d], .slice ca cs.length ccap] w1 (ImPost (tellT l im cs false) w1) := fun h1 h2 w1 hb => refLatch_any l im cs a A B ca cap c d ccap w1 (Nat.le_trans h1.1 (by omega)) (Nat.le_trans h2.1 (by omega)) (Nat.le_trans h2.2.1 (by omega)) (Nat.le_trans h2.2.2.1 (by omega)) (fun t ht => Nat.le_trans (h1.2 t ht) (by omega)) (RowF.below HT.out hb) (RowF.below HV.out hb) (RowF.below HB.out hb) (RowF.below HC.out hb)
  have HCp : FairP im cs → ∀ w1, Below w.heap.size w w1 → Calls Try.prog 19 #[.agg #[.slice A im.v.length c, .slice B im.bad.length d]] w1 (CopyPost im im.v.length im.bad.length w1) := fun h2 w1 hb => copy_any im A B c d _ _ w1 rfl rfl (Nat.le_trans h2.1 (by omega)) (Nat.le_trans h2.2.1 (by omega)) (RowF.below HV.out hb) (RowF.below HB.out hb)
  have HS1 : FairP im cs → ∀ w1 A4 c4 B4 d4, Below w.heap.size w w1 → Nums w1 A4 im.v → Flags w1 B4 im.bad → Calls Try.prog 13 #[.agg #[.slice A4 im.v.length c4, .slice B4 im.bad.length d4], .agg #[.slice A im.v.length c, .slice B im.bad.length d]] w1 fun e w' => e = .returned (.bool true) ∧ Below w1.heap.size w1 w' := fun h2 w1 A4 c4 B4 d4 hb hv hf => same_true im A4 B4 A B c4 d4 c d w1 (Nat.le_trans h2.1 (by omega)) (Nat.le_trans h2.2.1 (by omega)) hv hf (RowF.below HV.out hb) (RowF.below HB.out hb)
  have HLen : FairP im cs → (ansI (tellT l im cs false)).v.length ≤ 1000000 ∧ (ansI (tellT l im cs false)).bad.length ≤ 1000000 := fun h2 => tell_small l im cs false (Nat.le_trans h2.1 (by omega)) (Nat.le_trans h2.2.1 (by omega))
  have HS2 : FairP im cs → ∀ w1 A5 c5 B5 d5 A6 c6 B6 d6 base base', OwnIm base w1 (ansI (tellT l im cs false)) A5 c5 B5 d5 → OwnIm base' w1 (ansI (tellT l im cs false)) A6 c6 B6 d6 → Calls Try.prog 13 #[.agg #[.slice A5 (ansI (tellT l im cs false)).v.length c5, .slice B5 (ansI (tellT l im cs false)).bad.length d5], .agg #[.slice A6 (ansI (tellT l im cs false)).v.length c6, .slice B6 (ansI (tellT l im cs false)).bad.length d6]] w1 fun e w' => e = .returned (.bool true) ∧ Below w1.heap.size w1 w' := fun h2 w1 A5 c5 B5 d5 A6 c6 B6 d6 base base' ho5 ho6 => same_true _ A5 B5 A6 B6 c5 d5 c6 d6 w1 (HLen h2).1 (HLen h2).2 ho5.nums ho5.flags ho6.nums ho6.flags
  clear HLen
  generalize tellT l im cs false = X at *
  generalize SmallP l = Ps at *
  generalize FairP im cs = Pf at *
  generalize l.length = len at *
  generalize hn : im.v.length = n at *
  have HN := Lib.hid hn
  clear hn
  generalize hm : im.bad.length = m at *
  have HM := Lib.hid hm
  clear hm
  generalize cs.length = len2 at *
  go_enter Try.func4, Try.ntmps4
  go_wp2_with fail
  refine (awake_any _).mono ?_
  rintro e w1 ⟨rfl, hb1⟩
  have hB1 := below_new hb1
  have hx1 := hx0.below hb1 hx0.lt
  clear hx0 hB0 hb1
  go_wp2_with fail
  refine (HSm w1 hB1).mono ?_
  rintro e w2 ⟨b, rfl, hSm, hb2⟩
  have hB2 := hB1.trans (hb2.mono hB1.size)
  have hx2 := hx1.below hb2 hx1.lt
  clear hx1 hb2
  obtain ⟨x0, x1⟩ := im_at hx2
  go_wp2_with fail
  refine (HFa w2 hB2).mono ?_
  rintro e w3 ⟨b', rfl, hFr, hb3⟩
  have hB3 := hB2.trans (hb3.mono hB2.size)
  have hx3 := hx2.below hb3 hx2.lt
  clear hx2 hb3 x0 x1
  cases b with
  | false =>
    go_wp2_with fail
    go_ret
    exact ⟨rfl, hB3⟩
  | true =>
  cases b' with
  | false =>
    go_wp2_with fail
    go_ret
    exact ⟨rfl, hB3⟩
  | true =>
  have hP1 := hSm rfl
  have hP2 := hFr rfl
  clear hSm hFr
  obtain ⟨x0, x1⟩ := im_at hx3
  go_wp2_with fail
  refine (HCp hP2 w3 hB3).mono ?_
  rintro e w4 ⟨A4, c4, B4, d4, rfl, hO4, hb4⟩
  have hbA4 : Below w3.heap.size w3 (w4.alloc (.cells #[.slice A4 n c4, .slice B4 m d4] 28)) := hb4.alloc hb4.size _
  have hB4 := hB3.trans (hbA4.mono hB3.size)
  have hx4 := hx3.below hbA4 hx3.lt
  have hy4 := Box.new w4 28 #[.slice A4 n c4, .slice B4 m d4]
  have hO4' := hO4.below ((Below.refl _ _).alloc (Nat.le_refl _) (.cells #[.slice A4 n c4, .slice B4 m d4] 28))
  clear hx3 hO4 hb4 hbA4 x0 x1
  go_wp2_with fail
  refine (HLt hP1 hP2 _ A4 c4 B4 d4 hB4 hO4'.nums hO4'.flags).mono ?_
  rintro e w5 ⟨A5, c5, B5, d5, rfl, hO5, hb5⟩
  generalize hn5 : (ansI X).v.length = n5 at *
  generalize hm5 : (ansI X).bad.length = m5 at *
  have HN5 := Lib.hid hn5
  have HM5 := Lib.hid hm5
  clear hn5 hm5
  generalize hz : X.2 = z at *
  have HZ := Lib.hid hz
  clear hz
  have hbA5 := hb5.alloc hb5.size (.cells #[.slice A5 n5 c5, .slice B5 m5 d5] 28)
  have hB5 := hB4.trans (hbA5.mono hB4.size)
  have hx5 := hx4.below hbA5 hx4.lt
  have hy5 := hy4.below hbA5 hy4.lt
  have hO45 := hO4'.below hbA5
  have hz5 := Box.new w5 28 #[.slice A5 n5 c5, .slice B5 m5 d5]
  have hO55 := hO5.below ((Below.refl _ _).alloc (Nat.le_refl _) (.cells #[.slice A5 n5 c5, .slice B5 m5 d5] 28))
  clear hx4 hy4 hO4' hO5 hb5 hbA5
  obtain ⟨x0, x1⟩ := im_at hx5
  go_wp2_with fail
  refine (HRf hP1 hP2 _ hB5).mono ?_
  rintro e w6 hP6
  obtain ⟨A6, c6, B6, d6, rfl, hO6, hb6⟩ := of_len hP6 HN5.out HM5.out HZ.out
  clear hP6
  have hbA6 := hb6.alloc hb6.size (.cells #[.slice A6 n5 c6, .slice B6 m5 d6] 28)
  have hB6 := hB5.trans (hbA6.mono hB5.size)
  have hx6 := hx5.below hbA6 hx5.lt
  have hy6 := hy5.below hbA6 hy5.lt
  have hz6 := hz5.below hbA6 hz5.lt
  have hO46 := hO45.below hbA6
  have hO56 := hO55.below hbA6
  have hv6 := Box.new w6 28 #[.slice A6 n5 c6, .slice B6 m5 d6]
  have hO66 := hO6.below ((Below.refl _ _).alloc (Nat.le_refl _) (.cells #[.slice A6 n5 c6, .slice B6 m5 d6] 28))
  clear hx5 hy5 hz5 hO45 hO55 hO6 hb6 hbA6 x0 x1
  obtain ⟨x0, x1⟩ := im_at hx6
  obtain ⟨y0, y1⟩ := im_at hy6
  go_wp2_with fail
  refine (HS1 hP2 _ A4 c4 B4 d4 hB6 hO46.nums hO46.flags).mono ?_
  rintro e w7 ⟨rfl, hb7⟩
  have hB7 := hB6.trans (hb7.mono hB6.size)
  have hz7 := hz6.below hb7 hz6.lt
  have hv7 := hv6.below hb7 hv6.lt
  have hO57 := hO56.below hb7
  have hO67 := hO66.below hb7
  clear hx6 hy6 hz6 hv6 hO46 hO56 hO66 hb7 x0 x1 y0 y1
  obtain ⟨x0, x1⟩ := im_at hz7
  obtain ⟨y0, y1⟩ := im_at hv7
  have hS := HS2 hP2 w7 A5 c5 B5 d5 A6 c6 B6 d6 _ _ hO57 hO67
  clear hO57 hO67 hz7 hv7
  go_wp2_with fail
  refine hS.mono ?_
  rintro e w8 ⟨rfl, hb8⟩
  have hB8 := hB7.trans (hb8.mono hB7.size)
  go_wp2_with fail
  go_ret
  exact ⟨ret_bool (by simp), hB8⟩
end Go.Proofs.Ytcapdekfbhbkiaa.Tg
