/-
  The walk of TagsChecks: whatever is handed in, the law answers true.
-/
import Derived.Test.YtcapdekfbhbkiaaTgR6
import Derived.Test.YtcapdekfbhbkiaaTgW7
namespace Go.Proofs.Ytcapdekfbhbkiaa.Tg
open Go.RowKit Lx

theorem newT_len (l : List Tg) {N : Nat} (hl : l.length ≤ N) : (ansI (newT l)).v.length ≤ N ∧ (ansI (newT l)).bad.length ≤ N := by
  unfold newT
  split
  · exact ⟨by simpa [ansI, newI] using hl, by simpa [ansI, newI] using hl⟩
  · exact ⟨Nat.zero_le _, Nat.zero_le _⟩

set_option maxRecDepth 100000 in
set_option maxHeartbeats 8000000 in
theorem checksW (a : Option Addr) (l : List Tg) (cap : Nat) (s : ByteArray) (w : World) (hcap : l.length ≤ cap) (hT : Tags w a l) (_ : ∀ x ∈ l, x.fits) (hs0 : s.size ≤ maxLen) :
    Calls Try.prog 3 #[.slice a l.length cap, .string s] w fun e w' => e = .returned (.bool true) ∧ Below w.heap.size w w' := by
  have HT := Lib.hid hT
  clear hT
  have HSm : ∀ w1, Below w.heap.size w w1 → Calls Try.prog 10 #[.slice a l.length cap] w1 (Tells (SmallP l) w1) := fun w1 hb => small_any l a cap w1 (RowF.below HT.out hb)
  have HNw : SmallP l → ∀ w1, Below w.heap.size w w1 → Calls Try.prog 11 #[.slice a l.length cap] w1 (ImPost (newT l) w1) := fun h1 w1 hb => New_any l a cap w1 (Nat.le_trans h1.1 (by omega)) hcap (RowF.below HT.out hb)
  have HRw : SmallP l → ∀ w1, Below w.heap.size w w1 → Calls Try.prog 12 #[.slice a l.length cap] w1 (ImPost (newT l) w1) := fun h1 w1 hb => refNew_any l a cap w1 (Nat.le_trans h1.1 (by omega)) (fun t ht => Nat.le_trans (h1.2 t ht) (by omega)) (RowF.below HT.out hb)
  have HCk : SmallP l → ∀ w1, Below w.heap.size w w1 → Calls Try.prog 14 #[.slice a l.length cap] w1 fun e w' => e = .returned (.int .i64 (checkT l)) ∧ Below w1.heap.size w1 w' := fun h1 w1 hb => Check_any l a cap w1 (Nat.le_trans h1.1 (by omega)) hcap (RowF.below HT.out hb)
  have HRc : SmallP l → ∀ w1, Below w.heap.size w w1 → Calls Try.prog 15 #[.slice a l.length cap] w1 fun e w' => e = .returned (.int .i64 (checkT l)) ∧ Below w1.heap.size w1 w' := fun h1 w1 hb => refCheck_any l a cap w1 (Nat.le_trans h1.1 (by omega)) (fun t ht => Nat.le_trans (h1.2 t ht) (by omega)) (RowF.below HT.out hb)
  have HFd : SmallP l → ∀ w1, Below w.heap.size w w1 → Calls Try.prog 16 #[.slice a l.length cap, .string s] w1 fun e w' => e = .returned (.int .i64 (findI l s)) ∧ Below w1.heap.size w1 w' := fun h1 w1 hb => Find_any l s a cap w1 (Nat.le_trans h1.1 (by omega)) (RowF.below HT.out hb)
  have HRf : SmallP l → ∀ w1, Below w.heap.size w w1 → Calls Try.prog 17 #[.slice a l.length cap, .string s] w1 fun e w' => e = .returned (.int .i64 (findI l s)) ∧ w1 = w' := fun h1 w1 hb => refFind_any l s a cap w1 (Nat.le_trans h1.1 (by omega)) (RowF.below HT.out hb)
  have HS2 : SmallP l → ∀ w1 A5 c5 B5 d5 A6 c6 B6 d6 base base', OwnIm base w1 (ansI (newT l)) A5 c5 B5 d5 → OwnIm base' w1 (ansI (newT l)) A6 c6 B6 d6 → Calls Try.prog 13 #[.agg #[.slice A5 (ansI (newT l)).v.length c5, .slice B5 (ansI (newT l)).bad.length d5], .agg #[.slice A6 (ansI (newT l)).v.length c6, .slice B6 (ansI (newT l)).bad.length d6]] w1 fun e w' => e = .returned (.bool true) ∧ Below w1.heap.size w1 w' := fun h1 w1 A5 c5 B5 d5 A6 c6 B6 d6 base base' ho5 ho6 => same_true _ A5 B5 A6 B6 c5 d5 c6 d6 w1 (Nat.le_trans (newT_len l h1.1).1 (by omega)) (Nat.le_trans (newT_len l h1.1).2 (by omega)) ho5.nums ho5.flags ho6.nums ho6.flags
  have hs1 : s.size ≤ 9223372036854775807 := by unfold maxLen at hs0; omega
  clear hs0
  generalize newT l = X at *
  generalize SmallP l = Ps at *
  generalize checkT l = ck at *
  generalize findI l s = fi at *
  generalize l.length = len at *
  go_enter Try.func3, Try.ntmps3
  go_wp2_with fail
  refine (awake_any _).mono ?_
  rintro e w1 ⟨rfl, hB1⟩
  go_wp2_with fail
  refine (HSm w1 hB1).mono ?_
  rintro e w2 ⟨b, rfl, hSm, hb2⟩
  have hB2 := hB1.trans (hb2.mono hB1.size)
  clear hb2
  cases b with
  | false =>
    go_wp2_with fail
    go_ret
    exact ⟨rfl, hB2⟩
  | true =>
  have hP1 := hSm rfl
  clear hSm
  by_cases h200 : 200 < s.size
  · go_wp2_with fail
    go_ret
    exact ⟨rfl, hB2⟩
  have h200' : s.size ≤ 200 := by omega
  clear h200
  go_wp2_with fail
  refine (HNw hP1 w2 hB2).mono ?_
  rintro e w5 ⟨A5, c5, B5, d5, rfl, hO5, hb5⟩
  generalize hn5 : (ansI X).v.length = n5 at *
  generalize hm5 : (ansI X).bad.length = m5 at *
  have HN5 := Lib.hid hn5
  have HM5 := Lib.hid hm5
  clear hn5 hm5
  generalize hz : X.2 = z at *
  have HZ := Lib.hid hz
  clear hz
  have hbA5 := hb5.alloc hb5.size (.cells #[.slice A5 n5 c5, .slice B5 m5 d5] 28)
  have hB5 := hB2.trans (hbA5.mono hB2.size)
  have hz5 := Box.new w5 28 #[.slice A5 n5 c5, .slice B5 m5 d5]
  have hO55 := hO5.below ((Below.refl _ _).alloc (Nat.le_refl _) (.cells #[.slice A5 n5 c5, .slice B5 m5 d5] 28))
  clear hO5 hb5 hbA5
  go_wp2_with fail
  refine (HRw hP1 _ hB5).mono ?_
  rintro e w6 hP6
  obtain ⟨A6, c6, B6, d6, rfl, hO6, hb6⟩ := of_len hP6 HN5.out HM5.out HZ.out
  clear hP6
  have hbA6 := hb6.alloc hb6.size (.cells #[.slice A6 n5 c6, .slice B6 m5 d6] 28)
  have hB6 := hB5.trans (hbA6.mono hB5.size)
  have hz6 := hz5.below hbA6 hz5.lt
  have hO56 := hO55.below hbA6
  have hv6 := Box.new w6 28 #[.slice A6 n5 c6, .slice B6 m5 d6]
  have hO66 := hO6.below ((Below.refl _ _).alloc (Nat.le_refl _) (.cells #[.slice A6 n5 c6, .slice B6 m5 d6] 28))
  clear hz5 hO55 hO6 hb6 hbA6
  obtain ⟨x0, x1⟩ := im_at hz6
  obtain ⟨y0, y1⟩ := im_at hv6
  have hS := HS2 hP1 _ A5 c5 B5 d5 A6 c6 B6 d6 _ _ hO56 hO66
  clear hO56 hO66 hz6 hv6
  go_wp2_with fail
  refine hS.mono ?_
  rintro e w8 ⟨rfl, hb8⟩
  have hB8 := hB6.trans (hb8.mono hB6.size)
  clear hS x0 x1 y0 y1
  go_wp2_with fail
  refine (HCk hP1 _ hB8).mono ?_
  rintro e w9 ⟨rfl, hb9⟩
  have hB9 := hB8.trans (hb9.mono hB8.size)
  go_wp2_with fail
  refine (HRc hP1 _ hB9).mono ?_
  rintro e w10 ⟨rfl, hb10⟩
  have hB10 := hB9.trans (hb10.mono hB9.size)
  go_wp2_with fail
  refine (HFd hP1 _ hB10).mono ?_
  rintro e w11 ⟨rfl, hb11⟩
  have hB11 := hB10.trans (hb11.mono hB10.size)
  go_wp2_with fail
  refine (HRf hP1 _ hB11).mono ?_
  rintro e w12 ⟨rfl, rfl⟩
  go_wp2_with fail
  go_ret
  exact ⟨ret_bool (by simp), hB11⟩
end Go.Proofs.Ytcapdekfbhbkiaa.Tg
