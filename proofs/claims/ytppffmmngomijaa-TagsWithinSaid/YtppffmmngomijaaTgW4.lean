/-
  Contracts of draft.store, change, Latch and Drive.
-/
import Derived.Test.YtppffmmngomijaaTgW3
namespace Go.Proofs.Ytppffmmngomijaa.Tg
open Go.RowKit Lx

set_option maxRecDepth 100000 in
set_option maxHeartbeats 2000000 in
theorem store_any (base : Nat) (l : List Tg) (im : Im) (a A B : Option Addr) (cap c d i : Nat) (n : Int) (w : World) (h : OwnIm base w im A c B d) (hT : Tags w a l) (hi0 : i < l.length) (hi : i < im.v.length) (hi2 : i < im.bad.length) (_hl : l.length ≤ 1000000) (hn : im.v.length ≤ 1000000) (hm : im.bad.length ≤ 1000000) (hle : l[i].lo ≤ l[i].hi) :
    Calls Try.prog 45 #[.agg #[.slice A im.v.length c, .slice B im.bad.length d, .slice a l.length cap], .int .i64 (i : Int), .int .i64 n] w fun e w' => e = .returned (.tuple #[]) ∧ OwnIm base w' (im.put i (nearZ l[i] n) (!l[i].out && decide (nearZ l[i] n ≠ n))) A c B d ∧ Fr (Bk A B) w w' := by
  obtain ⟨g, off, rfl, hg, c0, c1, c2, c3⟩ := Tags.at4 hT hi0
  have HH := Lib.hid h
  have HLm : ∀ w2, Calls Try.prog 30 #[.agg #[.string l[i].nm, .bool l[i].out, .int .i64 l[i].lo, .int .i64 l[i].hi], .int .i64 n] w2 fun e w' => e = .returned (.int .i64 (nearZ l[i] n)) ∧ Below w2.heap.size w2 w' := fun w2 => by
    have h := limit_any l[i] n w2
    rw [near_eq _ _ hle] at h
    exact h
  have HS : ∀ (z : Int) (b : Bool) (w2 : World), Below w.heap.size w w2 → Calls Try.prog 47 #[.agg #[.slice A im.v.length c, .slice B im.bad.length d], .int .i64 (i : Int), .int .i64 z, .bool b] w2 fun e w' => e = .returned (.tuple #[]) ∧ OwnIm base w' (im.put i z b) A c B d ∧ Fr (Bk A B) w2 w' := fun z b w2 hb2 => set_any base im A B c d i z b w2 (HH.out.below hb2) hi hi2 hn hm
  clear h hT hle
  have HP : ∀ z b, Hid (im.put i z b = im.put i z b) := fun _ _ => rfl
  generalize hz : nearZ l[i] n = z at *
  clear hz
  generalize hB : (!l[i].out && decide (z ≠ n)) = bb at *
  have HBB := Lib.hid hB
  clear hB
  generalize l[i] = t at *
  obtain ⟨nm, out, lo, hi'⟩ := t
  simp only at *
  generalize hL : l.length = len at *
  clear hL
  have hi0' : ((i : Nat) : Int) < (len : Int) := by omega
  clear HP
  generalize im.v.length = n1 at *
  generalize im.bad.length = m1 at *
  go_enter Try.func45, Try.ntmps45
  go_wp2_with fail
  refine (HLm _).mono ?_
  rintro e w1 ⟨rfl, hb1⟩
  have hb0 := below_new (below_new hb1)
  have hx := ((Box.new w 71 #[.slice A n1 c, .slice B m1 d, .slice (some ⟨g, off, none⟩) len cap]).alloc (.cells #[.string nm, .bool out, .int .i64 lo, .int .i64 hi'] 51)).below hb1 (by simp only [World.alloc, Array.size_push]; omega)
  have hy := (box_at (w := w.alloc (.cells #[.slice A n1 c, .slice B m1 d, .slice (some ⟨g, off, none⟩) len cap] 71)) (N := w.heap.size + 1) (t := 51) (cs := #[.string nm, .bool out, .int .i64 lo, .int .i64 hi']) (by simp)).below hb1 (by simp only [World.alloc, Array.size_push]; omega)
  have e0 := hx.cell 0
  have e1 := hx.cell 1
  have e2 := hx.cell 2
  have f1 := hy.cell 1
  simp at e0 e1 e2 f1
  clear hx hy c0 c1 c2 c3
  cases out with
  | true =>
    have hbb : Hid (false = bb) := by unfold Hid; rw [← HBB.out]; rfl
    go_wp2_with (go_at_call 47; refine (HS _ _ _ hb0).mono ?_; rintro e w2 ⟨rfl, ho, hb2⟩)
    go_end0
    exact ⟨rfl, hbb.out ▸ ho, (Fr.of_below hb0).trans hb2⟩
  | false =>
    by_cases hzn : z = n
    · have hbb : Hid (false = bb) := by unfold Hid; rw [← HBB.out]; simp [hzn]
      have hq : (z != n) = false := by simpa using hzn
      clear hzn
      go_wp2_with (go_at_call 47; refine (HS _ _ _ hb0).mono ?_; rintro e w2 ⟨rfl, ho, hb2⟩)
      go_end0
      exact ⟨rfl, hbb.out ▸ ho, (Fr.of_below hb0).trans hb2⟩
    · have hbb : Hid (true = bb) := by unfold Hid; rw [← HBB.out]; simp [hzn]
      have hq : (z != n) = true := by simpa using hzn
      clear hzn
      go_wp2_with (go_at_call 47; refine (HS _ _ _ hb0).mono ?_; rintro e w2 ⟨rfl, ho, hb2⟩)
      go_end0
      exact ⟨rfl, hbb.out ▸ ho, (Fr.of_below hb0).trans hb2⟩
end Go.Proofs.Ytppffmmngomijaa.Tg
