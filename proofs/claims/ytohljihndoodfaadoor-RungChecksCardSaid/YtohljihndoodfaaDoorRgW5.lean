/-
  Contracts of the checker's rung, of check, among and Check.
-/
import Derived.Test.YtohljihndoodfaaDoorRgW4
namespace Go.Proofs.YtohljihndoodfaaDoor.Rg
open Go.RowKit Lx Ep

theorem name_any (x : Nm) (w : World) : Calls Tryd.prog 49 #[.string ⟨x.toArray⟩] w fun e w' => e = .returned (.bool (nameB x)) ∧ Below w.heap.size w w' := Name_any ⟨x.toArray⟩ w
theorem rungP_0 {bits : List Nm} {tag phase : Nm → Bool} {r : Ru} (h : r.kd < 0 ∨ 4 < r.kd ∨ nameB r.nm = false) : rungP bits tag phase r = 1 := by unfold rungP; rw [if_pos h]
theorem rungP_1 {bits : List Nm} {tag phase : Nm → Bool} {r : Ru} (h0 : ¬ r.kd < 0) (h4 : ¬ 4 < r.kd) (hn : nameB r.nm = true) : rungP bits tag phase r = if 3 ≤ r.kd ∧ phase r.nm = false then 21 else if 12 < r.code.length then 2 else codeGo bits tag 0 r.code := by
  unfold rungP; rw [if_neg (by rw [hn]; simp; omega)]

set_option maxRecDepth 100000 in
set_option maxHeartbeats 4000000 in
theorem rung_1 (r : Ru) (BA : Option Addr) (bits : List Nm) (bc : Nat) (ft : Nat) (bt : Array Value) (tag : Nm → Bool) (w : World) (hT : Tabs w) (hC : Code w r.ca r.code) (hK : Known w ft bt tag) (hB : Strs w BA bits) (hl : bits.length ≤ 1000000) :
    Calls Tryd.prog 35 #[chkV BA bits.length bc ft bt 31 #[], ruV r] w (IntPost (rungP bits tag (yes) r) w) := by
  have HCo : Hid (r.code.length ≤ 12 → ∀ wx, Below w.heap.size w wx → Calls Tryd.prog 50 #[chkV BA bits.length bc ft bt 31 #[], .slice r.ca r.code.length r.cc] wx (IntPost (codeGo bits tag 0 r.code) wx)) := fun h12 wx hb => code_any r.code r.ca r.cc BA bits bc ft bt 31 #[] tag wx (hT.below hb) (hC.below hb) (hK.below hb) (hB.below hb) hl (by omega)
  have hNa := fun wx => name_any r.nm wx
  have hKn : ∀ (x : Nm) wx, Below w.heap.size w wx → Calls Tryd.prog 31 #[.string ⟨x.toArray⟩] wx fun e w' => e = .returned (.bool (yes x)) ∧ Below wx.heap.size wx w' := fun x wx _ => always_any x wx
  have HNa := Lib.hid hNa
  have HKn := Lib.hid hKn
  have HE0 := Lib.hid (@rungP_0 bits tag (yes) r)
  have HE1 := Lib.hid (@rungP_1 bits tag (yes) r)
  clear hNa hKn hT hC hK hB
  unfold chkV ruV at *
  generalize hn : bits.length = n at *
  clear hn hl
  generalize rungP bits tag (yes) r = X at *
  generalize codeGo bits tag 0 r.code = Y at *
  generalize nameB r.nm = nb at *
  generalize r.nm = nm at *
  generalize r.kd = kd at *
  generalize r.code.length = cl at *
  have hx1 := (Box.new w 73 #[.slice BA n bc, .func (.func ft) #[] bt, .func (.func 31) #[] #[]]).alloc (.cells #[.int .i64 kd, .string ⟨nm.toArray⟩, .slice r.ca cl r.cc] 43)
  have hx2 := Box.new (w.alloc (.cells #[.slice BA n bc, .func (.func ft) #[] bt, .func (.func 31) #[] #[]] 73)) 43 #[.int .i64 kd, .string ⟨nm.toArray⟩, .slice r.ca cl r.cc]
  have es : (w.alloc (.cells #[.slice BA n bc, .func (.func ft) #[] bt, .func (.func 31) #[] #[]] 73)).heap.size = w.heap.size + 1 := by simp
  rw [es] at hx2
  have hb0 := ((Below.refl w.heap.size w).alloc (Nat.le_refl _) (.cells #[.slice BA n bc, .func (.func ft) #[] bt, .func (.func 31) #[] #[]] 73)).alloc (by simp) (.cells #[.int .i64 kd, .string ⟨nm.toArray⟩, .slice r.ca cl r.cc] 43)
  clear es
  by_cases h0 : kd < 0
  · have HX : Hid (X = 1) := HE0.out (.inl h0)
    have d0 : decide (kd < 0) = true := by simpa using h0
    clear HE0 HE1 HCo HNa HKn hx1 hx2
    go_enter Tryd.func35, Tryd.ntmps35
    go_wp2
    go_ret
    exact ⟨ret_int HX.out.symm, hb0⟩
  have d0 : decide (kd < 0) = false := by simpa using h0
  by_cases h4 : 4 < kd
  · have HX : Hid (X = 1) := HE0.out (.inr (.inl h4))
    have d4 : decide (4 < kd) = true := by simpa using h4
    clear HE0 HE1 HCo HNa HKn hx1 hx2
    go_enter Tryd.func35, Tryd.ntmps35
    go_wp2
    go_ret
    exact ⟨ret_int HX.out.symm, hb0⟩
  have d4 : decide (4 < kd) = false := by simpa using h4
  cases nb with
  | false =>
    have HX : Hid (X = 1) := HE0.out (.inr (.inr rfl))
    clear HE0 HE1 HCo HKn h0 h4
    go_enter Tryd.func35, Tryd.ntmps35
    go_wp2_with fail
    refine (HNa.out _).mono ?_
    rintro e w1 ⟨rfl, hb1⟩
    have hB1 := hb0.trans (hb1.mono hb0.size)
    clear hb1 hx1 hx2 HNa
    go_wp2
    go_ret
    exact ⟨ret_int HX.out.symm, hB1⟩
  | true =>
    have HX := Lib.hid (HE1.out h0 h4 rfl)
    clear HE0 HE1
    go_enter Tryd.func35, Tryd.ntmps35
    go_wp2_with fail
    refine (HNa.out _).mono ?_
    rintro e w1 ⟨rfl, hb1⟩
    have hB1 := hb0.trans (hb1.mono hb0.size)
    have kx1 := hx1.below hb1 hx1.lt
    have kx2 := hx2.below hb1 (by simp)
    have p0 := kx1.cell 0
    have p1 := kx1.cell 1
    have p2 := kx1.cell 2
    have q0 := kx2.cell 0
    have q1 := kx2.cell 1
    have q2 := kx2.cell 2
    simp at p0 p1 p2 q0 q1 q2
    clear hb1 hx1 hx2 HNa
    have tail : ∀ w2, Below w.heap.size w w2 → Box w2 w.heap.size 73 #[.slice BA n bc, .func (.func ft) #[] bt, .func (.func 31) #[] #[]] → Box w2 (w.heap.size + 1) 43 #[.int .i64 kd, .string ⟨nm.toArray⟩, .slice r.ca cl r.cc] → True := fun _ _ _ _ => trivial
    clear tail
    by_cases h3 : 3 ≤ kd
    · have d3 : decide (3 ≤ kd) = true := by simpa using h3
      have hKx := HKn.out nm w1 hB1
      cases hpx : (yes) nm with
      | false =>
        replace hpx : yes nm = false := hpx
        have HX2 : Hid (X = 21) := by unfold Hid; rw [HX.out, if_pos ⟨h3, hpx⟩]
        rw [hpx] at hKx
        clear HX hpx h0 h4 h3 HCo
        go_wp2_with (go_at_call 31; refine hKx.mono ?_; rintro e w2 ⟨rfl, hb2⟩)
        go_ret
        exact ⟨ret_int HX2.out.symm, hB1.trans (hb2.mono hB1.size)⟩
      | true =>
        replace hpx : yes nm = true := hpx
        have HX2 : Hid (X = if 12 < cl then 2 else Y) := by unfold Hid; rw [HX.out, if_neg (by rw [hpx]; simp)]
        rw [hpx] at hKx
        clear HX hpx h0 h4 h3
        have fin : ∀ w2, Below w1.heap.size w1 w2 → Below w.heap.size w w2 := fun w2 hb2 => hB1.trans (hb2.mono hB1.size)
        have P : ∀ w2, Below w1.heap.size w1 w2 → w2.cell? ⟨w.heap.size, 0, none⟩ = some (.slice BA n bc) ∧ w2.cell? ⟨w.heap.size, 1, none⟩ = some (.func (.func ft) #[] bt) ∧ w2.cell? ⟨w.heap.size, 2, none⟩ = some (.func (.func 31) #[] #[]) ∧ w2.cell? ⟨w.heap.size + 1, 2, none⟩ = some (.slice r.ca cl r.cc) := fun w2 hb2 =>
          ⟨(kx1.below hb2 kx1.lt).cell 0, (kx1.below hb2 kx1.lt).cell 1, (kx1.below hb2 kx1.lt).cell 2, (kx2.below hb2 kx2.lt).cell 2⟩
        by_cases h12 : 12 < cl
        · rw [if_pos h12] at HX2
          clear HCo
          go_wp2_with (go_at_call 31; refine hKx.mono ?_; rintro e w2 ⟨rfl, hb2⟩; obtain ⟨s0, s1, s2, s3⟩ := P w2 hb2)
          all_goals first | (exfalso; omega) | skip
          go_ret
          exact ⟨ret_int HX2.out.symm, fin _ hb2⟩
        · rw [if_neg h12] at HX2
          have hCx := HCo.out (by omega)
          clear HCo
          go_wp2_with (first
            | (go_at_call 31; refine hKx.mono ?_; rintro e w2 ⟨rfl, hb2⟩; obtain ⟨s0, s1, s2, s3⟩ := P w2 hb2)
            | (go_at_call 50; refine (hCx _ (fin _ hb2)).mono ?_; rintro e w3 ⟨rfl, hb3⟩))
          all_goals first | (exfalso; omega) | skip
          go_ret
          exact ⟨ret_int HX2.out.symm, (fin _ hb2).trans (hb3.mono (fin _ hb2).size)⟩
    · have d3 : decide (3 ≤ kd) = false := by simpa using h3
      have HX2 : Hid (X = if 12 < cl then 2 else Y) := by unfold Hid; rw [HX.out, if_neg (fun h => h3 h.1)]
      clear HX h0 h4 h3 HKn
      by_cases h12 : 12 < cl
      · rw [if_pos h12] at HX2
        clear HCo
        go_wp2
        all_goals first | (exfalso; omega) | skip
        go_ret
        exact ⟨ret_int HX2.out.symm, hB1⟩
      · rw [if_neg h12] at HX2
        have hCx := HCo.out (by omega) w1 hB1
        clear HCo
        go_wp2_with (go_at_call 50; refine hCx.mono ?_; rintro e w3 ⟨rfl, hb3⟩)
        all_goals first | (exfalso; omega) | skip
        go_ret
        exact ⟨ret_int HX2.out.symm, hB1.trans (hb3.mono hB1.size)⟩

set_option maxRecDepth 100000 in
set_option maxHeartbeats 4000000 in
theorem rung_2 (r : Ru) (BA : Option Addr) (bits : List Nm) (bc : Nat) (ft : Nat) (bt : Array Value) (R0 : List Nm) (A0 : Option Addr) (c0 pp : Nat) (tag : Nm → Bool) (w : World) (hT : Tabs w) (hC : Code w r.ca r.code) (hK : Known w ft bt tag) (hB : Strs w BA bits) (hl : bits.length ≤ 1000000) (hp : Box w pp 23 #[.slice A0 R0.length c0]) (hS : Strs w A0 R0) (hlR : R0.length ≤ 1000000) :
    Calls Tryd.prog 35 #[chkV BA bits.length bc ft bt 36 #[.pointer (some ⟨pp, 0, none⟩)], ruV r] w (IntPost (rungP bits tag (fun x => decide (x ∈ R0)) r) w) := by
  have HCo : Hid (r.code.length ≤ 12 → ∀ wx, Below w.heap.size w wx → Calls Tryd.prog 50 #[chkV BA bits.length bc ft bt 36 #[.pointer (some ⟨pp, 0, none⟩)], .slice r.ca r.code.length r.cc] wx (IntPost (codeGo bits tag 0 r.code) wx)) := fun h12 wx hb => code_any r.code r.ca r.cc BA bits bc ft bt 36 #[.pointer (some ⟨pp, 0, none⟩)] tag wx (hT.below hb) (hC.below hb) (hK.below hb) (hB.below hb) hl (by omega)
  have hNa := fun wx => name_any r.nm wx
  have hKn : ∀ (x : Nm) wx, Below w.heap.size w wx → Calls Tryd.prog 36 #[.string ⟨x.toArray⟩, .pointer (some ⟨pp, 0, none⟩)] wx fun e w' => e = .returned (.bool ((fun x => decide (x ∈ R0)) x)) ∧ Below wx.heap.size wx w' := fun x wx hb => among_any R0 A0 c0 pp x wx (hp.below hb hp.lt) (hS.below hb) hlR
  have HNa := Lib.hid hNa
  have HKn := Lib.hid hKn
  have HE0 := Lib.hid (@rungP_0 bits tag (fun x => decide (x ∈ R0)) r)
  have HE1 := Lib.hid (@rungP_1 bits tag (fun x => decide (x ∈ R0)) r)
  clear hNa hKn hT hC hK hB hp hS hlR
  unfold chkV ruV at *
  generalize hn : bits.length = n at *
  clear hn hl
  generalize rungP bits tag (fun x => decide (x ∈ R0)) r = X at *
  generalize codeGo bits tag 0 r.code = Y at *
  generalize nameB r.nm = nb at *
  generalize r.nm = nm at *
  generalize r.kd = kd at *
  generalize r.code.length = cl at *
  have hx1 := (Box.new w 73 #[.slice BA n bc, .func (.func ft) #[] bt, .func (.func 36) #[] #[.pointer (some ⟨pp, 0, none⟩)]]).alloc (.cells #[.int .i64 kd, .string ⟨nm.toArray⟩, .slice r.ca cl r.cc] 43)
  have hx2 := Box.new (w.alloc (.cells #[.slice BA n bc, .func (.func ft) #[] bt, .func (.func 36) #[] #[.pointer (some ⟨pp, 0, none⟩)]] 73)) 43 #[.int .i64 kd, .string ⟨nm.toArray⟩, .slice r.ca cl r.cc]
  have es : (w.alloc (.cells #[.slice BA n bc, .func (.func ft) #[] bt, .func (.func 36) #[] #[.pointer (some ⟨pp, 0, none⟩)]] 73)).heap.size = w.heap.size + 1 := by simp
  rw [es] at hx2
  have hb0 := ((Below.refl w.heap.size w).alloc (Nat.le_refl _) (.cells #[.slice BA n bc, .func (.func ft) #[] bt, .func (.func 36) #[] #[.pointer (some ⟨pp, 0, none⟩)]] 73)).alloc (by simp) (.cells #[.int .i64 kd, .string ⟨nm.toArray⟩, .slice r.ca cl r.cc] 43)
  clear es
  by_cases h0 : kd < 0
  · have HX : Hid (X = 1) := HE0.out (.inl h0)
    have d0 : decide (kd < 0) = true := by simpa using h0
    clear HE0 HE1 HCo HNa HKn hx1 hx2
    go_enter Tryd.func35, Tryd.ntmps35
    go_wp2
    go_ret
    exact ⟨ret_int HX.out.symm, hb0⟩
  have d0 : decide (kd < 0) = false := by simpa using h0
  by_cases h4 : 4 < kd
  · have HX : Hid (X = 1) := HE0.out (.inr (.inl h4))
    have d4 : decide (4 < kd) = true := by simpa using h4
    clear HE0 HE1 HCo HNa HKn hx1 hx2
    go_enter Tryd.func35, Tryd.ntmps35
    go_wp2
    go_ret
    exact ⟨ret_int HX.out.symm, hb0⟩
  have d4 : decide (4 < kd) = false := by simpa using h4
  cases nb with
  | false =>
    have HX : Hid (X = 1) := HE0.out (.inr (.inr rfl))
    clear HE0 HE1 HCo HKn h0 h4
    go_enter Tryd.func35, Tryd.ntmps35
    go_wp2_with fail
    refine (HNa.out _).mono ?_
    rintro e w1 ⟨rfl, hb1⟩
    have hB1 := hb0.trans (hb1.mono hb0.size)
    clear hb1 hx1 hx2 HNa
    go_wp2
    go_ret
    exact ⟨ret_int HX.out.symm, hB1⟩
  | true =>
    have HX := Lib.hid (HE1.out h0 h4 rfl)
    clear HE0 HE1
    go_enter Tryd.func35, Tryd.ntmps35
    go_wp2_with fail
    refine (HNa.out _).mono ?_
    rintro e w1 ⟨rfl, hb1⟩
    have hB1 := hb0.trans (hb1.mono hb0.size)
    have kx1 := hx1.below hb1 hx1.lt
    have kx2 := hx2.below hb1 (by simp)
    have p0 := kx1.cell 0
    have p1 := kx1.cell 1
    have p2 := kx1.cell 2
    have q0 := kx2.cell 0
    have q1 := kx2.cell 1
    have q2 := kx2.cell 2
    simp at p0 p1 p2 q0 q1 q2
    clear hb1 hx1 hx2 HNa
    have tail : ∀ w2, Below w.heap.size w w2 → Box w2 w.heap.size 73 #[.slice BA n bc, .func (.func ft) #[] bt, .func (.func 36) #[] #[.pointer (some ⟨pp, 0, none⟩)]] → Box w2 (w.heap.size + 1) 43 #[.int .i64 kd, .string ⟨nm.toArray⟩, .slice r.ca cl r.cc] → True := fun _ _ _ _ => trivial
    clear tail
    by_cases h3 : 3 ≤ kd
    · have d3 : decide (3 ≤ kd) = true := by simpa using h3
      have hKx := HKn.out nm w1 hB1
      cases hpx : (fun x => decide (x ∈ R0)) nm with
      | false =>
        replace hpx : decide (nm ∈ R0) = false := hpx
        have HX2 : Hid (X = 21) := by unfold Hid; rw [HX.out, if_pos ⟨h3, hpx⟩]
        rw [hpx] at hKx
        clear HX hpx h0 h4 h3 HCo
        go_wp2_with (go_at_call 36; refine hKx.mono ?_; rintro e w2 ⟨rfl, hb2⟩)
        go_ret
        exact ⟨ret_int HX2.out.symm, hB1.trans (hb2.mono hB1.size)⟩
      | true =>
        replace hpx : decide (nm ∈ R0) = true := hpx
        have HX2 : Hid (X = if 12 < cl then 2 else Y) := by unfold Hid; rw [HX.out, if_neg (by rw [hpx]; simp)]
        rw [hpx] at hKx
        clear HX hpx h0 h4 h3
        have fin : ∀ w2, Below w1.heap.size w1 w2 → Below w.heap.size w w2 := fun w2 hb2 => hB1.trans (hb2.mono hB1.size)
        have P : ∀ w2, Below w1.heap.size w1 w2 → w2.cell? ⟨w.heap.size, 0, none⟩ = some (.slice BA n bc) ∧ w2.cell? ⟨w.heap.size, 1, none⟩ = some (.func (.func ft) #[] bt) ∧ w2.cell? ⟨w.heap.size, 2, none⟩ = some (.func (.func 36) #[] #[.pointer (some ⟨pp, 0, none⟩)]) ∧ w2.cell? ⟨w.heap.size + 1, 2, none⟩ = some (.slice r.ca cl r.cc) := fun w2 hb2 =>
          ⟨(kx1.below hb2 kx1.lt).cell 0, (kx1.below hb2 kx1.lt).cell 1, (kx1.below hb2 kx1.lt).cell 2, (kx2.below hb2 kx2.lt).cell 2⟩
        by_cases h12 : 12 < cl
        · rw [if_pos h12] at HX2
          clear HCo
          go_wp2_with (go_at_call 36; refine hKx.mono ?_; rintro e w2 ⟨rfl, hb2⟩; obtain ⟨s0, s1, s2, s3⟩ := P w2 hb2)
          all_goals first | (exfalso; omega) | skip
          go_ret
          exact ⟨ret_int HX2.out.symm, fin _ hb2⟩
        · rw [if_neg h12] at HX2
          have hCx := HCo.out (by omega)
          clear HCo
          go_wp2_with (first
            | (go_at_call 36; refine hKx.mono ?_; rintro e w2 ⟨rfl, hb2⟩; obtain ⟨s0, s1, s2, s3⟩ := P w2 hb2)
            | (go_at_call 50; refine (hCx _ (fin _ hb2)).mono ?_; rintro e w3 ⟨rfl, hb3⟩))
          all_goals first | (exfalso; omega) | skip
          go_ret
          exact ⟨ret_int HX2.out.symm, (fin _ hb2).trans (hb3.mono (fin _ hb2).size)⟩
    · have d3 : decide (3 ≤ kd) = false := by simpa using h3
      have HX2 : Hid (X = if 12 < cl then 2 else Y) := by unfold Hid; rw [HX.out, if_neg (fun h => h3 h.1)]
      clear HX h0 h4 h3 HKn
      by_cases h12 : 12 < cl
      · rw [if_pos h12] at HX2
        clear HCo
        go_wp2
        all_goals first | (exfalso; omega) | skip
        go_ret
        exact ⟨ret_int HX2.out.symm, hB1⟩
      · rw [if_neg h12] at HX2
        have hCx := HCo.out (by omega) w1 hB1
        clear HCo
        go_wp2_with (go_at_call 50; refine hCx.mono ?_; rintro e w3 ⟨rfl, hb3⟩)
        all_goals first | (exfalso; omega) | skip
        go_ret
        exact ⟨ret_int HX2.out.symm, hB1.trans (hb3.mono hB1.size)⟩

theorem rung_any (r : Ru) (BA : Option Addr) (bits : List Nm) (bc : Nat) (ft : Nat) (bt : Array Value) (fp : Nat) (bp : Array Value) (tag phase : Nm → Bool) (w : World) (hT : Tabs w) (hC : Code w r.ca r.code) (hK : Known w ft bt tag) (hP : Known w fp bp phase) (hB : Strs w BA bits) (hl : bits.length ≤ 1000000) :
    Calls Tryd.prog 35 #[chkV BA bits.length bc ft bt fp bp, ruV r] w (IntPost (rungP bits tag phase r) w) := by
  rcases hP with ⟨rfl, rfl, rfl⟩ | ⟨rfl, p, A, c, R, rfl, hp, hS, hl2, rfl⟩
  · exact rung_1 r BA bits bc ft bt tag w hT hC hK hB hl
  · exact rung_2 r BA bits bc ft bt R A c p tag w hT hC hK hB hl hp hS hl2
end Go.Proofs.YtohljihndoodfaaDoor.Rg
