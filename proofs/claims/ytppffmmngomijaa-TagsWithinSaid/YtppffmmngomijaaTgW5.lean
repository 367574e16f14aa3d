/-
  Contracts of change, Latch and Drive.
-/
import Derived.Test.YtppffmmngomijaaTgW4
import Derived.Deep.DeepCutAuto
namespace Go.Proofs.Ytppffmmngomijaa.Tg
open Go.RowKit Lx

def ansI (r : Option Im × Int) : Im := r.1.getD ⟨[], []⟩
def ImPost (r : Option Im × Int) (w : World) (e : Ending) (w' : World) : Prop := ∃ A c B d, e = .returned (.tuple #[.agg #[.slice A (ansI r).v.length c, .slice B (ansI r).bad.length d], .int .i64 r.2]) ∧ OwnIm w.heap.size w' (ansI r) A c B d ∧ Below w.heap.size w w'
theorem impost_none {z : Int} {w w' : World} (hb : Below w.heap.size w w') : ImPost (none, z) w (.returned (.tuple #[.agg #[.slice none 0 0, .slice none 0 0], .int .i64 z])) w' := ⟨none, 0, none, 0, rfl, ⟨World.ownsRow_nil _ _ _ _, World.ownsRow_nil _ _ _ _⟩, hb⟩
theorem impost_some {z : Int} {x : Im} {A B : Option Addr} {c d n m : Nat} {w w' : World} (hn : x.v.length = n) (hm : x.bad.length = m) {base : Nat} (hA : OwnIm base w' x A c B d) (hbs : w.heap.size ≤ base) (hb : Below w.heap.size w w') : ImPost (some x, z) w (.returned (.tuple #[.agg #[.slice A n c, .slice B m d], .int .i64 z])) w' := by
  subst hn; subst hm
  exact ⟨A, c, B, d, rfl, ⟨own_less hA.1 hbs, own_less hA.2 hbs⟩, hb⟩
theorem tellF_drop (l : List Tg) (out : Bool) (cs : List Cl) (x : Im) (k : Nat) (h : k < cs.length) : tellF l out (cs.drop k) x = match findZ l cs[k].1 with
    | none => none
    | some i => if (l.getD i default).out = out then tellF l out (cs.drop (k + 1)) (x.put i (nearZ (l.getD i default) cs[k].2) (!out && decide (nearZ (l.getD i default) cs[k].2 ≠ cs[k].2))) else none := by
  rw [List.drop_eq_getElem_cons h]; rfl
theorem tell_no {l : List Tg} {im : Im} {cs : List Cl} {out : Bool} (h : rightB l im = false) : tellT l im cs out = (none, 1) := by unfold tellT; rw [h]; rfl
theorem tell_none {l : List Tg} {im : Im} {cs : List Cl} {out : Bool} (h : rightB l im = true) (h2 : tellF l out cs im = none) : tellT l im cs out = (none, 21) := by unfold tellT; rw [h, h2]; rfl
theorem tell_some {l : List Tg} {im x : Im} {cs : List Cl} {out : Bool} (h : rightB l im = true) (h2 : tellF l out cs im = some x) : tellT l im cs out = (some x, 0) := by unfold tellT; rw [h, h2]; rfl
theorem two_set {w : World} {g : Nat} {t : TypeId} {x0 x1 : Value} (h : Box w g t #[x0, x1]) (y0 y1 : Value) : Box ((w.setCell ⟨g, 0, none⟩ y0).setCell ⟨g, 1, none⟩ y1) g t #[y0, y1] := by
  have := (h.set_ 0 y0).set_ 1 y1
  simpa using this
theorem three_cells {w : World} {g : Nat} {t : TypeId} {x0 x1 x2 : Value} (h : Box w g t #[x0, x1, x2]) : w.cell? ⟨g, 0, none⟩ = some x0 ∧ w.cell? ⟨g, 1, none⟩ = some x1 ∧ w.cell? ⟨g, 2, none⟩ = some x2 ∧ w.frozen? ⟨g, 0, none⟩ = false ∧ w.frozen? ⟨g, 1, none⟩ = false ∧ w.frozen? ⟨g, 2, none⟩ = false := ⟨h.cell 0, h.cell 1, h.cell 2, h.frozen 0, h.frozen 1, h.frozen 2⟩
theorem three_set {w : World} {g : Nat} {t : TypeId} {x0 x1 x2 : Value} (h : Box w g t #[x0, x1, x2]) (y0 y1 y2 : Value) : Box (((w.setCell ⟨g, 0, none⟩ y0).setCell ⟨g, 1, none⟩ y1).setCell ⟨g, 2, none⟩ y2) g t #[y0, y1, y2] := by
  have := ((h.set_ 0 y0).set_ 1 y1).set_ 2 y2
  simpa using this
theorem own_set1 {w : World} {g : Nat} {t : TypeId} {cs : Array Value} (hx : Box w g t cs) {base n size : Nat} {e : TypeId} {v : Value} {xs : List Value} (he : e ≠ t) (h : w.ownsRow base e size v n xs) (i : Nat) (u : Value) : (w.setCell ⟨g, i, none⟩ u).ownsRow base e size v n xs := by
  refine ⟨h.1, ?_⟩
  rcases h.2 with h | ⟨k, cap, cur, hv, hbg, hh, r⟩
  · exact .inl h
  · refine .inr ⟨k, cap, cur, hv, hbg, (Below.heap_setCell _ _ _ _ ?_).trans hh, r⟩
    intro hk
    simp only at hk
    subst hk
    unfold Box at hx
    rw [hh] at hx
    simp at hx
    exact he hx.2
theorem own_set3 {w : World} {g : Nat} {t : TypeId} {cs : Array Value} (hx : Box w g t cs) {base n size : Nat} {e : TypeId} {v : Value} {xs : List Value} (he : e ≠ t) (h : w.ownsRow base e size v n xs) (y0 y1 y2 : Value) : (((w.setCell ⟨g, 0, none⟩ y0).setCell ⟨g, 1, none⟩ y1).setCell ⟨g, 2, none⟩ y2).ownsRow base e size v n xs :=
  own_set1 ((hx.set_ 0 y0).set_ 1 y1) he (own_set1 (hx.set_ 0 y0) he (own_set1 hx he h 0 y0) 1 y1) 2 y2
theorem own_im {base : Nat} {w : World} {im : Im} {A B : Option Addr} {c d n m : Nat} (hn : im.v.length = n) (hm : im.bad.length = m) (h1 : w.ownsRow base 3 1 (.slice A n c) n (im.v.flatMap numC)) (h2 : w.ownsRow base 4 1 (.slice B m d) m (im.bad.flatMap flagC)) : OwnIm base w im A c B d := by
  subst hn; subst hm; exact ⟨h1, h2⟩
theorem box_not_bk {w : World} {g : Nat} {t : TypeId} {cs : Array Value} (hx : Box w g t cs) {base c d : Nat} {im : Im} {A B : Option Addr} (h : OwnIm base w im A c B d) (h3 : t ≠ 3) (h4 : t ≠ 4) : ¬ Bk A B g := by
  have key : ∀ {e : TypeId} {n size c : Nat} {A : Option Addr} {xs : List Value}, w.ownsRow base e size (.slice A n c) n xs → t ≠ e → A ≠ some ⟨g, 0, none⟩ := by
    intro e n size c A xs ho he hA
    subst hA
    rcases ho.2 with ⟨h, _⟩ | ⟨k, cap, cur, hv, hbg, hh, r⟩
    · simp at h
    · simp only [Value.slice.injEq, Option.some.injEq, Addr.mk.injEq, and_true, true_and] at hv
      obtain ⟨rfl, _⟩ := hv
      unfold Box at hx
      rw [hh] at hx
      simp at hx
      exact he hx.2.symm
  rintro (e | e)
  · exact key h.1 h3 e
  · exact key h.2 h4 e
theorem own_im2 {w : World} {g : Nat} {t : TypeId} {cs : Array Value} (hx : Box w g t cs) {base c d : Nat} {im : Im} {A B : Option Addr} (h3 : 3 ≠ t) (h4 : 4 ≠ t) (h : OwnIm base w im A c B d) (y0 y1 : Value) : OwnIm base ((w.setCell ⟨g, 0, none⟩ y0).setCell ⟨g, 1, none⟩ y1) im A c B d :=
  ⟨own_set1 (hx.set_ 0 y0) h3 (own_set1 hx h3 h.1 0 y0) 1 y1, own_set1 (hx.set_ 0 y0) h4 (own_set1 hx h4 h.2 0 y0) 1 y1⟩
def DrR (im : Im) (w1 : World) (a : Option Addr) (len cap n m : Nat) (v : Value) (wx : World) : Prop := ∃ p A' c' B' d', v = .pointer (some ⟨p, 0, none⟩) ∧ Box wx p 71 #[.slice A' n c', .slice B' m d', .slice a len cap] ∧ OwnIm w1.heap.size wx im A' c' B' d' ∧ Below w1.heap.size w1 wx
def Two_ (w' : World) (p : Nat) (A B : Option Addr) (n c m d : Nat) : Prop := w'.cell? ⟨p, 0, none⟩ = some (.slice A n c) ∧ w'.cell? ⟨p, 1, none⟩ = some (.slice B m d)
theorem not_bk {w : World} {im : Im} {base c d k : Nat} {A B : Option Addr} (h : OwnIm base w im A c B d) (hk : k < base ∨ w.heap.size ≤ k) : ¬ Bk A B k := by
  rintro (rfl | rfl)
  · have := h.1.lt k rfl; omega
  · have := h.2.lt k rfl; omega
theorem bk_base {w : World} {im : Im} {base c d : Nat} {A B : Option Addr} (h : OwnIm base w im A c B d) : ∀ b, Bk A B b → base ≤ b := by
  rintro b (rfl | rfl)
  · exact (h.1.lt b rfl).1
  · exact (h.2.lt b rfl).1

set_option maxRecDepth 100000 in
set_option maxHeartbeats 8000000 in
theorem change_any (l : List Tg) (im : Im) (cs : List Cl) (out : Bool) (a A B ca : Option Addr) (cap c d ccap : Nat) (w : World) (hl : l.length ≤ 1000000) (hn : im.v.length ≤ 1000000) (hm : im.bad.length ≤ 1000000) (hc : cs.length ≤ 1000000) (hcap : l.length ≤ cap) (hT : Tags w a l) (hV : Nums w A im.v) (hB : Flags w B im.bad) (hC : Cells w ca cs) :
    Calls Try.prog 36 #[.slice a l.length cap, .agg #[.slice A im.v.length c, .slice B im.bad.length d], .slice ca cs.length ccap, .bool out] w (ImPost (tellT l im cs out) w) := by
  have HR : ∀ w1, Below w.heap.size w w1 → Calls Try.prog 27 #[.slice a l.length cap, .agg #[.slice A im.v.length c, .slice B im.bad.length d]] w1 fun e w' => e = .returned (.bool (rightB l im)) ∧ Below w1.heap.size w1 w' := fun w1 hb => Right_any l a cap im A B c d w1 hl hn hm hcap (hT.below hb) (hV.below hb) (hB.below hb)
  have HX0 := Lib.hid (fun h => tell_no (l := l) (im := im) (cs := cs) (out := out) h)
  have HX1 := Lib.hid (fun h h2 => tell_none (l := l) (im := im) (cs := cs) (out := out) h h2)
  have HX2 := Lib.hid (fun x h h2 => tell_some (x := x) (l := l) (im := im) (cs := cs) (out := out) h h2)
  have HRK := Lib.hid (fun (h : rightB l im = true) => right_ok h)
  generalize tellT l im cs out = X at *
  generalize hr : rightB l im = r at *
  cases r with
  | false =>
    have HX3 : Hid (X = (none, 1)) := HX0.out rfl
    clear HX0 HX1 HX2
    clear hT hV hB hC
    generalize l.length = len at *
    generalize im.v.length = n at *
    generalize im.bad.length = m at *
    generalize cs.length = len2 at *
    go_enter Try.func36, Try.ntmps36
    go_wp2_with fail
    refine (HR _ (((Below.refl _ w).alloc (Nat.le_refl _) _).alloc (by simp) _)).mono ?_
    rintro e w1 ⟨rfl, hb1⟩
    have hx := (box_at (w := w.alloc (.cells #[.slice A n c, .slice B m d] 28)) (N := w.heap.size + 1) (t := 28) (cs := #[.slice none 0 0, .slice none 0 0]) (by simp)).below hb1 (by simp only [World.alloc, Array.size_push]; omega)
    have hb0 := below_new (below_new hb1)
    have e0 := hx.cell 0
    have e1 := hx.cell 1
    have f0 := hx.frozen 0
    have f1 := hx.frozen 1
    simp at e0 e1
    go_wp2_with fail
    have hy := two_set hx (.slice none 0 0) (.slice none 0 0)
    have r0 := hy.cell 0
    have r1 := hy.cell 1
    simp at r0 r1
    rw [HX3.out]
    exact bodyPost_ret (v := .tuple #[.agg #[.slice none 0 0, .slice none 0 0], .int .i64 1]) (by simp [results, Try.results36, go_sem, r0, r1]) rfl (impost_none ((hb0.setCell (p := ⟨w.heap.size + 1, 0, none⟩) (by simp) _).setCell (p := ⟨w.heap.size + 1, 1, none⟩) (by simp) _))
  | true =>
    obtain ⟨hck, hvl, hbl, -⟩ := HRK.out rfl
    have hle := check_le l hck
    generalize hRR : tellF l out cs im = R at *
    have HX1' : Hid (R = none → X = (none, 21)) := fun h => HX1.out rfl h
    have HX2' : Hid (∀ x, R = some x → X = (some x, 0)) := fun x h => HX2.out x rfl h
    clear HX0 HX1 HX2 HRK
    have HRR : Hid (tellF l out (cs.drop 0) im = R) := by unfold Hid; exact hRR
    have HVc : ∀ w1, Below w.heap.size w w1 → Calls Try.prog 43 #[.slice A im.v.length c] w1 fun e w' => ∃ A' c', e = .returned (.slice A' im.v.length c') ∧ w'.ownsRow w1.heap.size 3 1 (.slice A' im.v.length c') im.v.length (im.v.flatMap numC) ∧ Below w1.heap.size w1 w' := fun w1 hb => cloneI_any A im.v c w1 (hV.below hb) hn
    have HBc : ∀ w1, Below w.heap.size w w1 → Calls Try.prog 44 #[.slice B im.bad.length d] w1 fun e w' => ∃ A' c', e = .returned (.slice A' im.bad.length c') ∧ w'.ownsRow w1.heap.size 4 1 (.slice A' im.bad.length c') im.bad.length (im.bad.flatMap flagC) ∧ Below w1.heap.size w1 w' := fun w1 hb => cloneB_any B im.bad d w1 (hB.below hb) hm
    have HT := Lib.hid hT
    have HCl := Lib.hid hC
    clear hT hV hB hC
    generalize hlen : l.length = len at *
    have HL := Lib.hid hlen
    clear hlen
    generalize hn1 : im.v.length = n at *
    have HN := Lib.hid hn1
    clear hn1
    generalize hm1 : im.bad.length = m at *
    have HM := Lib.hid hm1
    clear hm1
    generalize hc1 : cs.length = len2 at *
    have HLc := Lib.hid hc1
    clear hc1
    have HVL := Lib.hid hvl
    have HBL := Lib.hid hbl
    clear hvl hbl hck
    go_enter Try.func36, Try.ntmps36
    go_wp2_with fail
    refine (HR _ (((Below.refl _ w).alloc (Nat.le_refl _) _).alloc (by simp) _)).mono ?_
    rintro e w1 ⟨rfl, hb1⟩
    have hx := ((Box.new w 28 #[.slice A n c, .slice B m d]).alloc (.cells #[.slice none 0 0, .slice none 0 0] 28)).below hb1 (by simp only [World.alloc, Array.size_push]; omega)
    have hy := (box_at (w := w.alloc (.cells #[.slice A n c, .slice B m d] 28)) (N := w.heap.size + 1) (t := 28) (cs := #[.slice none 0 0, .slice none 0 0]) (by simp)).below hb1 (by simp only [World.alloc, Array.size_push]; omega)
    have hb0 := below_new (below_new hb1)
    clear hb1
    have key : ∀ w2, Below w1.heap.size w1 w2 → Two_ w2 w.heap.size A B n c m d := fun w2 hb2 => ⟨(hb2.cell (p := ⟨w.heap.size, 0, none⟩) hx.lt).trans (hx.cell 0), (hb2.cell (p := ⟨w.heap.size, 1, none⟩) hx.lt).trans (hx.cell 1)⟩
    have hd := below_drew (Below.refl w1.heap.size w1)
    have cd := key _ hd
    unfold Two_ at cd
    have HVw : ∀ w2, Below w1.heap.size w1 w2 → Below w.heap.size w w2 := fun w2 hb2 => hb0.trans (hb2.mono hb0.size)
    go_wp2_with fail
    go_cut [10] (fun v10 wx => DrR im w1 a len cap n m v10 wx)
    case first =>
      refine region_start (S := fun w' => w'.cell? ⟨w.heap.size, 0, none⟩ = some (.slice A n c) ∧ w'.cell? ⟨w.heap.size, 1, none⟩ = some (.slice B m d)) (n := 11) (lit := #[false, false, false, false, false, false, false, false, false, false, false]) rfl rfl (by kernel_rfl) cd fun hS => ?_
      refine tk (i := 0) (v := ?vb0) rfl (by kernel_rfl) (by kernel_rfl) (by kernel_rfl) (fun _ _ _ h => h) (by kernel_rfl) ?hb0 hS ?_
      case hb0 => intro w hSw; (try dsimp only at hSw); go_simp; try with_reducible rfl
      try simp only [Act.put, List.setIfInBounds_toArray, List.set_cons_zero, List.set_cons_succ]
      refine tk (i := 1) (v := ?vb1) rfl (by kernel_rfl) (by kernel_rfl) (by kernel_rfl) (fun _ _ _ h => h) (by kernel_rfl) ?hb1 hS ?_
      case hb1 => intro w hSw; (try dsimp only at hSw); go_simp; try with_reducible rfl
      try simp only [Act.put, List.setIfInBounds_toArray, List.set_cons_zero, List.set_cons_succ]
      refine tk (i := 3) (v := ?vb3) rfl (by kernel_rfl) (by kernel_rfl) (by kernel_rfl) (fun _ _ _ h => h) (by kernel_rfl) ?hb3 hS ?_
      case hb3 => intro w hSw; (try dsimp only at hSw); go_simp; try with_reducible rfl
      try simp only [Act.put, List.setIfInBounds_toArray, List.set_cons_zero, List.set_cons_succ]
      refine tk (i := 4) (v := ?vb4) rfl (by kernel_rfl) (by kernel_rfl) (by kernel_rfl) (fun _ _ _ h => h) (by kernel_rfl) ?hb4 hS ?_
      case hb4 => intro w hSw; (try dsimp only at hSw); go_simp; try with_reducible rfl
      try simp only [Act.put, List.setIfInBounds_toArray, List.set_cons_zero, List.set_cons_succ]
      refine tk (i := 7) (v := ?vb7) rfl (by kernel_rfl) (by kernel_rfl) (by kernel_rfl) (fun _ _ _ h => h) (by kernel_rfl) ?hb7 hS ?_
      case hb7 => intro w hSw; (try dsimp only at hSw); go_simp; try with_reducible rfl
      try simp only [Act.put, List.setIfInBounds_toArray, List.set_cons_zero, List.set_cons_succ]
      refine wpAnyH_ready (rs := [2, 9]) (by kernel_rfl) (by simp) ?_
      refine AllReadyH.cons rfl (fun K hK => ?_) (AllReadyH.cons rfl (fun K hK => ?_) AllReadyH.nil)
      · skip
        go_simp
        go_at_call 43; refine (HVc _ (HVw _ hd)).mono ?_; rintro e w2 ⟨A', c', rfl, hoV, hbV⟩
        have hB2 := hd.trans (hbV.mono hd.size)
        have khB2 := key _ hB2
        unfold Two_ at khB2
        refine hK.out _ _ khB2 (fun hShB2 => ?_)
        clear hK K
        refine wpAnyH_ready (rs := [5, 9]) (by kernel_rfl) (by simp) ?_
        refine AllReadyH.cons rfl (fun K hK => ?_) (AllReadyH.cons rfl (fun K hK => ?_) AllReadyH.nil)
        · skip
          go_simp
          go_at_call 44; refine (HBc _ (HVw _ hB2)).mono ?_; rintro e w3 ⟨B', d', rfl, hoB, hbB⟩
          have hB3 := hB2.trans (hbB.mono hB2.size)
          have khB3 := key _ hB3
          unfold Two_ at khB3
          refine hK.out _ _ khB3 (fun hShB3 => ?_)
          clear hK K
          refine tk (i := 6) (v := ?vc6) rfl (by kernel_rfl) (by kernel_rfl) (by kernel_rfl) (fun _ _ _ h => h) (by kernel_rfl) ?hc6 hShB3 ?_
          case hc6 => intro w hSw; (try dsimp only at hSw); go_simp; try with_reducible rfl
          try simp only [Act.put, List.setIfInBounds_toArray, List.set_cons_zero, List.set_cons_succ]
          refine tk (i := 8) (v := ?vc8) rfl (by kernel_rfl) (by kernel_rfl) (by kernel_rfl) (fun _ _ _ h => h) (by kernel_rfl) ?hc8 hShB3 ?_
          case hc8 => intro w hSw; (try dsimp only at hSw); go_simp; try with_reducible rfl
          try simp only [Act.put, List.setIfInBounds_toArray, List.set_cons_zero, List.set_cons_succ]
          refine wpAnyH_ready (rs := [9]) (by kernel_rfl) (by simp) ?_
          refine AllReadyH.cons rfl (fun K hK => ?_) AllReadyH.nil
          go_simp
          have hA := hB3.alloc hB3.size (.cells #[.slice none 0 0, .slice none 0 0, .slice none 0 0] 71)
          have khA := key _ hA
          unfold Two_ at khA
          refine hK.out _ _ (by simpa using khA) (fun hShA => ?_)
          clear hK K
          refine wpAnyH_ready (rs := [10]) (by kernel_rfl) (by simp) ?_
          refine AllReadyH.cons rfl (fun K hK => ?_) AllReadyH.nil
          go_simp
          have hF := hB3.alloc hB3.size (.cells #[.slice A' n c', .slice B' m d', .slice a len cap] 71)
          have kF := key _ hF
          unfold Two_ at kF
          refine hK.out _ _ kF (fun _ => ?_)
          clear hK K
          refine wpAnyH_done (by kernel_rfl) ?_ _
          go_wp2_with fail
          go_meet
          exact ⟨w3.heap.size, A', c', B', d', rfl, Box.new _ _ _, own_im HN.out HM.out ((own_keep hoV hbB).alloc _) ((own_less hoB hB2.size).alloc _), hF⟩
        · skip
          go_simp
          have hB3 := hB2.alloc hB2.size (.cells #[.slice none 0 0, .slice none 0 0, .slice none 0 0] 71)
          have khB3 := key _ hB3
          unfold Two_ at khB3
          refine hK.out _ _ (by simpa using khB3) (fun hShB3 => ?_)
          clear hK K
          refine wpAnyH_ready (rs := [5]) (by kernel_rfl) (by simp) ?_
          refine AllReadyH.cons rfl (fun K hK => ?_) AllReadyH.nil
          go_simp
          go_at_call 44; refine (HBc _ (HVw _ hB3)).mono ?_; rintro e w3 ⟨B', d', rfl, hoB, hbB⟩
          have hB4 := hB3.trans (hbB.mono hB3.size)
          have khB4 := key _ hB4
          unfold Two_ at khB4
          refine hK.out _ _ khB4 (fun hShB4 => ?_)
          clear hK K
          refine tk (i := 6) (v := ?vd6) rfl (by kernel_rfl) (by kernel_rfl) (by kernel_rfl) (fun _ _ _ h => h) (by kernel_rfl) ?hd6 hShB4 ?_
          case hd6 => intro w hSw; (try dsimp only at hSw); go_simp; try with_reducible rfl
          try simp only [Act.put, List.setIfInBounds_toArray, List.set_cons_zero, List.set_cons_succ]
          refine tk (i := 8) (v := ?vd8) rfl (by kernel_rfl) (by kernel_rfl) (by kernel_rfl) (fun _ _ _ h => h) (by kernel_rfl) ?hd8 hShB4 ?_
          case hd8 => intro w hSw; (try dsimp only at hSw); go_simp; try with_reducible rfl
          try simp only [Act.put, List.setIfInBounds_toArray, List.set_cons_zero, List.set_cons_succ]
          have hz := (Box.new w2 71 #[.slice none 0 0, .slice none 0 0, .slice none 0 0]).below hbB (by simp)
          obtain ⟨z0, z1, z2, y0, y1, y2⟩ := three_cells hz
          refine wpAnyH_ready (rs := [10]) (by kernel_rfl) (by simp) ?_
          refine AllReadyH.cons rfl (fun K hK => ?_) AllReadyH.nil
          go_simp
          have hF := ((hB4.setCell (p := ⟨w2.heap.size, 0, none⟩) hB2.size (.slice A' n c')).setCell (p := ⟨w2.heap.size, 1, none⟩) hB2.size (.slice B' m d')).setCell (p := ⟨w2.heap.size, 2, none⟩) hB2.size (.slice a len cap)
          have kF := key _ hF
          unfold Two_ at kF
          refine hK.out _ _ kF (fun _ => ?_)
          clear hK K
          refine wpAnyH_done (by kernel_rfl) ?_ _
          go_wp2_with fail
          go_meet
          exact ⟨w2.heap.size, A', c', B', d', rfl, three_set hz _ _ _, own_im HN.out HM.out (own_set3 hz (by decide) (own_keep hoV ((below_new hbB))) _ _ _) (own_set3 hz (by decide) (own_less hoB (Nat.le_trans hB2.size (by simp))) _ _ _), hF⟩
      · skip
        go_simp
        have hB2 := below_drew ((Below.refl w1.heap.size w1).alloc (Nat.le_refl _) (.cells #[.slice none 0 0, .slice none 0 0, .slice none 0 0] 71))
        have khB2 := key _ hB2
        unfold Two_ at khB2
        refine hK.out _ _ khB2 (fun hShB2 => ?_)
        clear hK K
        refine wpAnyH_ready (rs := [2]) (by kernel_rfl) (by simp) ?_
        refine AllReadyH.cons rfl (fun K hK => ?_) AllReadyH.nil
        go_simp
        go_at_call 43; refine (HVc _ (HVw _ hB2)).mono ?_; rintro e w2 ⟨A', c', rfl, hoV, hbV⟩
        have hB3 := hB2.trans (hbV.mono hB2.size)
        have khB3 := key _ hB3
        unfold Two_ at khB3
        refine hK.out _ _ khB3 (fun hShB3 => ?_)
        clear hK K
        refine wpAnyH_ready (rs := [5]) (by kernel_rfl) (by simp) ?_
        refine AllReadyH.cons rfl (fun K hK => ?_) AllReadyH.nil
        go_simp
        go_at_call 44; refine (HBc _ (HVw _ hB3)).mono ?_; rintro e w3 ⟨B', d', rfl, hoB, hbB⟩
        have hB4 := hB3.trans (hbB.mono hB3.size)
        have khB4 := key _ hB4
        unfold Two_ at khB4
        refine hK.out _ _ khB4 (fun hShB4 => ?_)
        clear hK K
        refine tk (i := 6) (v := ?ve6) rfl (by kernel_rfl) (by kernel_rfl) (by kernel_rfl) (fun _ _ _ h => h) (by kernel_rfl) ?he6 hShB4 ?_
        case he6 => intro w hSw; (try dsimp only at hSw); go_simp; try with_reducible rfl
        try simp only [Act.put, List.setIfInBounds_toArray, List.set_cons_zero, List.set_cons_succ]
        refine tk (i := 8) (v := ?ve8) rfl (by kernel_rfl) (by kernel_rfl) (by kernel_rfl) (fun _ _ _ h => h) (by kernel_rfl) ?he8 hShB4 ?_
        case he8 => intro w hSw; (try dsimp only at hSw); go_simp; try with_reducible rfl
        try simp only [Act.put, List.setIfInBounds_toArray, List.set_cons_zero, List.set_cons_succ]
        have hz := ((Box.new w1 71 #[.slice none 0 0, .slice none 0 0, .slice none 0 0]).drew.below hbV (by simp)).below hbB (by have := hB3.size; have := hbV.size; simp at this; omega)
        obtain ⟨z0, z1, z2, y0, y1, y2⟩ := three_cells hz
        refine wpAnyH_ready (rs := [10]) (by kernel_rfl) (by simp) ?_
        refine AllReadyH.cons rfl (fun K hK => ?_) AllReadyH.nil
        go_simp
        have hF := ((hB4.setCell (p := ⟨w1.heap.size, 0, none⟩) (Nat.le_refl _) (.slice A' n c')).setCell (p := ⟨w1.heap.size, 1, none⟩) (Nat.le_refl _) (.slice B' m d')).setCell (p := ⟨w1.heap.size, 2, none⟩) (Nat.le_refl _) (.slice a len cap)
        have kF := key _ hF
        unfold Two_ at kF
        refine hK.out _ _ kF (fun _ => ?_)
        clear hK K
        refine wpAnyH_done (by kernel_rfl) ?_ _
        go_wp2_with fail
        go_meet
        exact ⟨w1.heap.size, A', c', B', d', rfl, three_set hz _ _ _, own_im HN.out HM.out (own_set3 hz (by decide) (own_less (own_keep hoV hbB) (by simp)) _ _ _) (own_set3 hz (by decide) (own_less hoB hB3.size) _ _ _), hF⟩
    case rest =>
      rename World => wx
      obtain ⟨p, A', c', B', d', rfl, hbx, hox, hB4⟩ := hcut
      have hy4 := hy.below hB4 hy.lt
      have hBw := HVw _ hB4
      have hnp : ¬ Bk A' B' p := box_not_bk hbx hox (by decide) (by decide)
      have hn1 : ¬ Bk A' B' (w.heap.size + 1) := not_bk hox (.inl hy.lt)
      have hbk : ∀ b, Bk A' B' b → w.heap.size ≤ b := fun b hb => Nat.le_trans hb0.size (bk_base hox b hb)
      have hpw : w.heap.size ≤ w.heap.size + 1 := Nat.le_succ _
      have hww := hb0.size
      clear hx key hd cd hB4 HVw HVc HBc HR
      have HOX := Lib.hid hox
      clear hox hy hb0
      go_wp2_with fail
      go_loopw [30] (fun i wr => ∃ (k : Nat) (x : Im), k ≤ len2 ∧ i = .int .i64 k ∧ Hid (tellF l out (cs.drop k) x = R) ∧ Hid (x.v.length = n ∧ x.bad.length = m) ∧ Hid (OwnIm w1.heap.size wr x A' c' B' d') ∧ Hid (Fr (Bk A' B') wx wr)) (fun i _ => len2 - (intOf i).toNat)
      case atStart => exact ⟨0, im, by omega, rfl, HRR, ⟨HN.out, HM.out⟩, HOX, Fr.refl _ _⟩
      case round =>
        obtain ⟨k, x, hkl, rfl, HS, HLx, HO, HFr⟩ := hrel
        have hyr := hy4.fr HFr.out hn1
        have hbr := hbx.fr HFr.out hnp
        have hBr : Below w.heap.size w wr := hBw.trans (HFr.out.below hBw.size hbk)
        by_cases hlt : k < len2
        · have hki : k < cs.length := by rw [HLc.out]; exact hlt
          obtain ⟨g, off, rfl, hg, c0, c1⟩ := Cells.at2 (RowF.below HCl.out hBr) hki
          have HF := Lib.hid (tellF_drop l out cs x k hki)
          have HTr : Tags wr a l := RowF.below HT.out hBr
          generalize cs[k] = cl at *
          obtain ⟨s, z⟩ := cl
          simp only at *
          have hFi := Find_any l s a cap (wr.alloc (.cells #[.string s, .int .i64 z] 49)) (by rw [HL.out]; exact hl) (HTr.alloc _)
          rw [HL.out] at hFi
          have HTr' := Lib.hid HTr
          clear HTr
          cases hz : findZ l s with
          | none =>
            have hI : findI l s = -1 := by unfold findI; rw [hz]
            rw [hI] at hFi
            have HXn : Hid (X = (none, 21)) := by
              refine HX1'.out ?_
              rw [← HS.out, HF.out, hz]
            clear hI hz
            go_wp2_with fail
            refine hFi.mono ?_
            rintro e w2 ⟨rfl, hb2⟩
            have hy2 := (hyr.alloc (.cells #[.string s, .int .i64 z] 49)).below hb2 (Nat.lt_of_lt_of_le hyr.lt (by simp))
            have hB2 := hBr.trans ((below_new hb2).mono hBr.size)
            have e0 := hy2.cell 0
            have e1 := hy2.cell 1
            have f0 := hy2.frozen 0
            have f1 := hy2.frozen 1
            simp at e0 e1
            have hy3 := two_set hy2 (.slice none 0 0) (.slice none 0 0)
            have r0 := hy3.cell 0
            have r1 := hy3.cell 1
            simp at r0 r1
            clear hy2 hy3 hyr hy4
            go_wp2_with fail
            rw [HXn.out]
            exact bodyPost_ret (v := .tuple #[.agg #[.slice none 0 0, .slice none 0 0], .int .i64 21]) (by simp [results, Try.results36, go_sem, r0, r1]) rfl (impost_none ((hB2.setCell (p := ⟨w.heap.size + 1, 0, none⟩) hpw _).setCell (p := ⟨w.heap.size + 1, 1, none⟩) hpw _))
          | some i =>
            have hI : findI l s = (i : Int) := by unfold findI; rw [hz]
            rw [hI] at hFi
            obtain ⟨hil, -⟩ := findZ_at hz
            have hgd : l.getD i default = l[i] := by rw [List.getD_eq_getElem?_getD, List.getElem?_eq_getElem hil]; rfl
            have HF2 : Hid (tellF l out (cs.drop k) x = if l[i].out = out then tellF l out (cs.drop (k + 1)) (x.put i (nearZ l[i] z) (!out && decide (nearZ l[i] z ≠ z))) else none) := by
              unfold Hid; rw [HF.out, hz]; simp only [hgd]
            clear HF hI hz hgd
            have hlei := hle _ (List.getElem_mem hil)
            have hil2 : i < len := by rw [← HL.out]; exact hil
            have hil3 : ((i : Nat) : Int) < (len : Int) := by omega
            go_wp2_with fail
            refine hFi.mono ?_
            rintro e w2 ⟨rfl, hb2⟩
            have hT2 : Tags w2 a l := RowF.upto (RowF.alloc HTr'.out (.cells #[.string s, .int .i64 z] 49)) hb2 (Nat.le_refl _)
            obtain ⟨gt, ot, rfl, hgt, -, t1, -, -⟩ := Tags.at4 hT2 hil
            have HT2 := Lib.hid hT2
            clear hT2
            by_cases ho : l[i].out = out
            · have HF3 : Hid (tellF l out (cs.drop (k + 1)) (x.put i (nearZ l[i] z) (!out && decide (nearZ l[i] z ≠ z))) = R) := by
                unfold Hid; rw [← HS.out, HF2.out, if_pos ho]
              have hxv := HLx.out.1
              have hxb := HLx.out.2
              have HSt := store_any w1.heap.size l x _ A' B' cap c' d' i z w2 ((HO.out.below ((Below.refl _ _).alloc (Nat.le_refl _) _)).below hb2) HT2.out hil (by rw [hxv, HVL.out]; exact hil2) (by rw [hxb, HBL.out]; exact hil2) (by rw [HL.out]; exact hl) (by rw [hxv]; exact hn) (by rw [hxb]; exact hm) hlei
              rw [HL.out, hxv, hxb, ho] at HSt
              have HXX := Lib.hid (put_len x i (nearZ l[i] z) (!out && decide (nearZ l[i] z ≠ z)))
              generalize x.put i (nearZ l[i] z) (!out && decide (nearZ l[i] z ≠ z)) = x' at *
              rw [ho] at t1
              have dq : (out != out) = false := by simp
              have hbx2 := (hbr.alloc (.cells #[.string s, .int .i64 z] 49)).below hb2 (Nat.lt_of_lt_of_le hbr.lt (by simp))
              have hcx2 := (Box.new wr 49 #[.string s, .int .i64 z]).below hb2 (by simp)
              have g0 := hbx2.cell 0
              have g1 := hbx2.cell 1
              have g2 := hbx2.cell 2
              have q1 := hcx2.cell 1
              simp at g0 g1 g2 q1
              clear hbx2 hcx2 hxv hxb c0 c1
              have HLI := Lib.hid hlei
              clear hlei ho
              generalize l[i] = t at *
              go_wp2_with (go_at_call 45; refine HSt.mono ?_; rintro e w3 ⟨rfl, ho3, hf3⟩)
              go_roundw
              case rel => exact ⟨k + 1, x', by omega, by go_num, HF3, ⟨by rw [HXX.out.1]; exact HLx.out.1, by rw [HXX.out.2]; exact HLx.out.2⟩, ho3, ((HFr.out.alloc _).trans (Fr.of_below hb2)).trans hf3⟩
              case measure => simp [intOf]; omega
            · have HXn : Hid (X = (none, 21)) := by
                refine HX1'.out ?_
                rw [← HS.out, HF2.out, if_neg ho]
              have hy2 := (hyr.alloc (.cells #[.string s, .int .i64 z] 49)).below hb2 (Nat.lt_of_lt_of_le hyr.lt (by simp))
              have hB2 := hBr.trans ((below_new hb2).mono hBr.size)
              have e0 := hy2.cell 0
              have e1 := hy2.cell 1
              have f0 := hy2.frozen 0
              have f1 := hy2.frozen 1
              simp at e0 e1
              have hy3 := two_set hy2 (.slice none 0 0) (.slice none 0 0)
              have r0 := hy3.cell 0
              have r1 := hy3.cell 1
              simp at r0 r1
              clear hy2 hy3 hyr hy4 c0 c1
              have HLI := Lib.hid hlei
              clear hlei
              generalize l[i] = t at *
              have dq : (t.out == out) = false := by revert ho; cases t.out <;> cases out <;> simp
              clear ho
              go_wp2_with fail
              rw [HXn.out]
              exact bodyPost_ret (v := .tuple #[.agg #[.slice none 0 0, .slice none 0 0], .int .i64 21]) (by simp [results, Try.results36, go_sem, r0, r1]) rfl (impost_none ((hB2.setCell (p := ⟨w.heap.size + 1, 0, none⟩) hpw _).setCell (p := ⟨w.heap.size + 1, 1, none⟩) hpw _))
        · have HXs : Hid (X = (some x, 0)) := by
            refine HX2'.out x ?_
            rw [← HS.out, List.drop_eq_nil_of_le (by rw [HLc.out]; omega)]; rfl
          have e0 := hyr.cell 0
          have e1 := hyr.cell 1
          have f0 := hyr.frozen 0
          have f1 := hyr.frozen 1
          simp at e0 e1
          have g0 := hbr.cell 0
          have g1 := hbr.cell 1
          simp at g0 g1
          have hy3 := two_set hyr (.slice A' n c') (.slice B' m d')
          have r0 := hy3.cell 0
          have r1 := hy3.cell 1
          simp at r0 r1
          have HFin := Lib.hid ((hBr.setCell (p := ⟨w.heap.size + 1, 0, none⟩) hpw (.slice A' n c')).setCell (p := ⟨w.heap.size + 1, 1, none⟩) hpw (.slice B' m d'))
          have HO2 : Hid (OwnIm w1.heap.size ((wr.setCell ⟨w.heap.size + 1, 0, none⟩ (.slice A' n c')).setCell ⟨w.heap.size + 1, 1, none⟩ (.slice B' m d')) x A' c' B' d') := own_im2 hyr (by decide) (by decide) HO.out _ _
          clear hy3 hyr hy4 hbr hBr
          go_wp2_with fail
          rw [HXs.out]
          exact bodyPost_ret (v := .tuple #[.agg #[.slice A' n c', .slice B' m d'], .int .i64 0]) (by simp [results, Try.results36, go_sem, r0, r1]) rfl (impost_some HLx.out.1 HLx.out.2 HO2.out hww HFin.out)
end Go.Proofs.Ytppffmmngomijaa.Tg
