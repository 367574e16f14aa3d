/-
  The document's reckon and Eval.
-/
import Derived.Test.YtlbmojflinkfcaaDoorExV5
import Derived.Test.YtlbmojflinkfcaaDoorExV2
import Derived.Deep.AppendLies
namespace Go.Proofs.YtlbmojflinkfcaaDoor.Ep
open Go.RowKit Lx

theorem quiet_l {P : Program} {f : FuncId} {args : Array Value} {w : World} {n : Nat} {v : Value}
    (h : Calls P f args (w.drewN n) fun e w' => e = .returned v ∧ w.drewN n = w') : Calls P f args (w.drewN n) fun e w'' => e = .returned v ∧ ∃ m, w'' = w.drewN m :=
  h.mono fun _ _ ⟨he, hm⟩ => ⟨he, n, hm.symm⟩
theorem ownE_keep {w w' : World} {base : Nat} {e : TypeId} {size : Nat} {v : Value} {n : Nat} {xs : List Value} (h : w.ownsRow base e size v n xs) (hb : Below w.heap.size w w') : w'.ownsRow base e size v n xs := by
  refine ⟨h.1, ?_⟩
  rcases h.2 with h | ⟨g, cap, cur, hv, hbg, hh, r⟩
  · exact .inl h
  · exact .inr ⟨g, cap, cur, hv, hbg, (hb.block g (Array.getElem?_eq_some_iff.1 hh).1).trans hh, r⟩

def RkP (p : Int × Int) (w : World) (e : Ending) (w' : World) : Prop := e = .returned (.tuple #[.int .i64 p.1, .int .i64 p.2]) ∧ Below w.heap.size w w'
theorem RkP.mk_ {a b : Int} {p : Int × Int} {w w' : World} (h : p = (a, b)) (hb : Below w.heap.size w w') : RkP p w (.returned (.tuple #[.int .i64 a, .int .i64 b])) w' := ⟨ret_tw h, hb⟩

set_option maxRecDepth 100000 in
set_option maxHeartbeats 4000000 in
theorem reckon_0 (n : Int) (nb : ByteArray) (a : Option Addr) (len cap : Nat) (ve : Value) (w : World) :
    Calls Tryd.prog 18 #[.agg #[.int .i64 0, .int .i64 n, .string nb, .slice a len cap], ve] w (RkP (n, 0) w) := by
  go_enter Tryd.func18, Tryd.ntmps18
  go_wp2
  go_ret2
  exact RkP.mk_ rfl ((Below.refl _ _).alloc (Nat.le_refl _) _)

set_option maxRecDepth 100000 in
set_option maxHeartbeats 4000000 in
theorem reckon_n (env : List (List UInt8 × Int)) (n : Int) (nm : List UInt8) (a : Option Addr) (len cap : Nat) (ve : Value) (w : World) (hE : EnvV w env ve) (p : Int × Int) (HP : Hid (p = match findC env nm with | some z => (z, 0) | none => (0, 21))) :
    Calls Tryd.prog 18 #[.agg #[.int .i64 1, .int .i64 n, .string ⟨nm.toArray⟩, .slice a len cap], ve] w (RkP p w) := by
  obtain ⟨ea, ecap, rfl, hecap, hek⟩ := hE.form
  have hb0 : ∀ x, Below w.heap.size w (w.alloc x) := fun x => (Below.refl _ _).alloc (Nat.le_refl _) _
  have HC := Lib.hid (refCell_any env nm _ _ (hE.below (hb0 (.cells #[.int .i64 1, .int .i64 n, .string ⟨nm.toArray⟩, .slice a len cap] 24)) (Nat.le_refl _)))
  clear hecap hek hE
  generalize findC env nm = X at *
  generalize env.length = el at *
  go_enter Tryd.func18, Tryd.ntmps18
  go_wp2_with fail
  refine HC.out.mono ?_
  rintro e w1 ⟨rfl, rfl⟩
  clear HC
  cases X with
  | none =>
    have HR : Hid (p = (0, 21)) := HP
    go_wp2
    go_ret2
    exact RkP.mk_ HR.out (hb0 _)
  | some z =>
    have HR : Hid (p = (z, 0)) := HP
    go_wp2
    go_ret2
    exact RkP.mk_ HR.out (hb0 _)

theorem info_intE : (Tryd.prog.info? 3).map (fun i => (i.zero, i.size, i.bytes)) = some (some (.int .i64 0), 1, 8) := by kernel_rfl
theorem newE (w : World) (z : Int) : ∀ j u, ([Value.int .i64 z])[j]? = some u → (w.alloc (.cells #[.int .i64 z] 3)).cell? ((⟨w.heap.size, 0, none⟩ : Addr).add j) = some u := by
  intro j u h
  cases j with
  | zero => simp at h; subst h; simp [Addr.add]
  | succ j => simp at h
theorem oneE (z : Int) : ∀ u ∈ [Value.int .i64 z], u.oneCell' = true := by
  intro u hu
  simp at hu
  subst hu
  rfl

set_option maxRecDepth 100000 in
set_option maxHeartbeats 4000000 in
theorem reckon_neg (n : Int) (nb : ByteArray) (env : List (List UInt8 × Int)) (k : Ex) (IH : Hid (∀ (lo : Nat → Prop) (v ve : Value) (w : World), TreeV lo w k v → EnvV w env ve → Calls Tryd.prog 18 #[v, ve] w (RkP (valE env k) w)))
    (lo : Nat → Prop) (g off cap : Nat) (ve : Value) (w : World) (_hcap : 1 ≤ cap) (hg1 : lo g) (hg2 : g < w.heap.size) (hTL : TreeL lo w g off [k]) (hE : EnvV w env ve)
    (hv : -9223372036854775808 ≤ (valE env k).1 ∧ (valE env k).1 ≤ 9223372036854775807) (P : Int × Int) (HP : Hid (P = if (valE env k).2 = 0 then oneZ 2 (valE env k).1 else (0, (valE env k).2))) :
    Calls Tryd.prog 18 #[.agg #[.int .i64 2, .int .i64 n, .string nb, .slice (some ⟨g, off, none⟩) 1 cap], ve] w (RkP P w) := by
  obtain ⟨inf, hinf, hz0, hz1, hz2⟩ := info_parts info_intE
  have hb0 : Below w.heap.size w (w.alloc (.cells #[.int .i64 2, .int .i64 n, .string nb, .slice (some ⟨g, off, none⟩) 1 cap] 24)) := (Below.refl _ _).alloc (Nat.le_refl _) _
  have hTr := TreeL.keep (w' := (w.alloc (.cells #[.int .i64 2, .int .i64 n, .string nb, .slice (some ⟨g, off, none⟩) 1 cap] 24))) hb0.size (fun b _ hb => hb0.block b hb) g hg1 hg2 off _ hTL
  rw [TreeL] at hTr
  obtain ⟨⟨ka, kcap, c0, c1, c2, c3, hkt⟩, -⟩ := hTr
  have hIH := Lib.hid (IH.out lo _ _ _ hkt (hE.below hb0 (Nat.le_refl _)))
  obtain ⟨ea, ecap, rfl, hecap, hek⟩ := hE.form
  clear hecap hek hE hTL hkt IH
  unfold exV at hIH
  generalize valE env k = q at *
  obtain ⟨z, f⟩ := q
  simp only at hv HP
  generalize env.length = el at *
  go_enter Tryd.func18, Tryd.ntmps18
  go_wp2_with fail
  refine wp_loop_rounds 2 ?_
  rw [rounds_succ]
  go_wp2_with fail
  refine hIH.out.mono ?_
  rintro e w1 ⟨rfl, hb⟩
  simp only
  have hb1 : Below w.heap.size w w1 := hb0.trans (hb.mono (by simp))
  have d0 : w1.cell? ⟨w.heap.size, 0, none⟩ = some (.int .i64 2) := by rw [hb.cell (by simp)]; simp
  have d3 : w1.cell? ⟨w.heap.size, 3, none⟩ = some (.slice (some ⟨g, off, none⟩) 1 cap) := by rw [hb.cell (by simp)]; simp
  have hsz : w.heap.size < w1.heap.size := by have := hb.size; simp at this; omega
  clear hIH hb hb0 c0 c1 c2 c3
  by_cases hf : f = 0
  · have df : (f != 0) = false := by simp [hf]
    have HR : Hid (P = oneZ 2 z) := by unfold Hid; rw [HP.out]; simp [hf]
    clear hf HP
    go_wp2_with (at_builtin; refine wpList_append_lies _ rfl _ _ 60 rfl (w.heap.size + 1) 3 inf (.int .i64 0) 1 8 Tryd.underlying60 hinf hz0 hz1 hz2 rfl (by decide) _ _ _ rfl (World.ownsRow_nil _ _ _ _) ⟨w1.heap.size, 0, none⟩ 1 1 [.int .i64 z] rfl rfl ?c1 ?c2 ?c3 ?c4 ?c5 ?c6 (w1.heap.size + 1) ?c7 ?_)
    case c1 => exact newE w1 z
    case c2 => exact oneE z
    case c3 => decide
    case c4 => decide
    case c5 => decide
    case c6 => simp; omega
    case c7 => simp
    intro g1 cap1 w2 h1 hgr hor hlt
    have x0 := h1.cells (g := g1) rfl 0 (.int .i64 z) rfl
    have hb2 : Below w.heap.size w w2 := (hb1.alloc hb1.size _).grown hgr (by simp; omega) (by intro k hk; cases hk)
    have b0 : w2.cell? ⟨w.heap.size, 0, none⟩ = some (.int .i64 2) := by
      rw [World.cell?_of_block (w := w1) ((hgr.block _ (by simp; omega) (by intro h; cases h)).trans (Below.heap_alloc _ _ _ hsz))]; exact d0
    have b3 : w2.cell? ⟨w.heap.size, 3, none⟩ = some (.slice (some ⟨g, off, none⟩) 1 cap) := by
      rw [World.cell?_of_block (w := w1) ((hgr.block _ (by simp; omega) (by intro h; cases h)).trans (Below.heap_alloc _ _ _ hsz))]; exact d3
    have hsz2 : w.heap.size < w2.heap.size := by have := hgr.size; simp at this; omega
    simp [Addr.add] at x0
    clear h1 hgr hor hb1 d0 d3
    go_wp2_with fail
    rw [rounds_succ]
    go_wp2_with fail
    refine (refTwo_any 5 0 z _ (by omega) (by omega) (by omega) (by omega) hv.1 hv.2).mono ?_
    rintro e w3 ⟨rfl, rfl⟩
    have HR2 : Hid (P = twoZ 5 0 z) := by unfold Hid; rw [HR.out]; show chk (-z) = chk (0 - z); rw [Int.zero_sub]
    go_wp2
    go_ret2
    exact RkP.mk_ HR2.out hb2
  · have df : (f != 0) = true := by simp [hf]
    have HR : Hid (P = (0, f)) := by unfold Hid; rw [HP.out]; simp [hf]
    clear hf HP
    go_wp2
    go_ret2
    exact RkP.mk_ HR.out hb1

set_option maxRecDepth 100000 in
set_option maxHeartbeats 4000000 in
theorem reckon_not (n : Int) (nb : ByteArray) (env : List (List UInt8 × Int)) (k : Ex) (IH : Hid (∀ (lo : Nat → Prop) (v ve : Value) (w : World), TreeV lo w k v → EnvV w env ve → Calls Tryd.prog 18 #[v, ve] w (RkP (valE env k) w)))
    (lo : Nat → Prop) (g off cap : Nat) (ve : Value) (w : World) (_hcap : 1 ≤ cap) (hg1 : lo g) (hg2 : g < w.heap.size) (hTL : TreeL lo w g off [k]) (hE : EnvV w env ve)
    (hv : -9223372036854775808 ≤ (valE env k).1 ∧ (valE env k).1 ≤ 9223372036854775807) (P : Int × Int) (HP : Hid (P = if (valE env k).2 = 0 then oneZ 3 (valE env k).1 else (0, (valE env k).2))) :
    Calls Tryd.prog 18 #[.agg #[.int .i64 3, .int .i64 n, .string nb, .slice (some ⟨g, off, none⟩) 1 cap], ve] w (RkP P w) := by
  obtain ⟨inf, hinf, hz0, hz1, hz2⟩ := info_parts info_intE
  have hb0 : Below w.heap.size w (w.alloc (.cells #[.int .i64 3, .int .i64 n, .string nb, .slice (some ⟨g, off, none⟩) 1 cap] 24)) := (Below.refl _ _).alloc (Nat.le_refl _) _
  have hTr := TreeL.keep (w' := (w.alloc (.cells #[.int .i64 3, .int .i64 n, .string nb, .slice (some ⟨g, off, none⟩) 1 cap] 24))) hb0.size (fun b _ hb => hb0.block b hb) g hg1 hg2 off _ hTL
  rw [TreeL] at hTr
  obtain ⟨⟨ka, kcap, c0, c1, c2, c3, hkt⟩, -⟩ := hTr
  have hIH := Lib.hid (IH.out lo _ _ _ hkt (hE.below hb0 (Nat.le_refl _)))
  obtain ⟨ea, ecap, rfl, hecap, hek⟩ := hE.form
  clear hecap hek hE hTL hkt IH
  unfold exV at hIH
  generalize valE env k = q at *
  obtain ⟨z, f⟩ := q
  simp only at hv HP
  generalize env.length = el at *
  go_enter Tryd.func18, Tryd.ntmps18
  go_wp2_with fail
  refine wp_loop_rounds 2 ?_
  rw [rounds_succ]
  go_wp2_with fail
  refine hIH.out.mono ?_
  rintro e w1 ⟨rfl, hb⟩
  simp only
  have hb1 : Below w.heap.size w w1 := hb0.trans (hb.mono (by simp))
  have d0 : w1.cell? ⟨w.heap.size, 0, none⟩ = some (.int .i64 3) := by rw [hb.cell (by simp)]; simp
  have d3 : w1.cell? ⟨w.heap.size, 3, none⟩ = some (.slice (some ⟨g, off, none⟩) 1 cap) := by rw [hb.cell (by simp)]; simp
  have hsz : w.heap.size < w1.heap.size := by have := hb.size; simp at this; omega
  clear hIH hb hb0 c0 c1 c2 c3
  by_cases hf : f = 0
  · have df : (f != 0) = false := by simp [hf]
    have HR : Hid (P = oneZ 3 z) := by unfold Hid; rw [HP.out]; simp [hf]
    clear hf HP
    go_wp2_with (at_builtin; refine wpList_append_lies _ rfl _ _ 60 rfl (w.heap.size + 1) 3 inf (.int .i64 0) 1 8 Tryd.underlying60 hinf hz0 hz1 hz2 rfl (by decide) _ _ _ rfl (World.ownsRow_nil _ _ _ _) ⟨w1.heap.size, 0, none⟩ 1 1 [.int .i64 z] rfl rfl ?c1 ?c2 ?c3 ?c4 ?c5 ?c6 (w1.heap.size + 1) ?c7 ?_)
    case c1 => exact newE w1 z
    case c2 => exact oneE z
    case c3 => decide
    case c4 => decide
    case c5 => decide
    case c6 => simp; omega
    case c7 => simp
    intro g1 cap1 w2 h1 hgr hor hlt
    have x0 := h1.cells (g := g1) rfl 0 (.int .i64 z) rfl
    have hb2 : Below w.heap.size w w2 := (hb1.alloc hb1.size _).grown hgr (by simp; omega) (by intro k hk; cases hk)
    have b0 : w2.cell? ⟨w.heap.size, 0, none⟩ = some (.int .i64 3) := by
      rw [World.cell?_of_block (w := w1) ((hgr.block _ (by simp; omega) (by intro h; cases h)).trans (Below.heap_alloc _ _ _ hsz))]; exact d0
    have b3 : w2.cell? ⟨w.heap.size, 3, none⟩ = some (.slice (some ⟨g, off, none⟩) 1 cap) := by
      rw [World.cell?_of_block (w := w1) ((hgr.block _ (by simp; omega) (by intro h; cases h)).trans (Below.heap_alloc _ _ _ hsz))]; exact d3
    have hsz2 : w.heap.size < w2.heap.size := by have := hgr.size; simp at this; omega
    simp [Addr.add] at x0
    clear h1 hgr hor hb1 d0 d3
    go_wp2_with fail
    rw [rounds_succ]
    go_wp2_with fail
    refine (refTruth_any _ _).mono ?_
    rintro e w3 ⟨rfl, rfl⟩
    have HR2 : Hid (P = (tru (z == 0), 0)) := by unfold Hid; rw [HR.out]; rfl
    go_wp2
    go_ret2
    exact RkP.mk_ HR2.out hb2
  · have df : (f != 0) = true := by simp [hf]
    have HR : Hid (P = (0, f)) := by unfold Hid; rw [HP.out]; simp [hf]
    clear hf HP
    go_wp2
    go_ret2
    exact RkP.mk_ HR.out hb1

set_option maxRecDepth 100000 in
set_option maxHeartbeats 8000000 in
theorem reckon_two (op n : Int) (nb : ByteArray) (env : List (List UInt8 × Int)) (k l : Ex) (ho1 : 4 ≤ op) (ho2 : op ≤ 16)
    (IH : Hid (∀ (lo : Nat → Prop) (v ve : Value) (w : World), TreeV lo w k v → EnvV w env ve → Calls Tryd.prog 18 #[v, ve] w (RkP (valE env k) w)))
    (JH : Hid (∀ (lo : Nat → Prop) (v ve : Value) (w : World), TreeV lo w l v → EnvV w env ve → Calls Tryd.prog 18 #[v, ve] w (RkP (valE env l) w)))
    (lo : Nat → Prop) (g off cap : Nat) (ve : Value) (w : World) (_hcap : 2 ≤ cap) (hg1 : lo g) (hg2 : g < w.heap.size) (hTL : TreeL lo w g off [k, l]) (hE : EnvV w env ve)
    (hv : -9223372036854775808 ≤ (valE env k).1 ∧ (valE env k).1 ≤ 9223372036854775807) (hu : -9223372036854775808 ≤ (valE env l).1 ∧ (valE env l).1 ≤ 9223372036854775807)
    (P : Int × Int) (HP : Hid (P = if (valE env k).2 = 0 then (if (valE env l).2 = 0 then twoZ op (valE env k).1 (valE env l).1 else (0, (valE env l).2)) else (0, (valE env k).2))) :
    Calls Tryd.prog 18 #[.agg #[.int .i64 op, .int .i64 n, .string nb, .slice (some ⟨g, off, none⟩) 2 cap], ve] w (RkP P w) := by
  obtain ⟨inf, hinf, hz0, hz1, hz2⟩ := info_parts info_intE
  have hb0 : Below w.heap.size w (w.alloc (.cells #[.int .i64 op, .int .i64 n, .string nb, .slice (some ⟨g, off, none⟩) 2 cap] 24)) := (Below.refl _ _).alloc (Nat.le_refl _) _
  have hTr := TreeL.keep (w' := (w.alloc (.cells #[.int .i64 op, .int .i64 n, .string nb, .slice (some ⟨g, off, none⟩) 2 cap] 24))) hb0.size (fun b _ hb => hb0.block b hb) g hg1 hg2 off _ hTL
  rw [TreeL] at hTr
  obtain ⟨⟨ka, kcap, c0, c1, c2, c3, hkt⟩, -⟩ := hTr
  have hTL2 := hTL
  rw [TreeL, TreeL] at hTL2
  obtain ⟨-, ⟨la, lcap, e0, e1, e2, e3, hlt⟩, -⟩ := hTL2
  have hIH := Lib.hid (IH.out lo _ _ _ hkt (hE.below hb0 (Nat.le_refl _)))
  have HEN := Lib.hid hE
  obtain ⟨ea, ecap, rfl, hecap, hek⟩ := hE.form
  clear hecap hek hE hTL hkt IH
  unfold exV at hIH
  generalize valE env k = q at *
  obtain ⟨z, f⟩ := q
  generalize valE env l = q2 at *
  obtain ⟨y, f2⟩ := q2
  simp only at hv hu HP
  generalize hel : env.length = el at *
  clear hel
  have n2 : (op == 0) = false := by simp; omega
  have n3 : (op == 1) = false := by simp; omega
  have n4 : (op == 2) = false := by simp; omega
  have n5 : (op == 3) = false := by simp; omega
  go_enter Tryd.func18, Tryd.ntmps18
  go_wp2_with fail
  refine wp_loop_rounds 3 ?_
  rw [rounds_succ]
  go_wp2_with fail
  refine hIH.out.mono ?_
  rintro e w1 ⟨rfl, hb⟩
  simp only
  have hb1 : Below w.heap.size w w1 := hb0.trans (hb.mono (by simp))
  have d0 : w1.cell? ⟨w.heap.size, 0, none⟩ = some (.int .i64 op) := by rw [hb.cell (by simp)]; simp
  have d3 : w1.cell? ⟨w.heap.size, 3, none⟩ = some (.slice (some ⟨g, off, none⟩) 2 cap) := by rw [hb.cell (by simp)]; simp
  have hsz : w.heap.size < w1.heap.size := by have := hb.size; simp at this; omega
  clear hIH hb hb0 c0 c1 c2 c3
  by_cases hf : f = 0
  · have df : (f != 0) = false := by simp [hf]
    have HR : Hid (P = if f2 = 0 then twoZ op z y else (0, f2)) := by unfold Hid; rw [HP.out]; simp [hf]
    clear hf HP
    go_wp2_with (at_builtin; refine wpList_append_lies _ rfl _ _ 60 rfl (w.heap.size + 1) 3 inf (.int .i64 0) 1 8 Tryd.underlying60 hinf hz0 hz1 hz2 rfl (by decide) _ _ _ rfl (World.ownsRow_nil _ _ _ _) ⟨w1.heap.size, 0, none⟩ 1 1 [.int .i64 z] rfl rfl ?c1 ?c2 ?c3 ?c4 ?c5 ?c6 (w1.heap.size + 1) ?c7 ?_)
    case c1 => exact newE w1 z
    case c2 => exact oneE z
    case c3 => decide
    case c4 => decide
    case c5 => decide
    case c6 => simp; omega
    case c7 => simp
    intro g1 cap1 w2 h1 hgr hor hlt1
    have hb2 : Below w.heap.size w w2 := (hb1.alloc hb1.size _).grown hgr (by simp; omega) (by intro k hk; cases hk)
    have b0 : w2.cell? ⟨w.heap.size, 0, none⟩ = some (.int .i64 op) := by
      rw [World.cell?_of_block (w := w1) ((hgr.block _ (by simp; omega) (by intro h; cases h)).trans (Below.heap_alloc _ _ _ hsz))]; exact d0
    have b3 : w2.cell? ⟨w.heap.size, 3, none⟩ = some (.slice (some ⟨g, off, none⟩) 2 cap) := by
      rw [World.cell?_of_block (w := w1) ((hgr.block _ (by simp; omega) (by intro h; cases h)).trans (Below.heap_alloc _ _ _ hsz))]; exact d3
    have hsz2 : w.heap.size < w2.heap.size := by have := hgr.size; simp at this; omega
    rw [← hb2.cell (p := ⟨g, _, none⟩) hg2] at e0 e1 e2 e3
    have hJH := Lib.hid (JH.out lo _ _ _ (hlt.below hb2 (Nat.le_refl _)) (HEN.out.below hb2 (Nat.le_refl _)))
    unfold exV at hJH
    have hg1b : w.heap.size + 1 ≤ g1 := (h1.lt g1 rfl).1
    clear hgr hor hb1 d0 d3 hlt HEN JH
    go_wp2_with fail
    rw [rounds_succ]
    go_wp2_with fail
    refine hJH.out.mono ?_
    rintro e w3 ⟨rfl, hb⟩
    have hb3 : Below w.heap.size w w3 := hb2.trans (hb.mono hb2.size)
    rw [← hb.cell (p := ⟨w.heap.size, _, none⟩) hsz2] at b0 b3
    have hsz3 : w.heap.size < w3.heap.size := by have := hb.size; omega
    have h3 := ownE_keep h1 hb
    clear hJH hb hb2 e0 e1 e2 e3 h1
    by_cases hf2 : f2 = 0
    · have df2 : (f2 != 0) = false := by simp [hf2]
      have HR2 : Hid (P = twoZ op z y) := by unfold Hid; rw [HR.out]; simp [hf2]
      clear hf2 HR
      go_wp2_with (at_builtin; refine wpList_append_lies _ rfl _ _ 60 rfl (w.heap.size + 1) 3 inf (.int .i64 0) 1 8 Tryd.underlying60 hinf hz0 hz1 hz2 rfl (by decide) _ _ _ rfl (h3.alloc _) ⟨w3.heap.size, 0, none⟩ 1 1 [.int .i64 y] rfl rfl ?c1 ?c2 ?c3 ?c4 ?c5 ?c6 (w3.heap.size + 1) ?c7 ?_)
      case c1 => exact newE w3 y
      case c2 => exact oneE y
      case c3 => decide
      case c4 => decide
      case c5 => decide
      case c6 => simp; omega
      case c7 => simp
      intro g4 cap4 w4 h4 hgr hor hlt4
      have x0 := h4.cells (g := g4) rfl 0 (.int .i64 z) rfl
      have x1 := h4.cells (g := g4) rfl 1 (.int .i64 y) rfl
      have hb4 : Below w.heap.size w w4 := (hb3.alloc hb3.size _).grown hgr (by simp; omega) (by intro k hk; simp [Value.ownBlock] at hk; omega)
      have b0' : w4.cell? ⟨w.heap.size, 0, none⟩ = some (.int .i64 op) := by
        rw [World.cell?_of_block (w := w3) ((hgr.block _ (by simp; omega) (by intro h; simp [Value.ownBlock] at h; omega)).trans (Below.heap_alloc _ _ _ hsz3))]; exact b0
      have b3' : w4.cell? ⟨w.heap.size, 3, none⟩ = some (.slice (some ⟨g, off, none⟩) 2 cap) := by
        rw [World.cell?_of_block (w := w3) ((hgr.block _ (by simp; omega) (by intro h; simp [Value.ownBlock] at h; omega)).trans (Below.heap_alloc _ _ _ hsz3))]; exact b3
      have hsz4 : w.heap.size < w4.heap.size := by have := hgr.size; simp at this; omega
      simp [Addr.add] at x0 x1
      have HT := Lib.hid (fun w => refTwo_any op z y w ho1 ho2 hv.1 hv.2 hu.1 hu.2)
      clear h4 hgr hor hb3 b0 b3 h3
      go_wp2_with fail
      rw [rounds_succ]
      go_wp2_with fail
      go_quiet ((first | (go_at_call 30; exact quiet_l (HT.out _))))
      go_wp2
      go_ret2
      exact RkP.mk_ HR2.out (hb4.drewN _)
    · have df2 : (f2 != 0) = true := by simp [hf2]
      have HR2 : Hid (P = (0, f2)) := by unfold Hid; rw [HR.out]; simp [hf2]
      clear hf2 HR
      go_wp2
      go_ret2
      exact RkP.mk_ HR2.out hb3
  · have df : (f != 0) = true := by simp [hf]
    have HR : Hid (P = (0, f)) := by unfold Hid; rw [HP.out]; simp [hf]
    clear hf HP
    go_wp2
    go_ret2
    exact RkP.mk_ HR.out hb1

theorem opK_lt {op : Int} (h : inT op = true) (h1 : opK op = 1) : op = 2 ∨ op = 3 := by
  have h' := (inT_iff op).1 h
  have : op = 0 ∨ op = 1 ∨ op = 2 ∨ op = 3 ∨ (4 ≤ op ∧ op ≤ 16) := by omega
  rcases this with rfl | rfl | rfl | rfl | h4
  · exact absurd h1 (by decide)
  · exact absurd h1 (by decide)
  · exact Or.inl rfl
  · exact Or.inr rfl
  · rw [opK_ge h4.1 h4.2] at h1; omega
theorem opK_two {op : Int} (h : inT op = true) (h1 : opK op = 2) : 4 ≤ op ∧ op ≤ 16 := by
  have h' := (inT_iff op).1 h
  have : op = 0 ∨ op = 1 ∨ op = 2 ∨ op = 3 ∨ (4 ≤ op ∧ op ≤ 16) := by omega
  rcases this with rfl | rfl | rfl | rfl | h4
  · exact absurd h1 (by decide)
  · exact absurd h1 (by decide)
  · exact absurd h1 (by decide)
  · exact absurd h1 (by decide)
  · exact h4
theorem opK_none {op : Int} (h : inT op = true) (h1 : opK op = 0) : op = 0 ∨ op = 1 := by
  have h' := (inT_iff op).1 h
  have : op = 0 ∨ op = 1 ∨ op = 2 ∨ op = 3 ∨ (4 ≤ op ∧ op ≤ 16) := by omega
  rcases this with rfl | rfl | rfl | rfl | h4
  · exact Or.inl rfl
  · exact Or.inr rfl
  · exact absurd h1 (by decide)
  · exact absurd h1 (by decide)
  · rw [opK_ge h4.1 h4.2] at h1; omega

theorem reckon_any (env : List (List UInt8 × Int)) (hN : ∀ c ∈ env, -9223372036854775808 ≤ c.2 ∧ c.2 ≤ 9223372036854775807) (t : Ex) : goodE t → ∀ (lo : Nat → Prop) (v ve : Value) (w : World), TreeV lo w t v → EnvV w env ve →
    Calls Tryd.prog 18 #[v, ve] w (RkP (valE env t) w) := by
  induction t using Ex.ind with
  | h op n nm ks ih =>
    intro hg lo v ve w hT hE
    rw [goodE] at hg
    obtain ⟨hf, hn, hgl⟩ := hg
    unfold TreeV at hT
    obtain ⟨a, cap, rfl, hcap, hk⟩ := hT
    have hin := (formed_true hf).1
    unfold exV
    rcases opK_012 hin with h | h | h
    · rcases opK_none hin h with rfl | rfl
      · have e := valE_0 env 0 n nm ks h
        rw [e]
        exact reckon_0 n _ a _ cap ve w
      · have e := valE_0 env 1 n nm ks h
        rw [e]
        exact reckon_n env n nm a _ cap ve w hE _ (Lib.hid rfl)
    · obtain ⟨k, rfl⟩ := kids_1 hf h
      obtain ⟨g, off, rfl, hg1, hg2, hTL⟩ := hk (by simp)
      rw [goodL] at hgl
      have hb := valE_bd env hN k hgl.1
      rcases opK_lt hin h with rfl | rfl
      · exact reckon_neg n _ env k (Lib.hid (ih k (by simp) hgl.1)) lo g off cap ve w hcap hg1 hg2 hTL hE hb _ (Lib.hid (valE_1 env 2 n nm k h))
      · exact reckon_not n _ env k (Lib.hid (ih k (by simp) hgl.1)) lo g off cap ve w hcap hg1 hg2 hTL hE hb _ (Lib.hid (valE_1 env 3 n nm k h))
    · obtain ⟨k, l, rfl⟩ := kids_2 hf h
      obtain ⟨g, off, rfl, hg1, hg2, hTL⟩ := hk (by simp)
      rw [goodL, goodL] at hgl
      have hb := valE_bd env hN k hgl.1
      have hc := valE_bd env hN l hgl.2.1
      obtain ⟨h1, h2⟩ := opK_two hin h
      exact reckon_two op n _ env k l h1 h2 (Lib.hid (ih k (by simp) hgl.1)) (Lib.hid (ih l (by simp) hgl.2.1)) lo g off cap ve w hcap hg1 hg2 hTL hE hb hc _ (Lib.hid (valE_2 env op n nm k l h))

set_option maxRecDepth 100000 in
set_option maxHeartbeats 1000000 in
theorem refEval_any (t : Ex) (lo : Nat → Prop) (v ve : Value) (env : List (List UInt8 × Int)) (w : World) (hT : TreeV lo w t v) (hE : EnvV w env ve) (hN : numsE t) (hs : shortE t) :
    Calls Tryd.prog 9 #[v, ve] w (RkP (evalE env t) w) := by
  obtain ⟨a, cap, rfl, -, -⟩ := hT.open
  have hb0 : Below w.heap.size w (w.alloc (.cells #[.int .i64 t.op, .int .i64 t.n, .string ⟨t.name.toArray⟩, .slice a t.kids.length cap] 24)) := (Below.refl _ _).alloc (Nat.le_refl _) _
  have HM := Lib.hid (refMay_any t lo _ _ (hT.alloc (.cells #[.int .i64 t.op, .int .i64 t.n, .string ⟨t.name.toArray⟩, .slice a t.kids.length cap] 24)) hs)
  have HX : Hid (evalE env t = if mayB t = true then valE env t else (0, 1)) := rfl
  have HV := Lib.hid (fun (hm : mayB t = true) w' (hb : Below w.heap.size w w') => reckon_any env hE.nums t (may_good hm hN) lo _ _ w' (hT.below hb (Nat.le_refl _)) (hE.below hb (Nat.le_refl _)))
  obtain ⟨ea, ecap, rfl, hecap, hek⟩ := hE.form
  unfold exV at HM HV ⊢
  clear hT hE hecap hek hN hs
  generalize evalE env t = p at *
  generalize mayB t = b at *
  generalize valE env t = q at *
  generalize env.length = el at *
  go_enter Tryd.func9, Tryd.ntmps9
  go_wp2_with fail
  refine HM.out.mono ?_
  rintro e w1 ⟨rfl, hb⟩
  have hb1 : Below w.heap.size w w1 := hb0.trans (hb.mono (by simp))
  have d0 : w1.cell? ⟨w.heap.size, 0, none⟩ = some (.int .i64 t.op) := by rw [hb.cell (by simp)]; simp
  have d1 : w1.cell? ⟨w.heap.size, 1, none⟩ = some (.int .i64 t.n) := by rw [hb.cell (by simp)]; simp
  have d2 : w1.cell? ⟨w.heap.size, 2, none⟩ = some (.string ⟨t.name.toArray⟩) := by rw [hb.cell (by simp)]; simp
  have d3 : w1.cell? ⟨w.heap.size, 3, none⟩ = some (.slice a t.kids.length cap) := by rw [hb.cell (by simp)]; simp
  clear hb hb0 HM
  cases b
  · have HR : Hid (p = (0, 1)) := by unfold Hid; rw [HX.out]; rfl
    clear HV HX
    go_wp2
    go_ret2
    exact RkP.mk_ HR.out hb1
  · have HR : Hid (p = q) := by unfold Hid; rw [HX.out]; rfl
    have HC := Lib.hid (HV.out rfl w1 hb1)
    clear HV HX
    go_wp2_with fail
    refine HC.out.mono ?_
    rintro e w2 ⟨rfl, hb2⟩
    have hb3 := hb1.trans (hb2.mono hb1.size)
    go_wp2
    go_ret2
    exact RkP.mk_ HR.out hb3
end Go.Proofs.YtlbmojflinkfcaaDoor.Ep
