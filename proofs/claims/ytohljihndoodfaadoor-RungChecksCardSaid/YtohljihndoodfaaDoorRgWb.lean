/-
  Contracts of the scan's apply and of begin.
-/
import Derived.Test.YtohljihndoodfaaDoorRgWa
namespace Go.Proofs.YtohljihndoodfaaDoor.Rg
open Go.RowKit Lx Ep

/-- A scan in memory. -/
def ScanS (base : Nat) (p : Nat) (NA : Option Addr) (nn nc : Nat) (EA : Option Addr) (en ec : Nat) (s : Sc) (w : World) : Prop :=
  ∃ BA bc HA hc PA pc, Box w p 68 (scanC NA nn nc BA s.bits.length bc EA en ec HA s.holds.length hc PA s.bars.length pc) ∧ RowB base w BA bc s.bits ∧ RowN base w HA hc s.holds ∧ RowN base w PA pc s.bars ∧ (obk HA = none ∨ obk HA ≠ obk PA) ∧ base ≤ p
theorem ScanS.below {base p nn nc en ec : Nat} {NA EA : Option Addr} {s : Sc} {w w' : World} (h : ScanS base p NA nn nc EA en ec s w) (hb : Below w.heap.size w w') : ScanS base p NA nn nc EA en ec s w' := by
  obtain ⟨BA, bc, HA, hc, PA, pc, h1, h2, h3, h4, h5, h6⟩ := h
  exact ⟨BA, bc, HA, hc, PA, pc, h1.below hb h1.lt, h2.below hb, h3.below hb, h4.below hb, h5, h6⟩
def ApPost (base : Nat) (p : Nat) (NA : Option Addr) (nn nc : Nat) (EA : Option Addr) (en ec : Nat) (s : Sc) (w : World) (e : Ending) (w' : World) : Prop := e = .returned (.tuple #[]) ∧ ScanS base p NA nn nc EA en ec s w' ∧ Below base w w'
theorem scan_set3 {w : World} {p : Nat} {NA BA EA HA PA HA' : Option Addr} {nn nc bn bc en ec hn hc pn pc hn' hc' : Nat} (h : Box w p 68 (scanC NA nn nc BA bn bc EA en ec HA hn hc PA pn pc)) : Box (w.setCell ⟨p, 3, none⟩ (.slice HA' hn' hc')) p 68 (scanC NA nn nc BA bn bc EA en ec HA' hn' hc' PA pn pc) := by
  have := h.set_ 3 (.slice HA' hn' hc')
  simpa [scanC] using this
theorem scan_set4 {w : World} {p : Nat} {NA BA EA HA PA PA' : Option Addr} {nn nc bn bc en ec hn hc pn pc pn' pc' : Nat} (h : Box w p 68 (scanC NA nn nc BA bn bc EA en ec HA hn hc PA pn pc)) : Box (w.setCell ⟨p, 4, none⟩ (.slice PA' pn' pc')) p 68 (scanC NA nn nc BA bn bc EA en ec HA hn hc PA' pn' pc') := by
  have := h.set_ 4 (.slice PA' pn' pc')
  simpa [scanC] using this
theorem own_setb {w : World} {g : Nat} {t : TypeId} {cs : Array Value} (hx : Box w g t cs) {base n size : Nat} {e : TypeId} {v : Value} {xs : List Value} (he : e ≠ t) (h : w.ownsRow base e size v n xs) (i : Nat) (u : Value) : (w.setCell ⟨g, i, none⟩ u).ownsRow base e size v n xs := by
  refine ⟨h.1, ?_⟩
  rcases h.2 with h | ⟨k, cap, cur, hv, hbg, hh, r⟩
  · exact .inl h
  · refine .inr ⟨k, cap, cur, hv, hbg, (Below.heap_setCell _ _ _ _ ?_).trans hh, r⟩
    intro hk
    simp only at hk
    subst hk
    unfold Box at hx
    rw [hh] at hx
    simp at hx
    exact he hx.2
theorem own_far {w : World} {base n size : Nat} {e : TypeId} {v : Value} {xs : List Value} (h : w.ownsRow base e size v n xs) {g : Nat} (hg : ∀ k, v.ownBlock = some k → k ≠ g) (i : Nat) (u : Value) : (w.setCell ⟨g, i, none⟩ u).ownsRow base e size v n xs := by
  refine ⟨h.1, ?_⟩
  rcases h.2 with h | ⟨k, cap, cur, hv, hbg, hh, r⟩
  · exact .inl h
  · exact .inr ⟨k, cap, cur, hv, hbg, (Below.heap_setCell _ _ _ _ (hg k (by rw [hv]; rfl))).trans hh, r⟩
/-- A row of bools written to: the scan's other rows stay. -/
theorem row_far {base g : Nat} {w : World} {c c2 : Nat} {A : Option Addr} {l : List Bool} {m : List Nm} (hB : RowB base w (some ⟨g, 0, none⟩) c l) (h : RowN base w A c2 m) (i : Nat) (u : Value) : RowN base (w.setCell ⟨g, i, none⟩ u) A c2 m := by
  refine own_far h (fun k hk e => ?_) i u
  subst e
  have := own_types h hB (by decide)
  rcases this with h0 | h0
  · rw [hk] at h0; cases h0
  · exact h0 (by rw [hk]; rfl)
set_option maxRecDepth 100000 in
theorem run_app_n2 {base n c p : Nat} {w : World} {A : Option Addr} {l : List Nm} (s : Nm) (hp : w.heap.size = p) (h : RowN base w A c l) (hn0 : l.length = n) (hn : n ≤ 100000) (hB : base ≤ w.heap.size) :
    ∃ A' c' w', (Builtin.append_ #[23, 23] 23 #[.slice A n c, .slice (some ⟨p, 0, none⟩) 1 1]).run Tryd.prog (w.alloc (.cells #[.string ⟨s.toArray⟩] 9)) = .ok (.slice A' (n + 1) c') w' ∧
      RowN base w' A' c' (l ++ [s]) ∧ (w.alloc (.cells #[.string ⟨s.toArray⟩] 9)).grownBy w' (obk A) ∧ (∀ w0, Below base w0 w → Below base w0 w') ∧ (obk A' = obk A ∨ obk A' = some (p + 1)) := by
  subst hn0 hp
  obtain ⟨A', c', w', hr, ho, hg, hor⟩ := run_append_1 Tryd.underlying23 info_str (by rfl) (by omega) (by omega) #[.string ⟨s.toArray⟩] rfl (by simp [Value.oneCell']) h (by omega) hB
  have hlt := own_ge h
  rw [obk_eq, obk_eq] at hor
  rw [obk_eq] at hg
  refine ⟨A', c', w', hr, ?_, hg, fun w0 h0 => (h0.alloc hB _).grown hg (by simp; omega) (fun k hk => hlt k (by rw [obk_eq]; exact hk)), hor⟩
  unfold RowN
  rw [List.length_append, List.flatMap_append]
  exact ho
theorem obk_lt {w : World} {base n size c : Nat} {e : TypeId} {A : Option Addr} {xs : List Value} (h : w.ownsRow base e size (.slice A n c) n xs) : ∀ k, obk A = some k → k < w.heap.size := by
  intro k hk
  rcases h.2 with ⟨h1, _⟩ | ⟨g, cap, cur, h1, _, hh, _⟩
  · injection h1 with h1
    subst h1
    cases hk
  · injection h1 with h1
    subst h1
    injection hk with hk
    subst hk
    exact (Array.getElem?_eq_some_iff.1 hh).1
theorem own_types' {w : World} {b1 b2 : Nat} {e1 e2 : TypeId} {s1 s2 : Nat} {v1 v2 : Value} {n1 n2 : Nat} {x1 x2 : List Value} (h1 : w.ownsRow b1 e1 s1 v1 n1 x1) (h2 : w.ownsRow b2 e2 s2 v2 n2 x2) (he : e1 ≠ e2) : ∀ k, v1.ownBlock = some k → some k ≠ v2.ownBlock := by
  intro k hk
  rcases own_types h1 h2 he with h | h
  · rw [hk] at h; cases h
  · rw [hk] at h; exact h

set_option maxRecDepth 100000 in
set_option maxHeartbeats 8000000 in
theorem apply_bit (o : Bool) (p : Nat) (NA EA : Option Addr) (nc en ec : Nat) (N : List Nm) (s : Sc) (r : Ru) (base : Nat) (w : World) (hS : ScanS base p NA N.length nc EA en ec s w) (hN : Strs w NA N) (hlN : N.length ≤ 1000000) (hlB : s.bits.length = N.length) (hin : r.nm ∈ N) (hk : r.kd = 0) :
    Calls Tryd.prog 33 #[.pointer (some ⟨p, 0, none⟩), ruV r, .bool o] w (ApPost base p NA N.length nc EA en ec ⟨s.bits.set (N.idxOf r.nm) o, s.holds, s.bars⟩ w) := by
  obtain ⟨BA, bc, HA, hc, PA, pc, hx, hb, hh, hp, hne, hbp⟩ := hS
  unfold ruV
  rw [hk]
  have hix := List.idxOf_lt_length_of_mem hin
  have hBt : ∀ wx, Below w.heap.size w wx → Calls Tryd.prog 46 #[.pointer (some ⟨p, 0, none⟩), .string ⟨r.nm.toArray⟩] wx fun e w' => e = .returned (.int .i64 (N.idxOf r.nm : Nat)) ∧ wx = w' := fun wx hb2 => bit_any p NA nc N r.nm wx ((hx.below hb2 hx.lt).cell 0) (hN.below hb2) hlN hin
  obtain ⟨g, rfl, hbg, hg, hcc, hf, hcs⟩ := hb.form (by omega)
  generalize hw1 : w.alloc (.cells #[.int .i64 (0 : Int), .string ⟨r.nm.toArray⟩, .slice r.ca r.code.length r.cc] 43) = w1
  have hr1 : Box w1 w.heap.size 43 #[.int .i64 0, .string ⟨r.nm.toArray⟩, .slice r.ca r.code.length r.cc] := by rw [← hw1]; exact Box.new _ _ _
  have hb1 : Below w.heap.size w w1 := by rw [← hw1]; exact (Below.refl _ w).alloc (Nat.le_refl _) _
  have hx1 := hx.below hb1 hx.lt
  have hbb1 := hb.below hb1
  have hh1 := hh.below hb1
  have hp1 := hp.below hb1
  have hq : base ≤ w.heap.size := Nat.le_trans hbg (Nat.le_of_lt hg)
  have hBs1 := box_apart hx1 (by decide) hbb1
  have hBr1 := box_apart hr1 (by decide) hbb1
  have hgp : p ≠ g := fun e => hBs1 (by rw [e]; rfl)
  have hgr : w.heap.size ≠ g := fun e => hBr1 (by rw [e]; rfl)
  have hf1 : w1.frozen? ⟨g, N.idxOf r.nm, none⟩ = false := by
    obtain ⟨g', e, -, -, -, hf', -⟩ := hbb1.form (by omega)
    injection e with e
    injection e with e
    subst e
    exact hf' _
  have hcg : ∃ y, w1.cell? ⟨g, N.idxOf r.nm, none⟩ = some (.bool y) := by
    obtain ⟨g', e, -, -, -, -, hc'⟩ := hbb1.form (by omega)
    injection e with e
    injection e with e
    subst e
    exact ⟨_, hc' _ (by omega)⟩
  obtain ⟨y, hcg⟩ := hcg
  have key : ∀ w', Below w1.heap.size w1 w' → w'.cell? ⟨p, 1, none⟩ = some (.slice (some ⟨g, 0, none⟩) N.length bc) ∧ w'.cell? ⟨w.heap.size, 1, none⟩ = some (.string ⟨r.nm.toArray⟩) := fun w' hb2 => ⟨by have := (hx1.below hb2 hx1.lt).cell 1; rw [hlB] at this; exact this, (hr1.below hb2 hr1.lt).cell 1⟩
  have hd := below_drew (Below.refl w1.heap.size w1)
  have cd := key _ hd
  have hHB := Lib.hid (hBt _ (hb1.trans (hd.mono hb1.size)))
  have HF : Hid (ApPost base p NA N.length nc EA en ec ⟨s.bits.set (N.idxOf r.nm) o, s.holds, s.bars⟩ w (.returned (.tuple #[])) (w1.drew.setCell ⟨g, N.idxOf r.nm, none⟩ (.bool o))) := by
    refine ⟨rfl, ⟨some ⟨g, 0, none⟩, bc, HA, hc, PA, pc, ?_, RowB.set_ (w := w1.drew) hbb1 _ _, row_far (w := w1.drew) hbb1 hh1 _ _, row_far (w := w1.drew) hbb1 hp1 _ _, hne, hbp⟩, (((hb1.mono hq).trans (below_drew (Below.refl base w1))).setCell (p := ⟨g, N.idxOf r.nm, none⟩) hbg _)⟩
    have := Box.far (w := w1.drew) hx1 (p := ⟨g, N.idxOf r.nm, none⟩) hgp (.bool o)
    simp only [List.length_set]
    exact this
  have kend : (w1.drew.setCell ⟨g, N.idxOf r.nm, none⟩ (.bool o)).cell? ⟨p, 1, none⟩ = some (.slice (some ⟨g, 0, none⟩) N.length bc) ∧ (w1.drew.setCell ⟨g, N.idxOf r.nm, none⟩ (.bool o)).cell? ⟨w.heap.size, 1, none⟩ = some (.string ⟨r.nm.toArray⟩) := ⟨by have := (Box.far (w := w1.drew) hx1 (p := ⟨g, N.idxOf r.nm, none⟩) hgp (.bool o)).cell 1; rw [hlB] at this; exact this, (Box.far (w := w1.drew) hr1 (p := ⟨g, N.idxOf r.nm, none⟩) hgr (.bool o)).cell 1⟩
  have r0 := hr1.cell 0
  simp at r0
  have dcg : w1.drew.cell? ⟨g, N.idxOf r.nm, none⟩ = some (.bool y) := hcg
  have dff : w1.drew.frozen? ⟨g, N.idxOf r.nm, none⟩ = false := hf1
  clear hx hb hh hp hbb1 hh1 hp1 hBt hcs hf hx1 hr1 hBs1 hBr1 hcg hf1 hb1 key hd hN hin
  generalize N.idxOf r.nm = q at *
  generalize N.length = n at *
  have hqn : q < n := hix
  have hqn2 : ((q : Nat) : Int) < (n : Int) := by omega
  clear hix hlB
  go_enter Tryd.func33, Tryd.ntmps33
  go_wp2_with fail
  clear hw1
  refine region_start (S := fun w' => w'.cell? ⟨p, 1, none⟩ = some (.slice (some ⟨g, 0, none⟩) n bc) ∧ w'.cell? ⟨w.heap.size, 1, none⟩ = some (.string ⟨r.nm.toArray⟩)) (n := 11) (lit := #[false, false, false, false, false, false, false, false, false, false, false]) rfl rfl (by kernel_rfl) cd fun hS => ?_
  refine tk (i := 0) (v := ?vc0) rfl (by kernel_rfl) (by kernel_rfl) (by kernel_rfl) (fun _ _ _ h => h) (by kernel_rfl) ?hc0 hS ?_
  case hc0 => intro w hSw; (try dsimp only at hSw); go_simp; try with_reducible rfl
  try simp only [Act.put, List.setIfInBounds_toArray, List.set_cons_zero, List.set_cons_succ]
  refine tk (i := 1) (v := ?vc1) rfl (by kernel_rfl) (by kernel_rfl) (by kernel_rfl) (fun _ _ _ h => h) (by kernel_rfl) ?hc1 hS ?_
  case hc1 => intro w hSw; (try dsimp only at hSw); go_simp; try with_reducible rfl
  try simp only [Act.put, List.setIfInBounds_toArray, List.set_cons_zero, List.set_cons_succ]
  refine tk (i := 2) (v := ?vc2) rfl (by kernel_rfl) (by kernel_rfl) (by kernel_rfl) (fun _ _ _ h => h) (by kernel_rfl) ?hc2 hS ?_
  case hc2 => intro w hSw; (try dsimp only at hSw); go_simp; try with_reducible rfl
  try simp only [Act.put, List.setIfInBounds_toArray, List.set_cons_zero, List.set_cons_succ]
  refine tk (i := 3) (v := ?vc3) rfl (by kernel_rfl) (by kernel_rfl) (by kernel_rfl) (fun _ _ _ h => h) (by kernel_rfl) ?hc3 hS ?_
  case hc3 => intro w hSw; (try dsimp only at hSw); go_simp; try with_reducible rfl
  try simp only [Act.put, List.setIfInBounds_toArray, List.set_cons_zero, List.set_cons_succ]
  refine tk (i := 4) (v := ?vc4) rfl (by kernel_rfl) (by kernel_rfl) (by kernel_rfl) (fun _ _ _ h => h) (by kernel_rfl) ?hc4 hS ?_
  case hc4 => intro w hSw; (try dsimp only at hSw); go_simp; try with_reducible rfl
  try simp only [Act.put, List.setIfInBounds_toArray, List.set_cons_zero, List.set_cons_succ]
  refine tk (i := 5) (v := ?vc5) rfl (by kernel_rfl) (by kernel_rfl) (by kernel_rfl) (fun _ _ _ h => h) (by kernel_rfl) ?hc5 hS ?_
  case hc5 => intro w hSw; (try dsimp only at hSw); go_simp; try with_reducible rfl
  try simp only [Act.put, List.setIfInBounds_toArray, List.set_cons_zero, List.set_cons_succ]
  refine tk (i := 6) (v := ?vc6) rfl (by kernel_rfl) (by kernel_rfl) (by kernel_rfl) (fun _ _ _ h => h) (by kernel_rfl) ?hc6 hS ?_
  case hc6 => intro w hSw; (try dsimp only at hSw); go_simp; try with_reducible rfl
  try simp only [Act.put, List.setIfInBounds_toArray, List.set_cons_zero, List.set_cons_succ]
  refine tk (i := 8) (v := ?vc8) rfl (by kernel_rfl) (by kernel_rfl) (by kernel_rfl) (fun _ _ _ h => h) (by kernel_rfl) ?hc8 hS ?_
  case hc8 => intro w hSw; (try dsimp only at hSw); go_simp; try with_reducible rfl
  try simp only [Act.put, List.setIfInBounds_toArray, List.set_cons_zero, List.set_cons_succ]
  refine wpAnyH_ready (rs := [7]) (by kernel_rfl) (by simp) ?_
  refine AllReadyH.cons rfl (fun K hK => ?_) AllReadyH.nil
  go_simp
  go_at_call 46; refine hHB.out.mono ?_; rintro e w5 ⟨rfl, rfl⟩
  refine hK.out _ _ cd (fun _ => ?_)
  clear hK K
  try simp only [List.setIfInBounds_toArray, List.set_cons_zero, List.set_cons_succ]
  refine tk (i := 9) (v := ?vc9) rfl (by kernel_rfl) (by kernel_rfl) (by kernel_rfl) (fun _ _ _ h => h) (by kernel_rfl) ?hc9 hS ?_
  case hc9 => intro w hSw; (try dsimp only at hSw); go_simp; try with_reducible rfl
  try simp only [Act.put, List.setIfInBounds_toArray, List.set_cons_zero, List.set_cons_succ]
  refine wpAnyH_ready (rs := [10]) (by kernel_rfl) (by simp) ?_
  refine AllReadyH.cons rfl (fun K hK => ?_) AllReadyH.nil
  go_simp
  refine hK.out _ _ kend (fun _ => ?_)
  clear hK K
  refine wpAnyH_done (by kernel_rfl) ?_ _
  go_wp2
  exact bodyPost_ret (v := .tuple #[]) (by simp [results, Tryd.results33, go_sem]) rfl HF.out

set_option maxRecDepth 100000 in
set_option maxHeartbeats 8000000 in
theorem apply_set (o : Bool) (p : Nat) (NA EA : Option Addr) (nc en ec : Nat) (N : List Nm) (s : Sc) (r : Ru) (base : Nat) (w : World) (hS : ScanS base p NA N.length nc EA en ec s w) (hN : Strs w NA N) (hlN : N.length ≤ 1000000) (hlB : s.bits.length = N.length) (hin : r.nm ∈ N) (hk : r.kd = 1) (ho : o = true) :
    Calls Tryd.prog 33 #[.pointer (some ⟨p, 0, none⟩), ruV r, .bool o] w (ApPost base p NA N.length nc EA en ec ⟨s.bits.set (N.idxOf r.nm) true, s.holds, s.bars⟩ w) := by
  obtain ⟨BA, bc, HA, hc, PA, pc, hx, hb, hh, hp, hne, hbp⟩ := hS
  subst ho
  unfold ruV
  rw [hk]
  have hix := List.idxOf_lt_length_of_mem hin
  have hBt : ∀ wx, Below w.heap.size w wx → Calls Tryd.prog 46 #[.pointer (some ⟨p, 0, none⟩), .string ⟨r.nm.toArray⟩] wx fun e w' => e = .returned (.int .i64 (N.idxOf r.nm : Nat)) ∧ wx = w' := fun wx hb2 => bit_any p NA nc N r.nm wx ((hx.below hb2 hx.lt).cell 0) (hN.below hb2) hlN hin
  obtain ⟨g, rfl, hbg, hg, hcc, hf, hcs⟩ := hb.form (by omega)
  generalize hw1 : w.alloc (.cells #[.int .i64 (1 : Int), .string ⟨r.nm.toArray⟩, .slice r.ca r.code.length r.cc] 43) = w1
  have hr1 : Box w1 w.heap.size 43 #[.int .i64 1, .string ⟨r.nm.toArray⟩, .slice r.ca r.code.length r.cc] := by rw [← hw1]; exact Box.new _ _ _
  have hb1 : Below w.heap.size w w1 := by rw [← hw1]; exact (Below.refl _ w).alloc (Nat.le_refl _) _
  have hx1 := hx.below hb1 hx.lt
  have hbb1 := hb.below hb1
  have hh1 := hh.below hb1
  have hp1 := hp.below hb1
  have hq : base ≤ w.heap.size := Nat.le_trans hbg (Nat.le_of_lt hg)
  have hBs1 := box_apart hx1 (by decide) hbb1
  have hBr1 := box_apart hr1 (by decide) hbb1
  have hgp : p ≠ g := fun e => hBs1 (by rw [e]; rfl)
  have hgr : w.heap.size ≠ g := fun e => hBr1 (by rw [e]; rfl)
  have hf1 : w1.frozen? ⟨g, N.idxOf r.nm, none⟩ = false := by
    obtain ⟨g', e, -, -, -, hf', -⟩ := hbb1.form (by omega)
    injection e with e
    injection e with e
    subst e
    exact hf' _
  have hcg : ∃ y, w1.cell? ⟨g, N.idxOf r.nm, none⟩ = some (.bool y) := by
    obtain ⟨g', e, -, -, -, -, hc'⟩ := hbb1.form (by omega)
    injection e with e
    injection e with e
    subst e
    exact ⟨_, hc' _ (by omega)⟩
  obtain ⟨y, hcg⟩ := hcg
  have key : ∀ w', Below w1.heap.size w1 w' → w'.cell? ⟨p, 1, none⟩ = some (.slice (some ⟨g, 0, none⟩) N.length bc) ∧ w'.cell? ⟨w.heap.size, 1, none⟩ = some (.string ⟨r.nm.toArray⟩) := fun w' hb2 => ⟨by have := (hx1.below hb2 hx1.lt).cell 1; rw [hlB] at this; exact this, (hr1.below hb2 hr1.lt).cell 1⟩
  have hd := below_drew (Below.refl w1.heap.size w1)
  have cd := key _ hd
  have hHB := Lib.hid (hBt _ (hb1.trans (hd.mono hb1.size)))
  have HF : Hid (ApPost base p NA N.length nc EA en ec ⟨s.bits.set (N.idxOf r.nm) true, s.holds, s.bars⟩ w (.returned (.tuple #[])) (w1.drew.setCell ⟨g, N.idxOf r.nm, none⟩ (.bool true))) := by
    refine ⟨rfl, ⟨some ⟨g, 0, none⟩, bc, HA, hc, PA, pc, ?_, RowB.set_ (w := w1.drew) hbb1 _ _, row_far (w := w1.drew) hbb1 hh1 _ _, row_far (w := w1.drew) hbb1 hp1 _ _, hne, hbp⟩, (((hb1.mono hq).trans (below_drew (Below.refl base w1))).setCell (p := ⟨g, N.idxOf r.nm, none⟩) hbg _)⟩
    have := Box.far (w := w1.drew) hx1 (p := ⟨g, N.idxOf r.nm, none⟩) hgp (.bool true)
    simp only [List.length_set]
    exact this
  have kend : (w1.drew.setCell ⟨g, N.idxOf r.nm, none⟩ (.bool true)).cell? ⟨p, 1, none⟩ = some (.slice (some ⟨g, 0, none⟩) N.length bc) ∧ (w1.drew.setCell ⟨g, N.idxOf r.nm, none⟩ (.bool true)).cell? ⟨w.heap.size, 1, none⟩ = some (.string ⟨r.nm.toArray⟩) := ⟨by have := (Box.far (w := w1.drew) hx1 (p := ⟨g, N.idxOf r.nm, none⟩) hgp (.bool true)).cell 1; rw [hlB] at this; exact this, (Box.far (w := w1.drew) hr1 (p := ⟨g, N.idxOf r.nm, none⟩) hgr (.bool true)).cell 1⟩
  have r0 := hr1.cell 0
  simp at r0
  have dcg : w1.drew.cell? ⟨g, N.idxOf r.nm, none⟩ = some (.bool y) := hcg
  have dff : w1.drew.frozen? ⟨g, N.idxOf r.nm, none⟩ = false := hf1
  clear hx hb hh hp hbb1 hh1 hp1 hBt hcs hf hx1 hr1 hBs1 hBr1 hcg hf1 hb1 key hd hN hin
  generalize N.idxOf r.nm = q at *
  generalize N.length = n at *
  have hqn : q < n := hix
  have hqn2 : ((q : Nat) : Int) < (n : Int) := by omega
  clear hix hlB
  go_enter Tryd.func33, Tryd.ntmps33
  go_wp2_with fail
  clear hw1
  refine region_start (S := fun w' => w'.cell? ⟨p, 1, none⟩ = some (.slice (some ⟨g, 0, none⟩) n bc) ∧ w'.cell? ⟨w.heap.size, 1, none⟩ = some (.string ⟨r.nm.toArray⟩)) (n := 10) (lit := #[false, false, false, false, false, false, false, false, false, false]) rfl rfl (by kernel_rfl) cd fun hS => ?_
  refine tk (i := 0) (v := ?ve0) rfl (by kernel_rfl) (by kernel_rfl) (by kernel_rfl) (fun _ _ _ h => h) (by kernel_rfl) ?he0 hS ?_
  case he0 => intro w hSw; (try dsimp only at hSw); go_simp; try with_reducible rfl
  try simp only [Act.put, List.setIfInBounds_toArray, List.set_cons_zero, List.set_cons_succ]
  refine tk (i := 1) (v := ?ve1) rfl (by kernel_rfl) (by kernel_rfl) (by kernel_rfl) (fun _ _ _ h => h) (by kernel_rfl) ?he1 hS ?_
  case he1 => intro w hSw; (try dsimp only at hSw); go_simp; try with_reducible rfl
  try simp only [Act.put, List.setIfInBounds_toArray, List.set_cons_zero, List.set_cons_succ]
  refine tk (i := 2) (v := ?ve2) rfl (by kernel_rfl) (by kernel_rfl) (by kernel_rfl) (fun _ _ _ h => h) (by kernel_rfl) ?he2 hS ?_
  case he2 => intro w hSw; (try dsimp only at hSw); go_simp; try with_reducible rfl
  try simp only [Act.put, List.setIfInBounds_toArray, List.set_cons_zero, List.set_cons_succ]
  refine tk (i := 3) (v := ?ve3) rfl (by kernel_rfl) (by kernel_rfl) (by kernel_rfl) (fun _ _ _ h => h) (by kernel_rfl) ?he3 hS ?_
  case he3 => intro w hSw; (try dsimp only at hSw); go_simp; try with_reducible rfl
  try simp only [Act.put, List.setIfInBounds_toArray, List.set_cons_zero, List.set_cons_succ]
  refine tk (i := 4) (v := ?ve4) rfl (by kernel_rfl) (by kernel_rfl) (by kernel_rfl) (fun _ _ _ h => h) (by kernel_rfl) ?he4 hS ?_
  case he4 => intro w hSw; (try dsimp only at hSw); go_simp; try with_reducible rfl
  try simp only [Act.put, List.setIfInBounds_toArray, List.set_cons_zero, List.set_cons_succ]
  refine tk (i := 5) (v := ?ve5) rfl (by kernel_rfl) (by kernel_rfl) (by kernel_rfl) (fun _ _ _ h => h) (by kernel_rfl) ?he5 hS ?_
  case he5 => intro w hSw; (try dsimp only at hSw); go_simp; try with_reducible rfl
  try simp only [Act.put, List.setIfInBounds_toArray, List.set_cons_zero, List.set_cons_succ]
  refine tk (i := 6) (v := ?ve6) rfl (by kernel_rfl) (by kernel_rfl) (by kernel_rfl) (fun _ _ _ h => h) (by kernel_rfl) ?he6 hS ?_
  case he6 => intro w hSw; (try dsimp only at hSw); go_simp; try with_reducible rfl
  try simp only [Act.put, List.setIfInBounds_toArray, List.set_cons_zero, List.set_cons_succ]
  refine wpAnyH_ready (rs := [7]) (by kernel_rfl) (by simp) ?_
  refine AllReadyH.cons rfl (fun K hK => ?_) AllReadyH.nil
  go_simp
  go_at_call 46; refine hHB.out.mono ?_; rintro e w5 ⟨rfl, rfl⟩
  refine hK.out _ _ cd (fun _ => ?_)
  clear hK K
  try simp only [List.setIfInBounds_toArray, List.set_cons_zero, List.set_cons_succ]
  refine tk (i := 8) (v := ?ve8) rfl (by kernel_rfl) (by kernel_rfl) (by kernel_rfl) (fun _ _ _ h => h) (by kernel_rfl) ?he8 hS ?_
  case he8 => intro w hSw; (try dsimp only at hSw); go_simp; try with_reducible rfl
  try simp only [Act.put, List.setIfInBounds_toArray, List.set_cons_zero, List.set_cons_succ]
  refine wpAnyH_ready (rs := [9]) (by kernel_rfl) (by simp) ?_
  refine AllReadyH.cons rfl (fun K hK => ?_) AllReadyH.nil
  go_simp
  refine hK.out _ _ kend (fun _ => ?_)
  clear hK K
  refine wpAnyH_done (by kernel_rfl) ?_ _
  go_wp2
  exact bodyPost_ret (v := .tuple #[]) (by simp [results, Tryd.results33, go_sem]) rfl HF.out

set_option maxRecDepth 100000 in
set_option maxHeartbeats 8000000 in
theorem apply_reset (o : Bool) (p : Nat) (NA EA : Option Addr) (nc en ec : Nat) (N : List Nm) (s : Sc) (r : Ru) (base : Nat) (w : World) (hS : ScanS base p NA N.length nc EA en ec s w) (hN : Strs w NA N) (hlN : N.length ≤ 1000000) (hlB : s.bits.length = N.length) (hin : r.nm ∈ N) (hk : r.kd = 2) (ho : o = true) :
    Calls Tryd.prog 33 #[.pointer (some ⟨p, 0, none⟩), ruV r, .bool o] w (ApPost base p NA N.length nc EA en ec ⟨s.bits.set (N.idxOf r.nm) false, s.holds, s.bars⟩ w) := by
  obtain ⟨BA, bc, HA, hc, PA, pc, hx, hb, hh, hp, hne, hbp⟩ := hS
  subst ho
  unfold ruV
  rw [hk]
  have hix := List.idxOf_lt_length_of_mem hin
  have hBt : ∀ wx, Below w.heap.size w wx → Calls Tryd.prog 46 #[.pointer (some ⟨p, 0, none⟩), .string ⟨r.nm.toArray⟩] wx fun e w' => e = .returned (.int .i64 (N.idxOf r.nm : Nat)) ∧ wx = w' := fun wx hb2 => bit_any p NA nc N r.nm wx ((hx.below hb2 hx.lt).cell 0) (hN.below hb2) hlN hin
  obtain ⟨g, rfl, hbg, hg, hcc, hf, hcs⟩ := hb.form (by omega)
  generalize hw1 : w.alloc (.cells #[.int .i64 (2 : Int), .string ⟨r.nm.toArray⟩, .slice r.ca r.code.length r.cc] 43) = w1
  have hr1 : Box w1 w.heap.size 43 #[.int .i64 2, .string ⟨r.nm.toArray⟩, .slice r.ca r.code.length r.cc] := by rw [← hw1]; exact Box.new _ _ _
  have hb1 : Below w.heap.size w w1 := by rw [← hw1]; exact (Below.refl _ w).alloc (Nat.le_refl _) _
  have hx1 := hx.below hb1 hx.lt
  have hbb1 := hb.below hb1
  have hh1 := hh.below hb1
  have hp1 := hp.below hb1
  have hq : base ≤ w.heap.size := Nat.le_trans hbg (Nat.le_of_lt hg)
  have hBs1 := box_apart hx1 (by decide) hbb1
  have hBr1 := box_apart hr1 (by decide) hbb1
  have hgp : p ≠ g := fun e => hBs1 (by rw [e]; rfl)
  have hgr : w.heap.size ≠ g := fun e => hBr1 (by rw [e]; rfl)
  have hf1 : w1.frozen? ⟨g, N.idxOf r.nm, none⟩ = false := by
    obtain ⟨g', e, -, -, -, hf', -⟩ := hbb1.form (by omega)
    injection e with e
    injection e with e
    subst e
    exact hf' _
  have hcg : ∃ y, w1.cell? ⟨g, N.idxOf r.nm, none⟩ = some (.bool y) := by
    obtain ⟨g', e, -, -, -, -, hc'⟩ := hbb1.form (by omega)
    injection e with e
    injection e with e
    subst e
    exact ⟨_, hc' _ (by omega)⟩
  obtain ⟨y, hcg⟩ := hcg
  have key : ∀ w', Below w1.heap.size w1 w' → w'.cell? ⟨p, 1, none⟩ = some (.slice (some ⟨g, 0, none⟩) N.length bc) ∧ w'.cell? ⟨w.heap.size, 1, none⟩ = some (.string ⟨r.nm.toArray⟩) := fun w' hb2 => ⟨by have := (hx1.below hb2 hx1.lt).cell 1; rw [hlB] at this; exact this, (hr1.below hb2 hr1.lt).cell 1⟩
  have hd := below_drew (Below.refl w1.heap.size w1)
  have cd := key _ hd
  have hHB := Lib.hid (hBt _ (hb1.trans (hd.mono hb1.size)))
  have HF : Hid (ApPost base p NA N.length nc EA en ec ⟨s.bits.set (N.idxOf r.nm) false, s.holds, s.bars⟩ w (.returned (.tuple #[])) (w1.drew.setCell ⟨g, N.idxOf r.nm, none⟩ (.bool false))) := by
    refine ⟨rfl, ⟨some ⟨g, 0, none⟩, bc, HA, hc, PA, pc, ?_, RowB.set_ (w := w1.drew) hbb1 _ _, row_far (w := w1.drew) hbb1 hh1 _ _, row_far (w := w1.drew) hbb1 hp1 _ _, hne, hbp⟩, (((hb1.mono hq).trans (below_drew (Below.refl base w1))).setCell (p := ⟨g, N.idxOf r.nm, none⟩) hbg _)⟩
    have := Box.far (w := w1.drew) hx1 (p := ⟨g, N.idxOf r.nm, none⟩) hgp (.bool false)
    simp only [List.length_set]
    exact this
  have kend : (w1.drew.setCell ⟨g, N.idxOf r.nm, none⟩ (.bool false)).cell? ⟨p, 1, none⟩ = some (.slice (some ⟨g, 0, none⟩) N.length bc) ∧ (w1.drew.setCell ⟨g, N.idxOf r.nm, none⟩ (.bool false)).cell? ⟨w.heap.size, 1, none⟩ = some (.string ⟨r.nm.toArray⟩) := ⟨by have := (Box.far (w := w1.drew) hx1 (p := ⟨g, N.idxOf r.nm, none⟩) hgp (.bool false)).cell 1; rw [hlB] at this; exact this, (Box.far (w := w1.drew) hr1 (p := ⟨g, N.idxOf r.nm, none⟩) hgr (.bool false)).cell 1⟩
  have r0 := hr1.cell 0
  simp at r0
  have dcg : w1.drew.cell? ⟨g, N.idxOf r.nm, none⟩ = some (.bool y) := hcg
  have dff : w1.drew.frozen? ⟨g, N.idxOf r.nm, none⟩ = false := hf1
  clear hx hb hh hp hbb1 hh1 hp1 hBt hcs hf hx1 hr1 hBs1 hBr1 hcg hf1 hb1 key hd hN hin
  generalize N.idxOf r.nm = q at *
  generalize N.length = n at *
  have hqn : q < n := hix
  have hqn2 : ((q : Nat) : Int) < (n : Int) := by omega
  clear hix hlB
  go_enter Tryd.func33, Tryd.ntmps33
  go_wp2_with fail
  clear hw1
  refine region_start (S := fun w' => w'.cell? ⟨p, 1, none⟩ = some (.slice (some ⟨g, 0, none⟩) n bc) ∧ w'.cell? ⟨w.heap.size, 1, none⟩ = some (.string ⟨r.nm.toArray⟩)) (n := 10) (lit := #[false, false, false, false, false, false, false, false, false, false]) rfl rfl (by kernel_rfl) cd fun hS => ?_
  refine tk (i := 0) (v := ?vg0) rfl (by kernel_rfl) (by kernel_rfl) (by kernel_rfl) (fun _ _ _ h => h) (by kernel_rfl) ?hg0 hS ?_
  case hg0 => intro w hSw; (try dsimp only at hSw); go_simp; try with_reducible rfl
  try simp only [Act.put, List.setIfInBounds_toArray, List.set_cons_zero, List.set_cons_succ]
  refine tk (i := 1) (v := ?vg1) rfl (by kernel_rfl) (by kernel_rfl) (by kernel_rfl) (fun _ _ _ h => h) (by kernel_rfl) ?hg1 hS ?_
  case hg1 => intro w hSw; (try dsimp only at hSw); go_simp; try with_reducible rfl
  try simp only [Act.put, List.setIfInBounds_toArray, List.set_cons_zero, List.set_cons_succ]
  refine tk (i := 2) (v := ?vg2) rfl (by kernel_rfl) (by kernel_rfl) (by kernel_rfl) (fun _ _ _ h => h) (by kernel_rfl) ?hg2 hS ?_
  case hg2 => intro w hSw; (try dsimp only at hSw); go_simp; try with_reducible rfl
  try simp only [Act.put, List.setIfInBounds_toArray, List.set_cons_zero, List.set_cons_succ]
  refine tk (i := 3) (v := ?vg3) rfl (by kernel_rfl) (by kernel_rfl) (by kernel_rfl) (fun _ _ _ h => h) (by kernel_rfl) ?hg3 hS ?_
  case hg3 => intro w hSw; (try dsimp only at hSw); go_simp; try with_reducible rfl
  try simp only [Act.put, List.setIfInBounds_toArray, List.set_cons_zero, List.set_cons_succ]
  refine tk (i := 4) (v := ?vg4) rfl (by kernel_rfl) (by kernel_rfl) (by kernel_rfl) (fun _ _ _ h => h) (by kernel_rfl) ?hg4 hS ?_
  case hg4 => intro w hSw; (try dsimp only at hSw); go_simp; try with_reducible rfl
  try simp only [Act.put, List.setIfInBounds_toArray, List.set_cons_zero, List.set_cons_succ]
  refine tk (i := 5) (v := ?vg5) rfl (by kernel_rfl) (by kernel_rfl) (by kernel_rfl) (fun _ _ _ h => h) (by kernel_rfl) ?hg5 hS ?_
  case hg5 => intro w hSw; (try dsimp only at hSw); go_simp; try with_reducible rfl
  try simp only [Act.put, List.setIfInBounds_toArray, List.set_cons_zero, List.set_cons_succ]
  refine tk (i := 6) (v := ?vg6) rfl (by kernel_rfl) (by kernel_rfl) (by kernel_rfl) (fun _ _ _ h => h) (by kernel_rfl) ?hg6 hS ?_
  case hg6 => intro w hSw; (try dsimp only at hSw); go_simp; try with_reducible rfl
  try simp only [Act.put, List.setIfInBounds_toArray, List.set_cons_zero, List.set_cons_succ]
  refine wpAnyH_ready (rs := [7]) (by kernel_rfl) (by simp) ?_
  refine AllReadyH.cons rfl (fun K hK => ?_) AllReadyH.nil
  go_simp
  go_at_call 46; refine hHB.out.mono ?_; rintro e w5 ⟨rfl, rfl⟩
  refine hK.out _ _ cd (fun _ => ?_)
  clear hK K
  try simp only [List.setIfInBounds_toArray, List.set_cons_zero, List.set_cons_succ]
  refine tk (i := 8) (v := ?vg8) rfl (by kernel_rfl) (by kernel_rfl) (by kernel_rfl) (fun _ _ _ h => h) (by kernel_rfl) ?hg8 hS ?_
  case hg8 => intro w hSw; (try dsimp only at hSw); go_simp; try with_reducible rfl
  try simp only [Act.put, List.setIfInBounds_toArray, List.set_cons_zero, List.set_cons_succ]
  refine wpAnyH_ready (rs := [9]) (by kernel_rfl) (by simp) ?_
  refine AllReadyH.cons rfl (fun K hK => ?_) AllReadyH.nil
  go_simp
  refine hK.out _ _ kend (fun _ => ?_)
  clear hK K
  refine wpAnyH_done (by kernel_rfl) ?_ _
  go_wp2
  exact bodyPost_ret (v := .tuple #[]) (by simp [results, Tryd.results33, go_sem]) rfl HF.out

set_option maxRecDepth 100000 in
set_option maxHeartbeats 8000000 in
theorem apply_hold (p : Nat) (NA EA : Option Addr) (nn nc en ec : Nat) (s : Sc) (r : Ru) (base : Nat) (w : World) (hS : ScanS base p NA nn nc EA en ec s w) (hl : s.holds.length ≤ 1000) (hq : base ≤ w.heap.size) (hk : r.kd = 3) :
    Calls Tryd.prog 33 #[.pointer (some ⟨p, 0, none⟩), ruV r, .bool false] w (ApPost base p NA nn nc EA en ec ⟨s.bits, s.holds ++ [r.nm], s.bars⟩ w) := by
  obtain ⟨BA, bc, HA, hc, PA, pc, hx, hb, hh, hp, hne, hbp⟩ := hS
  unfold ruV
  rw [hk]
  generalize hw1 : w.alloc (.cells #[.int .i64 (3 : Int), .string ⟨r.nm.toArray⟩, .slice r.ca r.code.length r.cc] 43) = w1
  have hr1 : Box w1 w.heap.size 43 #[.int .i64 3, .string ⟨r.nm.toArray⟩, .slice r.ca r.code.length r.cc] := by rw [← hw1]; exact Box.new _ _ _
  have hb1 : Below w.heap.size w w1 := by rw [← hw1]; exact (Below.refl _ w).alloc (Nat.le_refl _) _
  have hx1 := hx.below hb1 hx.lt
  have hbb1 := hb.below hb1
  have hh1 := hh.below hb1
  have hp1 := hp.below hb1
  have hq1 : base ≤ w1.heap.size := Nat.le_trans hq hb1.size
  have hbw : Below base w w1.drew := below_drew (hb1.mono hq)
  obtain ⟨A6, c6, w6, hr6, hrow6, hg6, hb6, hor6⟩ := run_app_n2 (w := w1.drew) (p := w1.heap.size) r.nm rfl (RowN.drewN hh1 1) rfl (by omega) hq1
  have hba : Below w1.heap.size w1.drew (w1.drew.alloc (.cells #[.string ⟨r.nm.toArray⟩] 9)) := (Below.refl _ w1.drew).alloc (Nat.le_refl _) _
  have hx2 : Box (w1.drew.alloc (.cells #[.string ⟨r.nm.toArray⟩] 9)) p 68 _ := Box.below (w := w1.drew) hx1 hba hx1.lt
  have hr2 : Box (w1.drew.alloc (.cells #[.string ⟨r.nm.toArray⟩] 9)) w.heap.size 43 _ := Box.below (w := w1.drew) hr1 hba hr1.lt
  have ho2 : (w1.drew.alloc (.cells #[.string ⟨r.nm.toArray⟩] 9)).ownsRow base 9 1 (.slice HA s.holds.length hc) s.holds.length (s.holds.flatMap strC) := own_keep (w := w1.drew) hh1 hba
  have hb2 : (w1.drew.alloc (.cells #[.string ⟨r.nm.toArray⟩] 9)).ownsRow base 4 1 (.slice BA s.bits.length bc) s.bits.length (s.bits.flatMap boolC) := own_keep (w := w1.drew) hbb1 hba
  have hot2 : RowN base (w1.drew.alloc (.cells #[.string ⟨r.nm.toArray⟩] 9)) PA pc s.bars := own_keep (w := w1.drew) hp1 hba
  have hx6 := hx2.grown hg6 (box_apart hx2 (by decide) ho2)
  have hr6x := hr2.grown hg6 (box_apart hr2 (by decide) ho2)
  have hb6r : w6.ownsRow base 4 1 (.slice BA s.bits.length bc) s.bits.length (s.bits.flatMap boolC) := own_grown hb2 hg6 (by have := own_types' hb2 ho2 (by decide); simpa [obk_eq] using this)
  have hdis : ∀ k, obk PA = some k → some k ≠ obk HA := fun k hk e => by
    rcases hne with h | h
    · rw [h] at e; cases e
    · exact h (e.symm.trans hk.symm)
  have hot6 : RowN base w6 PA pc s.bars := own_grown hot2 hg6 (fun k hk => hdis k (by rw [← hk, obk_eq]))
  have hol := obk_lt hp1
  have hd6 : obk A6 = none ∨ obk A6 ≠ obk PA := by
    rcases hor6 with h | h
    · rw [h]; exact hne
    · right; rw [h]; intro e2; have := hol _ e2.symm; omega
  have hdw : w1.heap.size + 1 ≤ w6.heap.size := by have := hg6.size; simp at this; exact this
  have hpq : p < w6.heap.size := hx6.lt
  have HF : Hid (ApPost base p NA nn nc EA en ec ⟨s.bits, s.holds ++ [r.nm], s.bars⟩ w (.returned (.tuple #[])) (w6.setCell ⟨p, 3, none⟩ (.slice A6 (s.holds.length + 1) c6))) := by
    refine ⟨rfl, ⟨BA, bc, A6, c6, PA, pc, ?_, own_setb hx6 (by decide) hb6r _ _, own_setb hx6 (by decide) (show w6.ownsRow base 9 1 (.slice A6 (s.holds ++ [r.nm]).length c6) _ _ from hrow6) _ _, own_setb hx6 (by decide) hot6 _ _, hd6, hbp⟩, (hb6 w hbw).setCell (p := ⟨p, 3, none⟩) hbp _⟩
    have := scan_set3 (HA' := A6) (hn' := s.holds.length + 1) (hc' := c6) hx6
    simpa using this
  have kd : ∀ w', Box w' w.heap.size 43 #[.int .i64 3, .string ⟨r.nm.toArray⟩, .slice r.ca r.code.length r.cc] → w'.cell? ⟨w.heap.size, 1, none⟩ = some (.string ⟨r.nm.toArray⟩) := fun w' h => h.cell 1
  have cd := kd w1.drew hr1
  have k2 := kd _ hr2
  have k6 := kd _ hr6x
  have hwp : w.heap.size ≠ p := by have := hx.lt; omega
  have k7 := kd _ (hr6x.far (p := ⟨p, 3, none⟩) hwp (.slice A6 (s.holds.length + 1) c6))
  have r0 := hr1.cell 0
  simp at r0
  have q0 : w1.drew.cell? ⟨p, 3, none⟩ = some (.slice HA s.holds.length hc) := hx1.cell 3
  have q2 : (w1.drew.alloc (.cells #[.string ⟨r.nm.toArray⟩] 9)).cell? ⟨p, 3, none⟩ = some (.slice HA s.holds.length hc) := hx2.cell 3
  have q2d : (w1.alloc (.cells #[.string ⟨r.nm.toArray⟩] 9)).drew.cell? ⟨p, 3, none⟩ = some (.slice HA s.holds.length hc) := q2
  have q6 : w6.cell? ⟨p, 3, none⟩ = some (.slice HA s.holds.length hc) := hx6.cell 3
  have f6 := hx6.frozen 3
  clear hx hb hh hp hx1 hbb1 hh1 hp1 hr1 hx2 hr2 ho2 hb2 hot2 hx6 hr6x hb6r hot6 hol hd6 hrow6 hg6 hb6 hor6 hdis kd hbw hba hb1
  generalize s.holds.length = n at *
  go_enter Tryd.func33, Tryd.ntmps33
  go_wp2_with fail
  clear hw1
  refine region_start (S := fun w' => w'.cell? ⟨w.heap.size, 1, none⟩ = some (.string ⟨r.nm.toArray⟩)) (n := 12) (lit := #[false, false, false, false, false, false, false, false, false, false, false, false]) rfl rfl (by kernel_rfl) cd fun hS => ?_
  refine tk (i := 0) (v := ?vi0) rfl (by kernel_rfl) (by kernel_rfl) (by kernel_rfl) (fun _ _ _ h => h) (by kernel_rfl) ?hi0 hS ?_
  case hi0 => intro w hSw; (try dsimp only at hSw); go_simp; try with_reducible rfl
  try simp only [Act.put, List.setIfInBounds_toArray, List.set_cons_zero, List.set_cons_succ]
  refine tk (i := 1) (v := ?vi1) rfl (by kernel_rfl) (by kernel_rfl) (by kernel_rfl) (fun _ _ _ h => h) (by kernel_rfl) ?hi1 hS ?_
  case hi1 => intro w hSw; (try dsimp only at hSw); go_simp; try with_reducible rfl
  try simp only [Act.put, List.setIfInBounds_toArray, List.set_cons_zero, List.set_cons_succ]
  refine tk (i := 2) (v := ?vi2) rfl (by kernel_rfl) (by kernel_rfl) (by kernel_rfl) (fun _ _ _ h => h) (by kernel_rfl) ?hi2 hS ?_
  case hi2 => intro w hSw; (try dsimp only at hSw); go_simp; try with_reducible rfl
  try simp only [Act.put, List.setIfInBounds_toArray, List.set_cons_zero, List.set_cons_succ]
  refine tk (i := 3) (v := ?vi3) rfl (by kernel_rfl) (by kernel_rfl) (by kernel_rfl) (fun _ _ _ h => h) (by kernel_rfl) ?hi3 hS ?_
  case hi3 => intro w hSw; (try dsimp only at hSw); go_simp; try with_reducible rfl
  try simp only [Act.put, List.setIfInBounds_toArray, List.set_cons_zero, List.set_cons_succ]
  refine tk (i := 5) (v := ?vi5) rfl (by kernel_rfl) (by kernel_rfl) (by kernel_rfl) (fun _ _ _ h => h) (by kernel_rfl) ?hi5 hS ?_
  case hi5 => intro w hSw; (try dsimp only at hSw); go_simp; try with_reducible rfl
  try simp only [Act.put, List.setIfInBounds_toArray, List.set_cons_zero, List.set_cons_succ]
  refine tk (i := 6) (v := ?vi6) rfl (by kernel_rfl) (by kernel_rfl) (by kernel_rfl) (fun _ _ _ h => h) (by kernel_rfl) ?hi6 hS ?_
  case hi6 => intro w hSw; (try dsimp only at hSw); go_simp; try with_reducible rfl
  try simp only [Act.put, List.setIfInBounds_toArray, List.set_cons_zero, List.set_cons_succ]
  refine wpAnyH_ready (rs := [4, 7]) (by kernel_rfl) (by simp) ?_
  refine AllReadyH.cons rfl (fun K hK => ?_) (AllReadyH.cons rfl (fun K hK => ?_) AllReadyH.nil)
  · go_simp
    refine hK.out _ _ cd (fun _ => ?_)
    clear hK K
    try simp only [List.setIfInBounds_toArray, List.set_cons_zero, List.set_cons_succ]
    refine wpAnyH_ready (rs := [7]) (by kernel_rfl) (by simp) ?_
    refine AllReadyH.cons rfl (fun K hK => ?_) AllReadyH.nil
    go_simp
    refine hK.out _ _ k2 (fun _ => ?_)
    clear hK K
    try simp only [List.setIfInBounds_toArray, List.set_cons_zero, List.set_cons_succ]
    refine wpAnyH_ready (rs := [8]) (by kernel_rfl) (by simp) ?_
    refine AllReadyH.cons rfl (fun K hK => ?_) AllReadyH.nil
    refine step_append_run rfl (.tmp 52) (.tmp 55) _ _ rfl rfl rfl hr6 ?_
    refine hK.out _ _ k6 (fun _ => ?_)
    clear hK K
    try simp only [Act.put, List.setIfInBounds_toArray, List.set_cons_zero, List.set_cons_succ]
    refine tk (i := 9) (v := ?vj9) rfl (by kernel_rfl) (by kernel_rfl) (by kernel_rfl) (fun _ _ _ h => h) (by kernel_rfl) ?hj9 k6 ?_
    case hj9 => intro w hSw; (try dsimp only at hSw); go_simp; try with_reducible rfl
    try simp only [Act.put, List.setIfInBounds_toArray, List.set_cons_zero, List.set_cons_succ]
    refine tk (i := 10) (v := ?vj10) rfl (by kernel_rfl) (by kernel_rfl) (by kernel_rfl) (fun _ _ _ h => h) (by kernel_rfl) ?hj10 k6 ?_
    case hj10 => intro w hSw; (try dsimp only at hSw); go_simp; try with_reducible rfl
    try simp only [Act.put, List.setIfInBounds_toArray, List.set_cons_zero, List.set_cons_succ]
    refine wpAnyH_ready (rs := [11]) (by kernel_rfl) (by simp) ?_
    refine AllReadyH.cons rfl (fun K hK => ?_) AllReadyH.nil
    go_simp
    refine hK.out _ _ k7 (fun _ => ?_)
    clear hK K
    refine wpAnyH_done (by kernel_rfl) ?_ _
    go_wp2
    exact bodyPost_ret (v := .tuple #[]) (by simp [results, Tryd.results33, go_sem]) rfl HF.out
  · go_simp
    refine hK.out _ _ k2 (fun _ => ?_)
    clear hK K
    try simp only [List.setIfInBounds_toArray, List.set_cons_zero, List.set_cons_succ]
    refine wpAnyH_ready (rs := [4]) (by kernel_rfl) (by simp) ?_
    refine AllReadyH.cons rfl (fun K hK => ?_) AllReadyH.nil
    go_simp
    refine hK.out _ _ k2 (fun _ => ?_)
    clear hK K
    try simp only [List.setIfInBounds_toArray, List.set_cons_zero, List.set_cons_succ]
    refine wpAnyH_ready (rs := [8]) (by kernel_rfl) (by simp) ?_
    refine AllReadyH.cons rfl (fun K hK => ?_) AllReadyH.nil
    refine step_append_run rfl (.tmp 52) (.tmp 55) _ _ rfl rfl rfl hr6 ?_
    refine hK.out _ _ k6 (fun _ => ?_)
    clear hK K
    try simp only [Act.put, List.setIfInBounds_toArray, List.set_cons_zero, List.set_cons_succ]
    refine tk (i := 9) (v := ?vk9) rfl (by kernel_rfl) (by kernel_rfl) (by kernel_rfl) (fun _ _ _ h => h) (by kernel_rfl) ?hk9 k6 ?_
    case hk9 => intro w hSw; (try dsimp only at hSw); go_simp; try with_reducible rfl
    try simp only [Act.put, List.setIfInBounds_toArray, List.set_cons_zero, List.set_cons_succ]
    refine tk (i := 10) (v := ?vk10) rfl (by kernel_rfl) (by kernel_rfl) (by kernel_rfl) (fun _ _ _ h => h) (by kernel_rfl) ?hk10 k6 ?_
    case hk10 => intro w hSw; (try dsimp only at hSw); go_simp; try with_reducible rfl
    try simp only [Act.put, List.setIfInBounds_toArray, List.set_cons_zero, List.set_cons_succ]
    refine wpAnyH_ready (rs := [11]) (by kernel_rfl) (by simp) ?_
    refine AllReadyH.cons rfl (fun K hK => ?_) AllReadyH.nil
    go_simp
    refine hK.out _ _ k7 (fun _ => ?_)
    clear hK K
    refine wpAnyH_done (by kernel_rfl) ?_ _
    go_wp2
    exact bodyPost_ret (v := .tuple #[]) (by simp [results, Tryd.results33, go_sem]) rfl HF.out

set_option maxRecDepth 100000 in
set_option maxHeartbeats 8000000 in
theorem apply_bar (p : Nat) (NA EA : Option Addr) (nn nc en ec : Nat) (s : Sc) (r : Ru) (base : Nat) (w : World) (hS : ScanS base p NA nn nc EA en ec s w) (hl : s.bars.length ≤ 1000) (hq : base ≤ w.heap.size) (hk : r.kd = 4) :
    Calls Tryd.prog 33 #[.pointer (some ⟨p, 0, none⟩), ruV r, .bool false] w (ApPost base p NA nn nc EA en ec ⟨s.bits, s.holds, s.bars ++ [r.nm]⟩ w) := by
  obtain ⟨BA, bc, HA, hc, PA, pc, hx, hb, hh, hp, hne, hbp⟩ := hS
  unfold ruV
  rw [hk]
  generalize hw1 : w.alloc (.cells #[.int .i64 (4 : Int), .string ⟨r.nm.toArray⟩, .slice r.ca r.code.length r.cc] 43) = w1
  have hr1 : Box w1 w.heap.size 43 #[.int .i64 4, .string ⟨r.nm.toArray⟩, .slice r.ca r.code.length r.cc] := by rw [← hw1]; exact Box.new _ _ _
  have hb1 : Below w.heap.size w w1 := by rw [← hw1]; exact (Below.refl _ w).alloc (Nat.le_refl _) _
  have hx1 := hx.below hb1 hx.lt
  have hbb1 := hb.below hb1
  have hh1 := hh.below hb1
  have hp1 := hp.below hb1
  have hq1 : base ≤ w1.heap.size := Nat.le_trans hq hb1.size
  have hbw : Below base w w1.drew := below_drew (hb1.mono hq)
  obtain ⟨A6, c6, w6, hr6, hrow6, hg6, hb6, hor6⟩ := run_app_n2 (w := w1.drew) (p := w1.heap.size) r.nm rfl (RowN.drewN hp1 1) rfl (by omega) hq1
  have hba : Below w1.heap.size w1.drew (w1.drew.alloc (.cells #[.string ⟨r.nm.toArray⟩] 9)) := (Below.refl _ w1.drew).alloc (Nat.le_refl _) _
  have hx2 : Box (w1.drew.alloc (.cells #[.string ⟨r.nm.toArray⟩] 9)) p 68 _ := Box.below (w := w1.drew) hx1 hba hx1.lt
  have hr2 : Box (w1.drew.alloc (.cells #[.string ⟨r.nm.toArray⟩] 9)) w.heap.size 43 _ := Box.below (w := w1.drew) hr1 hba hr1.lt
  have ho2 : (w1.drew.alloc (.cells #[.string ⟨r.nm.toArray⟩] 9)).ownsRow base 9 1 (.slice PA s.bars.length pc) s.bars.length (s.bars.flatMap strC) := own_keep (w := w1.drew) hp1 hba
  have hb2 : (w1.drew.alloc (.cells #[.string ⟨r.nm.toArray⟩] 9)).ownsRow base 4 1 (.slice BA s.bits.length bc) s.bits.length (s.bits.flatMap boolC) := own_keep (w := w1.drew) hbb1 hba
  have hot2 : RowN base (w1.drew.alloc (.cells #[.string ⟨r.nm.toArray⟩] 9)) HA hc s.holds := own_keep (w := w1.drew) hh1 hba
  have hx6 := hx2.grown hg6 (box_apart hx2 (by decide) ho2)
  have hr6x := hr2.grown hg6 (box_apart hr2 (by decide) ho2)
  have hb6r : w6.ownsRow base 4 1 (.slice BA s.bits.length bc) s.bits.length (s.bits.flatMap boolC) := own_grown hb2 hg6 (by have := own_types' hb2 ho2 (by decide); simpa [obk_eq] using this)
  have hdis : ∀ k, obk HA = some k → some k ≠ obk PA := fun k hk e => by
    rcases hne with h | h
    · rw [h] at hk; cases hk
    · exact h (hk.trans e)
  have hot6 : RowN base w6 HA hc s.holds := own_grown hot2 hg6 (fun k hk => hdis k (by rw [← hk, obk_eq]))
  have hol := obk_lt hh1
  have hd6 : obk HA = none ∨ obk HA ≠ obk A6 := by
    rcases hor6 with h | h
    · rw [h]; exact hne
    · right; rw [h]; intro e2; have := hol _ e2; omega
  have hdw : w1.heap.size + 1 ≤ w6.heap.size := by have := hg6.size; simp at this; exact this
  have hpq : p < w6.heap.size := hx6.lt
  have HF : Hid (ApPost base p NA nn nc EA en ec ⟨s.bits, s.holds, s.bars ++ [r.nm]⟩ w (.returned (.tuple #[])) (w6.setCell ⟨p, 4, none⟩ (.slice A6 (s.bars.length + 1) c6))) := by
    refine ⟨rfl, ⟨BA, bc, HA, hc, A6, c6, ?_, own_setb hx6 (by decide) hb6r _ _, own_setb hx6 (by decide) hot6 _ _, own_setb hx6 (by decide) (show w6.ownsRow base 9 1 (.slice A6 (s.bars ++ [r.nm]).length c6) _ _ from hrow6) _ _, hd6, hbp⟩, (hb6 w hbw).setCell (p := ⟨p, 4, none⟩) hbp _⟩
    have := scan_set4 (PA' := A6) (pn' := s.bars.length + 1) (pc' := c6) hx6
    simpa using this
  have kd : ∀ w', Box w' w.heap.size 43 #[.int .i64 4, .string ⟨r.nm.toArray⟩, .slice r.ca r.code.length r.cc] → w'.cell? ⟨w.heap.size, 1, none⟩ = some (.string ⟨r.nm.toArray⟩) := fun w' h => h.cell 1
  have cd := kd w1.drew hr1
  have k2 := kd _ hr2
  have k6 := kd _ hr6x
  have hwp : w.heap.size ≠ p := by have := hx.lt; omega
  have k7 := kd _ (hr6x.far (p := ⟨p, 4, none⟩) hwp (.slice A6 (s.bars.length + 1) c6))
  have r0 := hr1.cell 0
  simp at r0
  have q0 : w1.drew.cell? ⟨p, 4, none⟩ = some (.slice PA s.bars.length pc) := hx1.cell 4
  have q2 : (w1.drew.alloc (.cells #[.string ⟨r.nm.toArray⟩] 9)).cell? ⟨p, 4, none⟩ = some (.slice PA s.bars.length pc) := hx2.cell 4
  have q2d : (w1.alloc (.cells #[.string ⟨r.nm.toArray⟩] 9)).drew.cell? ⟨p, 4, none⟩ = some (.slice PA s.bars.length pc) := q2
  have q6 : w6.cell? ⟨p, 4, none⟩ = some (.slice PA s.bars.length pc) := hx6.cell 4
  have f6 := hx6.frozen 4
  clear hx hb hh hp hx1 hbb1 hh1 hp1 hr1 hx2 hr2 ho2 hb2 hot2 hx6 hr6x hb6r hot6 hol hd6 hrow6 hg6 hb6 hor6 hdis kd hbw hba hb1
  generalize s.bars.length = n at *
  go_enter Tryd.func33, Tryd.ntmps33
  go_wp2_with fail
  clear hw1
  refine region_start (S := fun w' => w'.cell? ⟨w.heap.size, 1, none⟩ = some (.string ⟨r.nm.toArray⟩)) (n := 12) (lit := #[false, false, false, false, false, false, false, false, false, false, false, false]) rfl rfl (by kernel_rfl) cd fun hS => ?_
  refine tk (i := 0) (v := ?vm0) rfl (by kernel_rfl) (by kernel_rfl) (by kernel_rfl) (fun _ _ _ h => h) (by kernel_rfl) ?hm0 hS ?_
  case hm0 => intro w hSw; (try dsimp only at hSw); go_simp; try with_reducible rfl
  try simp only [Act.put, List.setIfInBounds_toArray, List.set_cons_zero, List.set_cons_succ]
  refine tk (i := 1) (v := ?vm1) rfl (by kernel_rfl) (by kernel_rfl) (by kernel_rfl) (fun _ _ _ h => h) (by kernel_rfl) ?hm1 hS ?_
  case hm1 => intro w hSw; (try dsimp only at hSw); go_simp; try with_reducible rfl
  try simp only [Act.put, List.setIfInBounds_toArray, List.set_cons_zero, List.set_cons_succ]
  refine tk (i := 2) (v := ?vm2) rfl (by kernel_rfl) (by kernel_rfl) (by kernel_rfl) (fun _ _ _ h => h) (by kernel_rfl) ?hm2 hS ?_
  case hm2 => intro w hSw; (try dsimp only at hSw); go_simp; try with_reducible rfl
  try simp only [Act.put, List.setIfInBounds_toArray, List.set_cons_zero, List.set_cons_succ]
  refine tk (i := 3) (v := ?vm3) rfl (by kernel_rfl) (by kernel_rfl) (by kernel_rfl) (fun _ _ _ h => h) (by kernel_rfl) ?hm3 hS ?_
  case hm3 => intro w hSw; (try dsimp only at hSw); go_simp; try with_reducible rfl
  try simp only [Act.put, List.setIfInBounds_toArray, List.set_cons_zero, List.set_cons_succ]
  refine tk (i := 5) (v := ?vm5) rfl (by kernel_rfl) (by kernel_rfl) (by kernel_rfl) (fun _ _ _ h => h) (by kernel_rfl) ?hm5 hS ?_
  case hm5 => intro w hSw; (try dsimp only at hSw); go_simp; try with_reducible rfl
  try simp only [Act.put, List.setIfInBounds_toArray, List.set_cons_zero, List.set_cons_succ]
  refine tk (i := 6) (v := ?vm6) rfl (by kernel_rfl) (by kernel_rfl) (by kernel_rfl) (fun _ _ _ h => h) (by kernel_rfl) ?hm6 hS ?_
  case hm6 => intro w hSw; (try dsimp only at hSw); go_simp; try with_reducible rfl
  try simp only [Act.put, List.setIfInBounds_toArray, List.set_cons_zero, List.set_cons_succ]
  refine wpAnyH_ready (rs := [4, 7]) (by kernel_rfl) (by simp) ?_
  refine AllReadyH.cons rfl (fun K hK => ?_) (AllReadyH.cons rfl (fun K hK => ?_) AllReadyH.nil)
  · go_simp
    refine hK.out _ _ cd (fun _ => ?_)
    clear hK K
    try simp only [List.setIfInBounds_toArray, List.set_cons_zero, List.set_cons_succ]
    refine wpAnyH_ready (rs := [7]) (by kernel_rfl) (by simp) ?_
    refine AllReadyH.cons rfl (fun K hK => ?_) AllReadyH.nil
    go_simp
    refine hK.out _ _ k2 (fun _ => ?_)
    clear hK K
    try simp only [List.setIfInBounds_toArray, List.set_cons_zero, List.set_cons_succ]
    refine wpAnyH_ready (rs := [8]) (by kernel_rfl) (by simp) ?_
    refine AllReadyH.cons rfl (fun K hK => ?_) AllReadyH.nil
    refine step_append_run rfl (.tmp 67) (.tmp 70) _ _ rfl rfl rfl hr6 ?_
    refine hK.out _ _ k6 (fun _ => ?_)
    clear hK K
    try simp only [Act.put, List.setIfInBounds_toArray, List.set_cons_zero, List.set_cons_succ]
    refine tk (i := 9) (v := ?vn9) rfl (by kernel_rfl) (by kernel_rfl) (by kernel_rfl) (fun _ _ _ h => h) (by kernel_rfl) ?hn9 k6 ?_
    case hn9 => intro w hSw; (try dsimp only at hSw); go_simp; try with_reducible rfl
    try simp only [Act.put, List.setIfInBounds_toArray, List.set_cons_zero, List.set_cons_succ]
    refine tk (i := 10) (v := ?vn10) rfl (by kernel_rfl) (by kernel_rfl) (by kernel_rfl) (fun _ _ _ h => h) (by kernel_rfl) ?hn10 k6 ?_
    case hn10 => intro w hSw; (try dsimp only at hSw); go_simp; try with_reducible rfl
    try simp only [Act.put, List.setIfInBounds_toArray, List.set_cons_zero, List.set_cons_succ]
    refine wpAnyH_ready (rs := [11]) (by kernel_rfl) (by simp) ?_
    refine AllReadyH.cons rfl (fun K hK => ?_) AllReadyH.nil
    go_simp
    refine hK.out _ _ k7 (fun _ => ?_)
    clear hK K
    refine wpAnyH_done (by kernel_rfl) ?_ _
    go_wp2
    exact bodyPost_ret (v := .tuple #[]) (by simp [results, Tryd.results33, go_sem]) rfl HF.out
  · go_simp
    refine hK.out _ _ k2 (fun _ => ?_)
    clear hK K
    try simp only [List.setIfInBounds_toArray, List.set_cons_zero, List.set_cons_succ]
    refine wpAnyH_ready (rs := [4]) (by kernel_rfl) (by simp) ?_
    refine AllReadyH.cons rfl (fun K hK => ?_) AllReadyH.nil
    go_simp
    refine hK.out _ _ k2 (fun _ => ?_)
    clear hK K
    try simp only [List.setIfInBounds_toArray, List.set_cons_zero, List.set_cons_succ]
    refine wpAnyH_ready (rs := [8]) (by kernel_rfl) (by simp) ?_
    refine AllReadyH.cons rfl (fun K hK => ?_) AllReadyH.nil
    refine step_append_run rfl (.tmp 67) (.tmp 70) _ _ rfl rfl rfl hr6 ?_
    refine hK.out _ _ k6 (fun _ => ?_)
    clear hK K
    try simp only [Act.put, List.setIfInBounds_toArray, List.set_cons_zero, List.set_cons_succ]
    refine tk (i := 9) (v := ?vo9) rfl (by kernel_rfl) (by kernel_rfl) (by kernel_rfl) (fun _ _ _ h => h) (by kernel_rfl) ?ho9 k6 ?_
    case ho9 => intro w hSw; (try dsimp only at hSw); go_simp; try with_reducible rfl
    try simp only [Act.put, List.setIfInBounds_toArray, List.set_cons_zero, List.set_cons_succ]
    refine tk (i := 10) (v := ?vo10) rfl (by kernel_rfl) (by kernel_rfl) (by kernel_rfl) (fun _ _ _ h => h) (by kernel_rfl) ?ho10 k6 ?_
    case ho10 => intro w hSw; (try dsimp only at hSw); go_simp; try with_reducible rfl
    try simp only [Act.put, List.setIfInBounds_toArray, List.set_cons_zero, List.set_cons_succ]
    refine wpAnyH_ready (rs := [11]) (by kernel_rfl) (by simp) ?_
    refine AllReadyH.cons rfl (fun K hK => ?_) AllReadyH.nil
    go_simp
    refine hK.out _ _ k7 (fun _ => ?_)
    clear hK K
    refine wpAnyH_done (by kernel_rfl) ?_ _
    go_wp2
    exact bodyPost_ret (v := .tuple #[]) (by simp [results, Tryd.results33, go_sem]) rfl HF.out

set_option maxRecDepth 100000 in
set_option maxHeartbeats 4000000 in
theorem apply_nop1 (p : Nat) (NA EA : Option Addr) (nn nc en ec : Nat) (s : Sc) (r : Ru) (base : Nat) (w : World) (hS : ScanS base p NA nn nc EA en ec s w) (hq : base ≤ w.heap.size) (hk : r.kd = 1) :
    Calls Tryd.prog 33 #[.pointer (some ⟨p, 0, none⟩), ruV r, .bool false] w (ApPost base p NA nn nc EA en ec s w) := by
  unfold ruV
  rw [hk]
  have hb1 : Below w.heap.size w (w.alloc (.cells #[.int .i64 (1 : Int), .string ⟨r.nm.toArray⟩, .slice r.ca r.code.length r.cc] 43)) := (Below.refl _ w).alloc (Nat.le_refl _) _
  have HF : Hid (ApPost base p NA nn nc EA en ec s w (.returned (.tuple #[])) (w.alloc (.cells #[.int .i64 (1 : Int), .string ⟨r.nm.toArray⟩, .slice r.ca r.code.length r.cc] 43))) := ⟨rfl, hS.below hb1, hb1.mono hq⟩
  clear hS hb1
  generalize r.code.length = cl at *
  go_enter Tryd.func33, Tryd.ntmps33
  go_wp2
  exact bodyPost_ret (v := .tuple #[]) (by simp [results, Tryd.results33, go_sem]) rfl HF.out

set_option maxRecDepth 100000 in
set_option maxHeartbeats 4000000 in
theorem apply_nop2 (p : Nat) (NA EA : Option Addr) (nn nc en ec : Nat) (s : Sc) (r : Ru) (base : Nat) (w : World) (hS : ScanS base p NA nn nc EA en ec s w) (hq : base ≤ w.heap.size) (hk : r.kd = 2) :
    Calls Tryd.prog 33 #[.pointer (some ⟨p, 0, none⟩), ruV r, .bool false] w (ApPost base p NA nn nc EA en ec s w) := by
  unfold ruV
  rw [hk]
  have hb1 : Below w.heap.size w (w.alloc (.cells #[.int .i64 (2 : Int), .string ⟨r.nm.toArray⟩, .slice r.ca r.code.length r.cc] 43)) := (Below.refl _ w).alloc (Nat.le_refl _) _
  have HF : Hid (ApPost base p NA nn nc EA en ec s w (.returned (.tuple #[])) (w.alloc (.cells #[.int .i64 (2 : Int), .string ⟨r.nm.toArray⟩, .slice r.ca r.code.length r.cc] 43))) := ⟨rfl, hS.below hb1, hb1.mono hq⟩
  clear hS hb1
  generalize r.code.length = cl at *
  go_enter Tryd.func33, Tryd.ntmps33
  go_wp2
  exact bodyPost_ret (v := .tuple #[]) (by simp [results, Tryd.results33, go_sem]) rfl HF.out

set_option maxRecDepth 100000 in
set_option maxHeartbeats 4000000 in
theorem apply_nop3 (p : Nat) (NA EA : Option Addr) (nn nc en ec : Nat) (s : Sc) (r : Ru) (base : Nat) (w : World) (hS : ScanS base p NA nn nc EA en ec s w) (hq : base ≤ w.heap.size) (hk : r.kd = 3) :
    Calls Tryd.prog 33 #[.pointer (some ⟨p, 0, none⟩), ruV r, .bool true] w (ApPost base p NA nn nc EA en ec s w) := by
  unfold ruV
  rw [hk]
  have hb1 : Below w.heap.size w (w.alloc (.cells #[.int .i64 (3 : Int), .string ⟨r.nm.toArray⟩, .slice r.ca r.code.length r.cc] 43)) := (Below.refl _ w).alloc (Nat.le_refl _) _
  have HF : Hid (ApPost base p NA nn nc EA en ec s w (.returned (.tuple #[])) (w.alloc (.cells #[.int .i64 (3 : Int), .string ⟨r.nm.toArray⟩, .slice r.ca r.code.length r.cc] 43))) := ⟨rfl, hS.below hb1, hb1.mono hq⟩
  clear hS hb1
  generalize r.code.length = cl at *
  go_enter Tryd.func33, Tryd.ntmps33
  go_wp2
  exact bodyPost_ret (v := .tuple #[]) (by simp [results, Tryd.results33, go_sem]) rfl HF.out

set_option maxRecDepth 100000 in
set_option maxHeartbeats 4000000 in
theorem apply_nop4 (p : Nat) (NA EA : Option Addr) (nn nc en ec : Nat) (s : Sc) (r : Ru) (base : Nat) (w : World) (hS : ScanS base p NA nn nc EA en ec s w) (hq : base ≤ w.heap.size) (hk : r.kd = 4) :
    Calls Tryd.prog 33 #[.pointer (some ⟨p, 0, none⟩), ruV r, .bool true] w (ApPost base p NA nn nc EA en ec s w) := by
  unfold ruV
  rw [hk]
  have hb1 : Below w.heap.size w (w.alloc (.cells #[.int .i64 (4 : Int), .string ⟨r.nm.toArray⟩, .slice r.ca r.code.length r.cc] 43)) := (Below.refl _ w).alloc (Nat.le_refl _) _
  have HF : Hid (ApPost base p NA nn nc EA en ec s w (.returned (.tuple #[])) (w.alloc (.cells #[.int .i64 (4 : Int), .string ⟨r.nm.toArray⟩, .slice r.ca r.code.length r.cc] 43))) := ⟨rfl, hS.below hb1, hb1.mono hq⟩
  clear hS hb1
  generalize r.code.length = cl at *
  go_enter Tryd.func33, Tryd.ntmps33
  go_wp2
  exact bodyPost_ret (v := .tuple #[]) (by simp [results, Tryd.results33, go_sem]) rfl HF.out

theorem apply_any (o : Bool) (p : Nat) (NA EA : Option Addr) (nc en ec : Nat) (N : List Nm) (s : Sc) (r : Ru) (base : Nat) (w : World) (hS : ScanS base p NA N.length nc EA en ec s w) (hN : Strs w NA N) (hlN : N.length ≤ 1000000) (hlB : s.bits.length = N.length) (hh : s.holds.length ≤ 1000) (hp : s.bars.length ≤ 1000) (hq : base ≤ w.heap.size) (hk0 : 0 ≤ r.kd) (hk4 : r.kd ≤ 4) (hin : r.kd ≤ 2 → r.nm ∈ N) :
    Calls Tryd.prog 33 #[.pointer (some ⟨p, 0, none⟩), ruV r, .bool o] w (ApPost base p NA N.length nc EA en ec (applyP N s r o) w) := by
  have hc : r.kd = 0 ∨ r.kd = 1 ∨ r.kd = 2 ∨ r.kd = 3 ∨ r.kd = 4 := by omega
  unfold applyP
  rcases hc with h | h | h | h | h
  · rw [if_pos h]
    exact apply_bit o p NA EA nc en ec N s r base w hS hN hlN hlB (hin (by omega)) h
  · rw [if_neg (by omega), if_pos h]
    cases o
    · exact apply_nop1 p NA EA N.length nc en ec s r base w hS hq h
    · exact apply_set true p NA EA nc en ec N s r base w hS hN hlN hlB (hin (by omega)) h rfl
  · rw [if_neg (by omega), if_neg (by omega), if_pos h]
    cases o
    · exact apply_nop2 p NA EA N.length nc en ec s r base w hS hq h
    · exact apply_reset true p NA EA nc en ec N s r base w hS hN hlN hlB (hin (by omega)) h rfl
  · rw [if_neg (by omega), if_neg (by omega), if_neg (by omega), if_pos h]
    cases o
    · exact apply_hold p NA EA N.length nc en ec s r base w hS hh hq h
    · exact apply_nop3 p NA EA N.length nc en ec s r base w hS hq h
  · rw [if_neg (by omega), if_neg (by omega), if_neg (by omega), if_neg (by omega)]
    cases o
    · exact apply_bar p NA EA N.length nc en ec s r base w hS hp hq h
    · exact apply_nop4 p NA EA N.length nc en ec s r base w hS hq h

def BgPost (NA : Option Addr) (nn nc : Nat) (EA : Option Addr) (en ec : Nat) (bits : List Bool) (w : World) (e : Ending) (w' : World) : Prop := ∃ p, e = .returned (.pointer (some ⟨p, 0, none⟩)) ∧ ScanS w.heap.size p NA nn nc EA en ec ⟨bits, [], []⟩ w' ∧ Below w.heap.size w w'
set_option maxRecDepth 100000 in
theorem begin_any (NA BA EA : Option Addr) (nn nc bc en ec : Nat) (bits : List Bool) (w : World) (hB : Bools w BA bits) (hl : bits.length ≤ 100000) :
    Calls Tryd.prog 32 #[.slice NA nn nc, .slice BA bits.length bc, .slice EA en ec] w (BgPost NA nn nc EA en ec bits w) := by
  have hC := clone_any bits BA bc w hB hl
  have HP : Hid (∀ A c w1, RowB w.heap.size w1 A c bits → Below w.heap.size w w1 → BgPost NA nn nc EA en ec bits w (.returned (.pointer (some ⟨w1.heap.size, 0, none⟩))) (w1.alloc (.cells #[.slice NA nn nc, .slice A bits.length c, .slice EA en ec, .slice none 0 0, .slice none 0 0] 68))) := fun A c w1 hr hb =>
    ⟨_, rfl, ⟨A, c, none, 0, none, 0, Box.new w1 _ _, hr.below ((Below.refl _ _).alloc (Nat.le_refl _) _), RowN.nil_ _ _, RowN.nil_ _ _, .inl rfl, hb.size⟩, hb.alloc hb.size _⟩
  clear hB
  go_enter Tryd.func32, Tryd.ntmps32
  go_wp2_with fail
  refine hC.mono ?_
  rintro e w1 ⟨A, c, rfl, hr, hb⟩
  have HQ := Lib.hid (HP.out A c w1 hr hb)
  clear hC HP hr hb
  generalize bits.length = n at *
  go_wp2
  go_ret
  exact HQ.out
end Go.Proofs.YtohljihndoodfaaDoor.Rg
