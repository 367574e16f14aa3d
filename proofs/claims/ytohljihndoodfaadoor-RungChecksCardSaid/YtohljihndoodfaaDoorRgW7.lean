/-
  Contracts of slices.Clone at bools, of effect: the stack, a row of one's own.
-/
import Derived.Test.YtohljihndoodfaaDoorRgW6
import Derived.Deep.RegionHeld3
namespace Go.Proofs.YtohljihndoodfaaDoor.Rg
open Go.RowKit Lx Ep

/-- An operation of a drawn region that yields its value in every world that meets S is taken first. -/
theorem tk {P : Program} {l : List Oper} {Q : Exit → Act → World → Prop} {md : Region.Mode} {S : World → Prop} {i : Nat} {oi : Oper} {v : Value} {fuel : Nat} {listed : Array Bool} {a : Act} {w : World} (hi : l[i]? = some oi)
    (hs : Region.noSelect l.toArray = true) (hf : Region.free md l.toArray listed i = true) (hr : (Region.ready md l.toArray listed).contains i = true) (hQ : ∀ c a w, Q (.panic c) (a.put oi.dst v) w → Q (.panic c) a w)
    (hw : Region.wanted oi (yielded l.toArray a.tmps) = true) (hy : ∀ w, S w → (execOp a.eval oi).run P w = .ok (.value v) w) (hS : S w)
    (h : wpAnyH P md l.toArray Q S fuel (listed.setIfInBounds i true) (a.put oi.dst v) w) : wpAnyH P md l.toArray Q S (fuel + 1) listed a w := wpAnyH_take (show l.toArray[i]? = some oi by simpa using hi) hs hf hr hQ (Or.inl ⟨hw, hy⟩) hS h
/-- An operation of a drawn region whose guard says no is passed over. -/
theorem sk {P : Program} {l : List Oper} {Q : Exit → Act → World → Prop} {md : Region.Mode} {S : World → Prop} {i : Nat} {oi : Oper} {fuel : Nat} {listed : Array Bool} {a : Act} {w : World} (hi : l[i]? = some oi)
    (hs : Region.noSelect l.toArray = true) (hf : Region.free md l.toArray listed i = true) (hr : (Region.ready md l.toArray listed).contains i = true) (hQ : ∀ c a w, Q (.panic c) (a.put oi.dst undef) w → Q (.panic c) a w)
    (hw : Region.wanted oi (yielded l.toArray a.tmps) = false) (hS : S w)
    (h : wpAnyH P md l.toArray Q S fuel (listed.setIfInBounds i true) (a.put oi.dst undef) w) : wpAnyH P md l.toArray Q S (fuel + 1) listed a w := wpAnyH_take (show l.toArray[i]? = some oi by simpa using hi) hs hf hr hQ (Or.inr ⟨hw, rfl⟩) hS h
theorem region_start {P : Program} {Q : Exit → Act → World → Prop} {S : World → Prop} {id : Nat} {a : Act} {w : World} {l : List Oper} {n : Nat} {lit : Array Bool} (hn : l.length = n) (hl : Array.replicate n false = lit) (hm : P.follows .mixedOrders = true) (hS : S w.drew)
    (h : S w.drew → wpAnyH P .any l.toArray Q S n lit a w.drew) : (Code.region id l.toArray true).wp P Q a w := by
  subst hn; subst hl
  exact wp_region_held_drew hm hS h

def RowB (base : Nat) (w : World) (A : Option Addr) (c : Nat) (l : List Bool) : Prop := w.ownsRow base 4 1 (.slice A l.length c) l.length (l.flatMap boolC)
theorem RowB.nil_ (base : Nat) (w : World) : RowB base w none 0 [] := World.ownsRow_nil _ _ _ _
theorem RowB.bools {base c : Nat} {w : World} {A : Option Addr} {l : List Bool} (h : RowB base w A c l) : Bools w A l := RowF.of_own (fun _ => rfl) h rfl
theorem RowB.below {base c : Nat} {w w' : World} {A : Option Addr} {l : List Bool} (h : RowB base w A c l) (k : Below w.heap.size w w') : RowB base w' A c l := own_keep h k
theorem RowB.less {base base' c : Nat} {w : World} {A : Option Addr} {l : List Bool} (h : RowB base w A c l) (hb : base' ≤ base) : RowB base' w A c l := own_less h hb
theorem flat_bool (l : List Bool) : l.flatMap boolC = l.map Value.bool := by
  induction l with
  | nil => rfl
  | cons x r ih => rw [List.flatMap_cons, ih]; rfl
theorem RowB.form {base c : Nat} {w : World} {A : Option Addr} {l : List Bool} (h : RowB base w A c l) (h0 : 0 < l.length) : ∃ g, A = some ⟨g, 0, none⟩ ∧ base ≤ g ∧ g < w.heap.size ∧ l.length ≤ c ∧ (∀ i, w.frozen? ⟨g, i, none⟩ = false) ∧ ∀ i (hi : i < l.length), w.cell? ⟨g, i, none⟩ = some (.bool l[i]) := by
  have hb := h.bools
  rcases h.2 with ⟨_, h1⟩ | ⟨g, cap, cur, hv, hbg, hh, hnc, _⟩
  · omega
  · injection hv with h1 h2 h3
    subst h1 h3
    refine ⟨g, rfl, hbg, (Array.getElem?_eq_some_iff.1 hh).1, hnc, fun i => by simp [World.frozen?, hh], fun i hi => ?_⟩
    obtain ⟨g', off', e, _, hc⟩ := hb h0
    injection e with e
    injection e with e1 e2
    subst e1 e2
    simpa using hc i hi 0 _ rfl
theorem RowB.set_ {base c g : Nat} {w : World} {l : List Bool} (h : RowB base w (some ⟨g, 0, none⟩) c l) (k : Nat) (b : Bool) : RowB base (w.setCell ⟨g, k, none⟩ (.bool b)) (some ⟨g, 0, none⟩) c (l.set k b) := by
  obtain ⟨h1, -⟩ := h.stored k (.bool b)
  unfold RowB
  rw [List.length_set, flat_bool, List.map_set, ← flat_bool]
  exact h1
theorem RowB.cut {base c : Nat} {w : World} {A : Option Addr} {l r : List Bool} (h : RowB base w A c (l ++ r)) (hr : 0 < r.length) : w.ownsRow base 4 1 (.slice A l.length c) l.length (l.flatMap boolC) := by
  rcases h.2 with ⟨_, h1⟩ | ⟨g, cap, cur, hv, hbg, hh, hnc, hcm, hcs, ht⟩
  · rw [List.length_append] at h1; omega
  · injection hv with h1 h2 h3
    subst h1 h3
    refine ⟨by rw [flat_bool]; simp, .inr ⟨g, c, cur, rfl, hbg, hh, by rw [List.length_append] at hnc; omega, hcm, hcs, ?_⟩⟩
    have := congrArg (List.take (l.length * 1)) ht
    rw [List.take_take, List.flatMap_append, flat_bool, flat_bool] at this
    rw [flat_bool]
    rw [List.length_append] at this
    rw [show min (l.length * 1) ((l.length + r.length) * 1) = l.length * 1 by omega] at this
    rw [this]
    simp

/-- A row's own block. -/
def obk (A : Option Addr) : Option Nat := A.map fun a => a.block
theorem obk_eq {A : Option Addr} {n c : Nat} : (Value.slice A n c).ownBlock = obk A := by cases A <;> rfl
theorem grown_drew {w w' : World} {o : Option Nat} (h : w.drew.grownBy w' o) : w.grownBy w' o := ⟨h.os, h.tape, h.output, h.size, h.block⟩
theorem grown_set (w : World) (g k : Nat) (u : Value) : w.grownBy (w.setCell ⟨g, k, none⟩ u) (some g) := ⟨rfl, rfl, rfl, by simp [World.setCell], fun i _ hne => Below.heap_setCell _ _ _ _ fun e => hne (by rw [e])⟩
set_option maxRecDepth 100000 in
theorem run_app_b {base n c p : Nat} {w : World} {A : Option Addr} {l : List Bool} (b : Bool) (hp : w.heap.size = p) (h : w.ownsRow base 4 1 (.slice A l.length c) l.length (l.flatMap boolC)) (hn0 : l.length = n) (hn : n ≤ 100000) (hB : base ≤ w.heap.size) :
    ∃ A' c' w', (Builtin.append_ #[46, 46] 46 #[.slice A n c, .slice (some ⟨p, 0, none⟩) 1 1]).run Tryd.prog (w.alloc (.cells #[.bool b] 4)) = .ok (.slice A' (n + 1) c') w' ∧
      RowB base w' A' c' (l ++ [b]) ∧ (∀ w0, Below base w0 w → Below base w0 w') ∧ w.grownBy w' (obk A) := by
  subst hn0 hp
  obtain ⟨A', c', w', hr, ho, hg, _⟩ := run_append_1 Tryd.underlying46 info_bool (by rfl) (by omega) (by omega) #[.bool b] rfl (by simp [Value.oneCell']) h (by omega) hB
  have hlt := own_ge h
  refine ⟨A', c', w', hr, ?_, fun w0 h0 => (h0.alloc hB _).grown hg (by simp; omega) hlt, ?_⟩
  · unfold RowB
    rw [List.length_append, List.flatMap_append]
    exact ho
  · rw [obk_eq] at hg
    exact ⟨hg.os, hg.tape, hg.output, Nat.le_trans (by simp) hg.size, fun i hi hne => (hg.block i (by simp; omega) hne).trans (Below.heap_alloc _ _ _ hi)⟩

/-- What a stack of one's own is told by. -/
def StkPost (base : Nat) (ob : Option Nat) (L : List Bool) (w : World) (e : Ending) (w' : World) : Prop := ∃ A c, e = .returned (.slice A L.length c) ∧ RowB base w' A c L ∧ Below base w w' ∧ w.grownBy w' ob
theorem stk_ret {base n c : Nat} {ob : Option Nat} {L : List Bool} {w w' : World} {A : Option Addr} (hn : L.length = n) (h : RowB base w' A c L) (hb : Below base w w') (hg : w.grownBy w' ob) : StkPost base ob L w (.returned (.slice A n c)) w' := by
  subst hn
  exact ⟨A, c, rfl, h, hb, hg⟩

set_option maxRecDepth 100000 in
set_option maxHeartbeats 2000000 in
theorem effect_push (op : Int) (hop : op = 0 ∨ op = 1 ∨ op = 2) (x : Bool) (m : List Bool) (A : Option Addr) (c base : Nat) (w : World) (h : RowB base w A c m) (hm : m.length ≤ 1000) (hB : base ≤ w.heap.size) :
    Calls Tryd.prog 47 #[.slice A m.length c, .int .i64 op, .bool x] w (StkPost base (obk A) (m ++ [if op = 1 then !x else x]) w) := by
  have HA : ∀ b, ∃ A' c' w', (Builtin.append_ #[46, 46] 46 #[.slice A m.length c, .slice (some ⟨w.heap.size, 0, none⟩) 1 1]).run Tryd.prog (w.alloc (.cells #[.bool b] 4)) = .ok (.slice A' (m.length + 1) c') w' ∧ RowB base w' A' c' (m ++ [b]) ∧ (∀ w0, Below base w0 w → Below base w0 w') ∧ w.grownBy w' (obk A) := fun b => run_app_b b rfl h rfl (by omega) hB
  have HL : Hid (∀ b, (m ++ [b]).length = m.length + 1) := fun b => by simp
  rcases hop with rfl | rfl | rfl
  · rw [if_neg (by decide)]
    obtain ⟨A1, c1, w1, hr, hro, hbo, hgo⟩ := HA x
    have HP : Hid (StkPost base (obk A) (m ++ [x]) w (.returned (.slice A1 (m.length + 1) c1)) w1) := stk_ret (HL.out _) hro (hbo w (Below.refl _ _)) hgo
    clear HA h hro hbo hgo
    generalize m.length = n at *
    go_enter Tryd.func47, Tryd.ntmps47
    go_wp2_with (at_builtin; refine wpList_append_run rfl (.tmp 33) (.tmp 35) _ _ rfl rfl rfl hr ?_)
    go_ret
    exact HP.out
  · rw [if_pos rfl]
    obtain ⟨A1, c1, w1, hr, hro, hbo, hgo⟩ := HA (!x)
    have HP : Hid (StkPost base (obk A) (m ++ [!x]) w (.returned (.slice A1 (m.length + 1) c1)) w1) := stk_ret (HL.out _) hro (hbo w (Below.refl _ _)) hgo
    clear HA h hro hbo hgo
    generalize m.length = n at *
    go_enter Tryd.func47, Tryd.ntmps47
    go_wp2_with (at_builtin; refine wpList_append_run rfl (.tmp 33) (.tmp 35) _ _ rfl rfl rfl hr ?_)
    go_ret
    exact HP.out
  · rw [if_neg (by decide)]
    obtain ⟨A1, c1, w1, hr, hro, hbo, hgo⟩ := HA x
    have HP : Hid (StkPost base (obk A) (m ++ [x]) w (.returned (.slice A1 (m.length + 1) c1)) w1) := stk_ret (HL.out _) hro (hbo w (Below.refl _ _)) hgo
    clear HA h hro hbo hgo
    generalize m.length = n at *
    go_enter Tryd.func47, Tryd.ntmps47
    go_wp2_with (at_builtin; refine wpList_append_run rfl (.tmp 33) (.tmp 35) _ _ rfl rfl rfl hr ?_)
    go_ret
    exact HP.out

/-- What becomes of the top. -/
def topP (op : Int) (t x : Bool) : Bool := if op = 3 then t && x else if op = 4 then t && !x else if op = 5 then t || x else if op = 6 then t || !x else !t
theorem set_top (m : List Bool) (t b : Bool) : (m ++ [t]).set m.length b = m ++ [b] := by
  rw [List.set_append_right _ _ (Nat.le_refl _), Nat.sub_self]
  rfl

set_option maxRecDepth 100000 in
set_option maxHeartbeats 4000000 in
theorem effect_top (op : Int) (hop : op = 3 ∨ op = 4 ∨ op = 5 ∨ op = 6 ∨ op = 9) (x t : Bool) (m : List Bool) (A : Option Addr) (c base : Nat) (w : World) (h : RowB base w A c (m ++ [t])) (hm : m.length ≤ 1000) (_hB : base ≤ w.heap.size) :
    Calls Tryd.prog 47 #[.slice A (m.length + 1) c, .int .i64 op, .bool x] w (StkPost base (obk A) (m ++ [topP op t x]) w) := by
  obtain ⟨g, rfl, hbg, hg, hc, hf, hcs⟩ := h.form (by simp)
  show Calls _ _ _ _ (StkPost base (some g) _ w)
  have c0 := hcs m.length (by simp)
  rw [List.getElem_append_right (Nat.le_refl _)] at c0
  simp only [Nat.sub_self, List.getElem_cons_zero] at c0
  have f0 := hf m.length
  have HP : ∀ b, Hid (StkPost base (some g) (m ++ [b]) w (.returned (.slice (some ⟨g, 0, none⟩) (m.length + 1) c)) (w.setCell ⟨g, m.length, none⟩ (.bool b))) := fun b => by
    have := h.set_ m.length b
    rw [set_top] at this
    exact stk_ret (by simp) this ((Below.refl _ _).setCell (p := ⟨g, m.length, none⟩) hbg _) (grown_set w g _ _)
  rw [List.length_append] at hc
  clear hcs hf h
  generalize m.length = k at *
  simp only [List.length_cons, List.length_nil] at hc
  have hk1 : ((k + 1 : Nat) : Int) - 1 = (k : Int) := by omega
  have hk2 : IntKind.i64.wrap ((k : Int)) = (k : Int) := by rw [IntKind.wrap_i64]; omega
  rcases hop with rfl | rfl | rfl | rfl | rfl <;> cases t <;> cases x
  all_goals
    go_enter Tryd.func47, Tryd.ntmps47
    go_wp2
    go_ret
    exact (HP _).out
end Go.Proofs.YtohljihndoodfaaDoor.Rg
