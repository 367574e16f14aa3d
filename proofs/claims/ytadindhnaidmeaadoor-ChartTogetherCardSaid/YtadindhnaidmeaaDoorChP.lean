/-
  A row of numbers of the call's own, appended to.
-/
import Derived.Test.YtadindhnaidmeaaDoorChB
import Derived.Maps.AppendAt
namespace Go.Proofs.YtadindhnaidmeaaDoor.Ch
open Go.RowKit

theorem own_keep {w w' : World} {base : Nat} {e : TypeId} {size : Nat} {v : Value} {n : Nat} {xs : List Value} (h : w.ownsRow base e size v n xs) (hb : Below w.heap.size w w') : w'.ownsRow base e size v n xs := by
  refine ⟨h.1, ?_⟩
  rcases h.2 with h | ⟨g, cap, cur, hv, hbg, hh, r⟩
  · exact .inl h
  · exact .inr ⟨g, cap, cur, hv, hbg, (hb.block g (Array.getElem?_eq_some_iff.1 hh).1).trans hh, r⟩
theorem own_ge {w : World} {base : Nat} {e : TypeId} {size : Nat} {v : Value} {n : Nat} {xs : List Value} (h : w.ownsRow base e size v n xs) : ∀ k, v.ownBlock = some k → base ≤ k := by
  rcases h.2 with ⟨rfl, -⟩ | ⟨g, cap, cur, rfl, hbg, -⟩
  · intro k hk; cases hk
  · intro k hk; injection hk with hk; subst hk; exact hbg
theorem slice_form {w : World} {base : Nat} {e : TypeId} {size : Nat} {v : Value} {n : Nat} {xs : List Value} (h : w.ownsRow base e size v n xs) : ∃ A c, v = .slice A n c := by
  rcases h.2 with ⟨rfl, h0⟩ | ⟨g, cap, cur, rfl, _⟩
  · exact ⟨none, 0, by rw [h0]⟩
  · exact ⟨_, _, rfl⟩
theorem info_int : (Tryd.prog.info? 3).map (fun i => (i.zero, i.size, i.bytes)) = some (some (.int .i64 0), 1, 8) := by kernel_rfl
def intC (l : List Int) : List Value := l.map fun z => Value.int .i64 z
theorem intC_one (l : List Int) : ∀ u ∈ intC l, u.oneCell' = true := by
  intro u hu
  simp only [intC, List.mem_map] at hu
  obtain ⟨b, _, rfl⟩ := hu
  rfl
theorem intC_len (l : List Int) : (intC l).length = l.length := by simp [intC]
/-- A row of numbers of the call's own. -/
def RowI (base : Nat) (w : World) (A : Option Addr) (c n : Nat) (l : List Int) : Prop := l.length = n ∧ w.ownsRow base 3 1 (.slice A n c) n (intC l)
theorem RowI.nil_ (base : Nat) (w : World) : RowI base w none 0 0 [] := ⟨rfl, World.ownsRow_nil _ _ _ _⟩
theorem RowI.keep {base c n : Nat} {w w' : World} {A : Option Addr} {l : List Int} (h : RowI base w A c n l) (hb : Below w.heap.size w w') : RowI base w' A c n l := ⟨h.1, own_keep h.2 hb⟩
theorem RowI.nums {base c n : Nat} {w : World} {A : Option Addr} {l : List Int} (h : RowI base w A c n l) : Nums w A l := fun hl => by
  obtain ⟨g, cap, hv, _, hlt⟩ := h.2.form (by rw [← h.1]; exact hl)
  have hA : A = some ⟨g, 0, none⟩ := by injection hv
  subst hA
  refine ⟨g, 0, rfl, hlt, fun j hj => ?_⟩
  have := h.2.cells (g := g) rfl j (.int .i64 l[j]) (by simp [intC, List.getElem?_eq_getElem hj])
  have e : (⟨g, 0, none⟩ : Addr).add j = ⟨g, j, none⟩ := by unfold Addr.add; split <;> simp_all
  rw [e] at this
  rw [Nat.zero_add]
  exact this
set_option maxRecDepth 100000 in
theorem run_app1 {base n c : Nat} {w : World} {A : Option Addr} {l : List Int} (x : Int) (h : RowI base w A c n l) (hn : n ≤ 1000000) (hB : base ≤ w.heap.size) :
    ∃ A' c' w', (Builtin.append_ #[30, 30] 30 #[.slice A n c, .slice (some ⟨w.heap.size, 0, none⟩) 1 1]).run Tryd.prog (w.alloc (.cells #[.int .i64 x] 3)) = .ok (.slice A' (n + 1) c') w' ∧
      RowI base w' A' c' (n + 1) (l ++ [x]) ∧ (∀ w0, Below base w0 w → Below base w0 w') := by
  obtain ⟨i0, hi0, hz0, hz1, hz2⟩ := info_parts info_int
  have hown' := own_keep h.2 ((Below.refl _ w).alloc (Nat.le_refl _) (.cells #[.int .i64 x] 3))
  obtain ⟨v', w', hr, ho, hg, _, hl⟩ := run_append_own_at (P := Tryd.prog) (w.alloc (.cells #[.int .i64 x] 3)) base 30 30 3 i0 _ 1 8 Tryd.underlying30 hi0 hz0 hz1 hz2 rfl (by decide)
    _ n (intC l) hown' ⟨w.heap.size, 0, none⟩ 1 1 [.int .i64 x] rfl (World.news_of_block (cs := #[.int .i64 x]) (t := 3) (fr := (0, 0)) (heap_alloc_new w _)) (intC_one [x]) (by unfold maxLen; omega) (by omega) (by simp; omega)
  have hlt := own_ge h.2
  rcases ho.2 with ⟨_, h0⟩ | ⟨g, cap, cur, rfl, _⟩
  · omega
  · refine ⟨some ⟨g, 0, none⟩, cap, w', hr, ⟨by simp [h.1], ?_⟩, fun w0 h0 => (h0.alloc hB _).grown hg (by simp; omega) hlt⟩
    simpa [intC] using ho
set_option maxRecDepth 100000 in
theorem run_apps {base n c k d N : Nat} {w : World} {A B : Option Addr} {l m : List Int} (h : RowI base w A c n l) (hm : Nums w B m) (hk : m.length = k) (hN : n + k = N) (hn : n ≤ 1000000) (hk1 : k ≤ 1000000) (hB : base ≤ w.heap.size) :
    ∃ A' c' w', (Builtin.append_ #[30, 30] 30 #[.slice A n c, .slice B k d]).run Tryd.prog w = .ok (.slice A' N c') w' ∧
      RowI base w' A' c' N (l ++ m) ∧ (∀ w0, Below base w0 w → Below base w0 w') := by
  subst hk hN
  obtain ⟨i0, hi0, hz0, hz1, hz2⟩ := info_parts info_int
  have hlt := own_ge h.2
  rcases B with _ | ad
  · have e0 : m = [] := by
      rcases m with _ | ⟨b, r⟩
      · rfl
      · obtain ⟨_, _, h, _⟩ := hm (by simp)
        cases h
    subst e0
    have hrun : (Builtin.append_ #[30, 30] 30 #[.slice A n c, .slice none 0 d]).run Tryd.prog w = .ok (.slice A n c) w := by
      rcases h.2.2 with ⟨e, rfl⟩ | ⟨g, cap, cur, e, _, _, hnc, _⟩
      · injection e with e1 e2 e3
        subst e1 e3
        simp [Builtin.append_, run_underlying Tryd.underlying30, sizeOf, typeInfo, hi0, Builtin.lenOf, Builtin.firstCells]
      · injection e with e1 e2 e3
        subst e1 e3
        simp [Builtin.append_, run_underlying Tryd.underlying30, sizeOf, typeInfo, hi0, Builtin.lenOf, Builtin.firstCells, hnc, storeCells]
    exact ⟨A, c, w, hrun, by simpa using h, fun _ h0 => h0⟩
  · obtain ⟨v', w', hr, ho, hg, _, _⟩ := run_append_own_at (P := Tryd.prog) w base 30 30 3 i0 _ 1 8 Tryd.underlying30 hi0 hz0 hz1 hz2 rfl (by decide)
      _ n (intC l) h.2 ad m.length d (intC m) (by rw [intC_len]; omega) (fun j u hu => by
        have hj : j < m.length := by have := (List.getElem?_eq_some_iff.1 hu).1; rwa [intC_len] at this
        obtain ⟨g, off, e1, _, hc⟩ := hm (by omega)
        injection e1 with e1
        subst e1
        have ea : (⟨g, off, none⟩ : Addr).add j = ⟨g, off + j, none⟩ := by unfold Addr.add; split <;> simp_all
        rw [ea, hc j hj]
        simpa [intC, List.getElem?_eq_getElem hj] using hu) (intC_one m) (by unfold maxLen; omega) (by omega) hB
    obtain ⟨A', c', rfl⟩ := slice_form ho
    refine ⟨A', c', w', hr, ⟨by simp [h.1], ?_⟩, fun w0 h0 => h0.grown hg hB hlt⟩
    simpa [intC] using ho
set_option maxRecDepth 100000 in
/-- append by its run's equation. -/
theorem wpList_append_run {w w' : World} {ops : Array Oper} {rest : List Oper} {o : Oper} {a : Act} {Q : Exit → Act → World → Prop} (hgd : o.guard = none) (s x : Operand) (t1 t2 : TypeId)
    (ho : o.op = .call { callee := .builtin .append, args := #[s, x], argTypes := #[t1, t2] }) {u v r : Value} (hs : a.eval s = u) (hx : a.eval x = v) (hr : (Builtin.append_ #[t1, t2] o.type #[u, v]).run Tryd.prog w = .ok r w')
    (h : wpList Tryd.prog ops Q rest (a.put o.dst r) w') : wpList Tryd.prog ops Q (o :: rest) a w :=
  wpList_plain hgd fun K hK => by
    unfold Oper.wp execOp
    simp only [ho, resolve, invoke, builtin, Sem.run_bind, Sem.run_pure, Result.andThen_ok, List.map_toArray, List.map_cons, List.map_nil, hs, hx, hr]
    exact hK _ _ h
end Go.Proofs.YtadindhnaidmeaaDoor.Ch
