/-
  A row of instructions of one's own, appended to; a row of rungs whose last one gets another code.
-/
import Derived.Test.YtohljihndoodfaaDoorRgTu
import Derived.Test.YtohljihndoodfaaDoorRgBehindW
namespace Go.Proofs.YtohljihndoodfaaDoor.Rg
open Go.RowKit Lx Ep

theorem info_ins : (Tryd.prog.info? 40).map (fun i => (i.zero, i.size, i.bytes)) = some (some (.agg #[.int .i64 0, .string ⟨#[]⟩, .int .i64 0, .int .i64 0, .string ⟨#[]⟩, .slice none 0 0]), 6, 80) := by kernel_rfl
/-- A row of instructions of one's own. -/
def RowC (base : Nat) (w : World) (A : Option Addr) (c : Nat) (l : List In) : Prop := w.ownsRow base 40 6 (.slice A l.length c) l.length (l.flatMap insC)
theorem RowC.rows {base c : Nat} {w : World} {A : Option Addr} {l : List In} (h : RowC base w A c l) : RowF 6 insC w A l := RowF.of_own (fun _ => rfl) h rfl
theorem one_in (r : In) : ∀ u ∈ insC r, u.oneCell' = true := by
  intro u hu
  simp only [insC, List.mem_cons, List.not_mem_nil, or_false] at hu
  rcases hu with rfl | rfl | rfl | rfl | rfl | rfl <;> rfl
set_option maxRecDepth 100000 in
theorem run_app_is {base : Nat} {w : World} {A : Option Addr} {l : List In} (c : Nat) (hl : RowF 6 insC w A l) (hn : l.length ≤ 1000) (hB : base ≤ w.heap.size) :
    ∃ A' c' w', (Builtin.append_ #[41, 41] 41 #[.slice none 0 0, .slice A l.length c]).run Tryd.prog w = .ok (.slice A' l.length c') w' ∧ RowC base w' A' c' l ∧ w.grownBy w' none := by
  obtain ⟨i0, hi0, hz0, hz1, hz2⟩ := info_parts info_ins
  rcases A with _ | ad
  · have e0 : l = [] := by
      rcases l with _ | ⟨b, r⟩
      · rfl
      · obtain ⟨_, _, h, _⟩ := hl (by simp)
        cases h
    subst e0
    have hrun : (Builtin.append_ #[41, 41] 41 #[.slice none 0 0, .slice none 0 c]).run Tryd.prog w = .ok (.slice none 0 0) w := by
      simp [Builtin.append_, run_underlying Tryd.underlying41, sizeOf, typeInfo, hi0, Builtin.lenOf, Builtin.firstCells]
    exact ⟨none, 0, w, hrun, World.ownsRow_nil _ _ _ _, World.grownBy.refl w _⟩
  · obtain ⟨v', w', hr, h2, h3, _, h5⟩ := run_append_own_at (P := Tryd.prog) w base 41 41 40 i0 _ 6 80 Tryd.underlying41 hi0 hz0 hz1 hz2 rfl (by decide) (.slice none 0 0) 0 [] (World.ownsRow_nil _ _ _ _) ad l.length c (l.flatMap insC) (flat_len (f := insC) (s := 6) (fun _ => rfl) l) (fun j u hu => by
      obtain ⟨i, hi, k, rfl, hk⟩ := flat_inv (f := insC) (s := 6) (fun _ => rfl) l j u hu
      obtain ⟨g, off, e1, _, hc⟩ := hl (by omega)
      injection e1 with e1
      subst e1
      have := hc i hi k u hk
      have ea : (⟨g, off, none⟩ : Addr).add (i * 6 + k) = ⟨g, off + i * 6 + k, none⟩ := by unfold Addr.add; split <;> simp_all <;> omega
      rw [ea]
      exact this) (fun u hu => by
      obtain ⟨a, _, ha⟩ := List.mem_flatMap.1 hu
      exact one_in a u ha) (by unfold maxLen; omega) (by omega) hB
    rw [Nat.zero_add] at h2
    obtain ⟨A', c', rfl⟩ := slice_form h2
    exact ⟨A', c', w', hr, by unfold RowC; simpa using h2, h3⟩
set_option maxRecDepth 100000 in
theorem run_app_i1 {base n c : Nat} {w : World} {A : Option Addr} {l : List In} (h : RowC base w A c l) (hn0 : l.length = n) (hn : n ≤ 1000) (hB : base ≤ w.heap.size) :
    ∃ A' c' w', (Builtin.append_ #[41, 41] 41 #[.slice A n c, .slice (some ⟨w.heap.size, 0, none⟩) 1 1]).run Tryd.prog (w.alloc (.cells #[.int .i64 9, .string ⟨#[]⟩, .int .i64 0, .int .i64 0, .string ⟨#[]⟩, .slice none 0 0] 40)) = .ok (.slice A' (n + 1) c') w' ∧
      RowC base w' A' c' (l ++ [notI]) ∧ (∀ w0, Below base w0 w → Below base w0 w') := by
  subst hn0
  obtain ⟨i0, hi0, hz0, hz1, hz2⟩ := info_parts info_ins
  have hown' := own_keep h ((Below.refl _ w).alloc (Nat.le_refl _) (.cells #[.int .i64 9, .string ⟨#[]⟩, .int .i64 0, .int .i64 0, .string ⟨#[]⟩, .slice none 0 0] 40))
  obtain ⟨v', w', hr, ho, hg, _, hl⟩ := run_append_own_at (P := Tryd.prog) (w.alloc (.cells #[.int .i64 9, .string ⟨#[]⟩, .int .i64 0, .int .i64 0, .string ⟨#[]⟩, .slice none 0 0] 40)) base 41 41 40 i0 _ 6 80 Tryd.underlying41 hi0 hz0 hz1 hz2 rfl (by decide)
    _ l.length (l.flatMap insC) hown' ⟨w.heap.size, 0, none⟩ 1 1 (insC notI) rfl (World.news_of_block (cs := #[.int .i64 9, .string ⟨#[]⟩, .int .i64 0, .int .i64 0, .string ⟨#[]⟩, .slice none 0 0]) (t := 40) (fr := (0, 0)) (heap_alloc_new w _)) (one_in notI) (by unfold maxLen; omega) (by omega) (by simp; omega)
  have hlt := own_ge h
  rcases ho.2 with ⟨_, h0⟩ | ⟨g, cap, cur, rfl, _⟩
  · omega
  · refine ⟨some ⟨g, 0, none⟩, cap, w', hr, ?_, fun w0 h0 => (h0.alloc hB _).grown hg (by simp; omega) hlt⟩
    unfold RowC
    rw [List.length_append, List.flatMap_append]
    simpa using ho
theorem not_tr (w : World) : TrE w notI := ⟨(by unfold notI exOf; unfold TreeV; exact ⟨none, 0, rfl, Nat.le_refl _, fun h => absurd rfl h⟩), by simp [notI, numsE, numsL]⟩

/-- The last rung's cells, and the row behind a store into its code. -/
theorem row_last {base c g : Nat} {w : World} {l : List Ru} {y z : Ru} (h : RowU base w (some ⟨g, 0, none⟩) c (l ++ [y])) (hk : z.kd = y.kd) (hm : z.nm = y.nm) :
    base ≤ g ∧ g < w.heap.size ∧ w.frozen? ⟨g, l.length * 3 + 2, none⟩ = false ∧ (∃ u, w.cell? ⟨g, l.length * 3 + 2, none⟩ = some u) ∧ RowF 3 ruC (w.setCell ⟨g, l.length * 3 + 2, none⟩ (.slice z.ca z.code.length z.cc)) (some ⟨g, 0, none⟩) (l ++ [z]) := by
  have hrow := h.rows
  obtain ⟨g', off', e, hlt, hc⟩ := hrow (by simp)
  injection e with e
  injection e with e1 e2
  subst e1 e2
  have hold : w.cell? ⟨g, l.length * 3 + 2, none⟩ = some (.slice y.ca y.code.length y.cc) := by
    have := hc l.length (by simp) 2 (.slice y.ca y.code.length y.cc) (by simp [ruC])
    rwa [Nat.zero_add] at this
  have hfz : w.frozen? ⟨g, l.length * 3 + 2, none⟩ = false := by
    rcases h.2 with ⟨e, _⟩ | ⟨g', cap, cur, e, hb, hh, _⟩
    · cases e
    · injection e with e _ _
      injection e with e
      injection e with e
      subst e
      simp [World.frozen?, hh]
  refine ⟨own_ge h g rfl, hlt, hfz, ⟨_, hold⟩, fun _ => ⟨g, 0, rfl, by simpa using hlt, fun i hi j u hu => ?_⟩⟩
  rw [Nat.zero_add]
  by_cases hil : i = l.length
  · subst hil
    simp only [List.getElem_concat_length] at hu
    by_cases hj : j = 2
    · subst hj
      rw [World.cell?_setCell_same _ _ _ hold]
      simpa [ruC] using hu
    · rw [World.cell?_setCell_other _ _ _ _ (by intro he; simp only [Addr.mk.injEq] at he; omega)]
      have := hc l.length (by simp) j u (by
        simp only [List.getElem_concat_length]
        match j, hj, hu with
        | 0, _, hu => simpa [ruC, hk] using hu
        | 1, _, hu => simpa [ruC, hm] using hu
        | 2, hj, _ => exact absurd rfl hj
        | j + 3, _, hu => simp [ruC] at hu)
      rwa [Nat.zero_add] at this
  · have hi' : i < l.length := by simp at hi; omega
    rw [List.getElem_append_left hi'] at hu
    have hj3 : j < 3 := by
      have := (List.getElem?_eq_some_iff.1 hu).1
      simpa [ruC] using this
    rw [World.cell?_setCell_other _ _ _ _ (by intro he; simp only [Addr.mk.injEq] at he; omega)]
    have := hc i (by simp; omega) j u (by rw [List.getElem_append_left hi']; exact hu)
    rwa [Nat.zero_add] at this

theorem own_set {w : World} {base g o : Nat} {u : Value} {e : TypeId} {size : Nat} {v : Value} {n : Nat} {xs : List Value} (h : w.ownsRow base e size v n xs) (hg : g < base) : (w.setCell ⟨g, o, none⟩ u).ownsRow base e size v n xs := by
  refine ⟨h.1, ?_⟩
  rcases h.2 with h | ⟨g', cap, cur, hv, hbg, hh, r⟩
  · exact .inl h
  · exact .inr ⟨g', cap, cur, hv, hbg, (Below.heap_setCell w ⟨g, o, none⟩ u g' (show g' ≠ g by omega)).trans hh, r⟩
theorem row_at {base c : Nat} {w : World} {A : Option Addr} {l : List Ru} {y : Ru} (h : RowU base w A c (l ++ [y])) : ∃ g, A = some ⟨g, 0, none⟩ ∧ base ≤ g ∧ g < w.heap.size := by
  obtain ⟨g, cap, hv, _, hlt⟩ := h.form (by simp)
  have hA : A = some ⟨g, 0, none⟩ := by injection hv
  subst hA
  exact ⟨g, rfl, own_ge h g rfl, hlt⟩
theorem place_nn {R : List Nm} {x : Nm} : (x ∈ R → 0 ≤ placeP R x) ∧ (x ∉ R → placeP R x < 0) := by
  unfold placeP
  constructor
  · intro h; rw [if_pos h]; omega
  · intro h; rw [if_neg h]; omega
/-- The whole row of rungs behind the store. -/
theorem rungs_set {base cb b2 g c c2 : Nat} {w : World} {A2 : Option Addr} {l : List Ru} {x : Ru} (h : RowU base w (some ⟨g, 0, none⟩) c (l ++ [turnY x])) (hc : RowC cb w A2 c2 (x.code ++ [notI])) (hg : g < cb) (hb2 : b2 ≤ g)
    (hcode : ∀ w', Below b2 w w' → ∀ r ∈ l ++ [turnY x], Code w' r.ca r.code) (hb : Below b2 w w) :
    w.frozen? ⟨g, l.length * 3 + 2, none⟩ = false ∧ (∃ u, w.cell? ⟨g, l.length * 3 + 2, none⟩ = some u) ∧ Rungs (w.setCell ⟨g, l.length * 3 + 2, none⟩ (.slice A2 (x.code.length + 1) c2)) (some ⟨g, 0, none⟩) (l ++ [turnZ x A2 c2]) := by
  obtain ⟨-, -, h3, h4, h5⟩ := row_last (z := turnZ x A2 c2) h rfl rfl
  have e : (turnZ x A2 c2).code.length = x.code.length + 1 := by simp [turnZ]
  rw [e] at h5
  have hbw : Below b2 w (w.setCell ⟨g, l.length * 3 + 2, none⟩ (.slice A2 (x.code.length + 1) c2)) := hb.setCell (p := ⟨g, l.length * 3 + 2, none⟩) hb2 _
  have hco := hcode _ hbw
  refine ⟨h3, h4, h5, fun r hr => ?_⟩
  rcases List.mem_append.1 hr with hr | hr
  · exact hco r (List.mem_append_left _ hr)
  · rw [List.mem_singleton] at hr
    subst hr
    have hc' : RowC cb (w.setCell ⟨g, l.length * 3 + 2, none⟩ (.slice A2 (x.code.length + 1) c2)) A2 c2 (x.code ++ [notI]) := own_set hc hg
    refine ⟨hc'.rows, fun i hi => ?_⟩
    rcases List.mem_append.1 hi with hi | hi
    · exact (hco (turnY x) (by simp)).2 i hi
    · rw [List.mem_singleton] at hi
      subst hi
      exact not_tr _
end Go.Proofs.YtohljihndoodfaaDoor.Rg
