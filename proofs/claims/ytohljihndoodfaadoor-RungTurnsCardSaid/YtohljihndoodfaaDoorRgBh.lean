/-
  A row of rungs of one's own, appended to; plainly: a rung behind others.
-/
import Derived.Test.YtohljihndoodfaaDoorRgWd
import Derived.Test.YtohljihndoodfaaDoorRgL2
namespace Go.Proofs.YtohljihndoodfaaDoor.Rg
open Go.RowKit Lx Ep

theorem flat_inv {α : Type} {s : Nat} {f : α → List Value} (hf : ∀ a, (f a).length = s) : ∀ (l : List α) (j : Nat) (u : Value), (l.flatMap f)[j]? = some u → ∃ i, ∃ hi : i < l.length, ∃ k, j = i * s + k ∧ (f l[i])[k]? = some u
  | [], j, u, h => by simp at h
  | a :: r, j, u, h => by
    simp only [List.flatMap_cons] at h
    by_cases hj : j < s
    · rw [List.getElem?_append_left (by rw [hf]; exact hj)] at h
      exact ⟨0, by simp, j, by omega, h⟩
    · rw [List.getElem?_append_right (by rw [hf]; omega), hf] at h
      obtain ⟨i, hi, k, e, hk⟩ := flat_inv hf r (j - s) u h
      refine ⟨i + 1, by simpa using hi, k, ?_, by simpa using hk⟩
      rw [Nat.add_mul]; omega
theorem info_rung : (Tryd.prog.info? 43).map (fun i => (i.zero, i.size, i.bytes)) = some (some (.agg #[.int .i64 0, .string ⟨#[]⟩, .slice none 0 0]), 3, 48) := by kernel_rfl
/-- A row of rungs of one's own. -/
def RowU (base : Nat) (w : World) (A : Option Addr) (c : Nat) (l : List Ru) : Prop := w.ownsRow base 43 3 (.slice A l.length c) l.length (l.flatMap ruC)
theorem RowU.rows {base c : Nat} {w : World} {A : Option Addr} {l : List Ru} (h : RowU base w A c l) : RowF 3 ruC w A l := RowF.of_own (fun _ => rfl) h rfl
theorem one_ru (r : Ru) : ∀ u ∈ ruC r, u.oneCell' = true := by
  intro u hu
  simp only [ruC, List.mem_cons, List.not_mem_nil, or_false] at hu
  rcases hu with rfl | rfl | rfl <;> rfl

set_option maxRecDepth 100000 in
theorem run_app_us {base : Nat} {w : World} {A : Option Addr} {l : List Ru} (c : Nat) (hl : RowF 3 ruC w A l) (hn : l.length * 48 ≤ 140737488351232) (hm : l.length ≤ maxLen) (hB : base ≤ w.heap.size) :
    ∃ A' c' w', (Builtin.append_ #[22, 22] 22 #[.slice none 0 0, .slice A l.length c]).run Tryd.prog w = .ok (.slice A' l.length c') w' ∧ RowU base w' A' c' l ∧ w.grownBy w' none := by
  obtain ⟨i0, hi0, hz0, hz1, hz2⟩ := info_parts info_rung
  rcases A with _ | ad
  · have e0 : l = [] := by
      rcases l with _ | ⟨b, r⟩
      · rfl
      · obtain ⟨_, _, h, _⟩ := hl (by simp)
        cases h
    subst e0
    have hrun : (Builtin.append_ #[22, 22] 22 #[.slice none 0 0, .slice none 0 c]).run Tryd.prog w = .ok (.slice none 0 0) w := by
      simp [Builtin.append_, run_underlying Tryd.underlying22, sizeOf, typeInfo, hi0, Builtin.lenOf, Builtin.firstCells]
    exact ⟨none, 0, w, hrun, World.ownsRow_nil _ _ _ _, World.grownBy.refl w _⟩
  · obtain ⟨v', w', hr, h2, h3, _, h5⟩ := run_append_own_at (P := Tryd.prog) w base 22 22 43 i0 _ 3 48 Tryd.underlying22 hi0 hz0 hz1 hz2 rfl (by decide) (.slice none 0 0) 0 [] (World.ownsRow_nil _ _ _ _) ad l.length c (l.flatMap ruC) (flat_len (f := ruC) (s := 3) (fun _ => rfl) l) (fun j u hu => by
      obtain ⟨i, hi, k, rfl, hk⟩ := flat_inv (f := ruC) (s := 3) (fun _ => rfl) l j u hu
      obtain ⟨g, off, e1, _, hc⟩ := hl (by omega)
      injection e1 with e1
      subst e1
      have := hc i hi k u hk
      have ea : (⟨g, off, none⟩ : Addr).add (i * 3 + k) = ⟨g, off + i * 3 + k, none⟩ := by unfold Addr.add; split <;> simp_all <;> omega
      rw [ea]
      exact this) (fun u hu => by
      obtain ⟨a, _, ha⟩ := List.mem_flatMap.1 hu
      exact one_ru a u ha) (by omega) (by omega) hB
    rw [Nat.zero_add] at h2
    obtain ⟨A', c', rfl⟩ := slice_form h2
    exact ⟨A', c', w', hr, by unfold RowU; simpa using h2, h3⟩
set_option maxRecDepth 100000 in
theorem run_app_u1 {base n c p : Nat} {w : World} {A : Option Addr} {l : List Ru} (x : Ru) (hp : w.heap.size = p) (h : RowU base w A c l) (hn0 : l.length = n) (hn : n * 48 ≤ 140737488351232) (hm : n + 1 ≤ maxLen) (hB : base ≤ w.heap.size) :
    ∃ A' c' w', (Builtin.append_ #[22, 22] 22 #[.slice A n c, .slice (some ⟨p, 0, none⟩) 1 1]).run Tryd.prog (w.alloc (.cells #[.int .i64 x.kd, .string ⟨x.nm.toArray⟩, .slice x.ca x.code.length x.cc] 43)) = .ok (.slice A' (n + 1) c') w' ∧
      RowU base w' A' c' (l ++ [x]) ∧ (∀ w0, Below base w0 w → Below base w0 w') := by
  subst hn0 hp
  obtain ⟨i0, hi0, hz0, hz1, hz2⟩ := info_parts info_rung
  have hown' := own_keep h ((Below.refl _ w).alloc (Nat.le_refl _) (.cells #[.int .i64 x.kd, .string ⟨x.nm.toArray⟩, .slice x.ca x.code.length x.cc] 43))
  obtain ⟨v', w', hr, ho, hg, _, hl⟩ := run_append_own_at (P := Tryd.prog) (w.alloc (.cells #[.int .i64 x.kd, .string ⟨x.nm.toArray⟩, .slice x.ca x.code.length x.cc] 43)) base 22 22 43 i0 _ 3 48 Tryd.underlying22 hi0 hz0 hz1 hz2 rfl (by decide)
    _ l.length (l.flatMap ruC) hown' ⟨w.heap.size, 0, none⟩ 1 1 (ruC x) rfl (World.news_of_block (cs := #[.int .i64 x.kd, .string ⟨x.nm.toArray⟩, .slice x.ca x.code.length x.cc]) (t := 43) (fr := (0, 0)) (heap_alloc_new w _)) (one_ru x) (by omega) (by omega) (by simp; omega)
  have hlt := own_ge h
  rcases ho.2 with ⟨_, h0⟩ | ⟨g, cap, cur, rfl, _⟩
  · omega
  · refine ⟨some ⟨g, 0, none⟩, cap, w', hr, ?_, fun w0 h0 => (h0.alloc hB _).grown hg (by simp; omega) hlt⟩
    unfold RowU
    rw [List.length_append, List.flatMap_append]
    simpa using ho

theorem goes_of {l : List Ru} {x : Ru} {n : Nat} (hx : x.kd = 3 ∨ x.kd = 4) (h : goes (l ++ [x]) n = true) : goes l n = true ∧ bitsP (l ++ [x]) = bitsP l := by
  have hb : bitsP (l ++ [x]) = bitsP l := by
    have : isBit x.kd = false := by rcases hx with h | h <;> rw [h] <;> rfl
    unfold bitsP rawB
    rw [List.filter_append]
    simp [this]
  unfold goes at *
  rw [Bool.and_eq_true, decide_eq_true_iff, decide_eq_true_iff] at *
  obtain ⟨h1, h2⟩ := h
  obtain ⟨h12, hok⟩ := check_12 h1
  rw [hb] at hok h2
  refine ⟨⟨?_, h2⟩, hb⟩
  unfold checkP
  rw [if_neg (by simp at h12; omega)]
  exact firstE_zero fun r hr => hok r (List.mem_append_left _ hr)
theorem distP_snoc (l : List Nm) (x : Nm) : ∃ P, distP (l ++ [x]) = distP l ++ P ∧ P.length ≤ 1 := by
  unfold distP
  rw [List.foldl_append]
  simp only [List.foldl_cons, List.foldl_nil]
  unfold addD
  split
  · exact ⟨[], by simp, by simp⟩
  · exact ⟨[x], rfl, by simp⟩
/-- What a hold or a bar behind others does. -/
theorem behind_run {l : List Ru} {x : Ru} {bits : List Bool} {env : List (Nm × Int)} (hx : x.kd = 3 ∨ x.kd = 4) : runP (l ++ [x]) bits env = ⟨[], [], []⟩ ∨
    ∃ P Q, (runP (l ++ [x]) bits env) = ⟨(runP l bits env).bits, (runP l bits env).holds ++ P, (runP l bits env).bars ++ Q⟩ ∧ P.length + Q.length ≤ 1 := by
  by_cases hg : goes (l ++ [x]) bits.length = true
  · obtain ⟨hg2, hb⟩ := goes_of hx hg
    right
    unfold runP
    rw [if_pos hg, if_pos hg2, hb]
    have hs : scanP (bitsP l) env ⟨bits, [], []⟩ (l ++ [x]) = stepP (bitsP l) env (scanP (bitsP l) env ⟨bits, [], []⟩ l) x := by
      unfold scanP
      rw [List.foldl_append]; rfl
    rw [hs]
    generalize scanP (bitsP l) env ⟨bits, [], []⟩ l = s
    unfold stepP
    generalize outP (bitsP l) s.bits env x.code = o
    unfold applyP
    rcases hx with h | h
    · rw [if_neg (by omega), if_neg (by omega), if_neg (by omega), if_pos h]
      cases o
      · obtain ⟨P, hP, hl⟩ := distP_snoc s.holds x.nm
        refine ⟨P, [], ?_, by simpa using hl⟩
        simp [hP]
      · exact ⟨[], [], by simp, by simp⟩
    · rw [if_neg (by omega), if_neg (by omega), if_neg (by omega), if_neg (by omega)]
      cases o
      · obtain ⟨P, hP, hl⟩ := distP_snoc s.bars x.nm
        refine ⟨[], P, ?_, by simpa using hl⟩
        simp [hP]
      · exact ⟨[], [], by simp, by simp⟩
  · left
    unfold runP
    rw [if_neg hg]
end Go.Proofs.YtohljihndoodfaaDoor.Rg
