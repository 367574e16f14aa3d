/-
  The laws' argument opened: a tree.
-/
import Derived.Test.YtohljihndoodfaaDoorExC
import Derived.ProofKit
import Derived.OpenShut
import Derived.Deep.Slices
import Derived.Deep.Fields
import Derived.Carry
namespace Go.Proofs.YtohljihndoodfaaDoor.Ep
open Go.ChangeShapes Go.WideShapes Go.ChangeAt Go.RowKit Go.Deep

theorem cells_ex : Tryd.prog.cellsOf 34 = 4 := by kernel_rfl
theorem cells_int1 : Tryd.prog.cellsOf 3 = 1 := by kernel_rfl
theorem cells_str1 : Tryd.prog.cellsOf 9 = 1 := by kernel_rfl
theorem cells_exs : Tryd.prog.cellsOf 32 = 1 := by kernel_rfl
theorem spot_none {w : World} {a : Addr} {v : Value} (h : w.cell? a = some v) : a = ⟨a.block, a.off, none⟩ := by
  obtain ⟨b, o, sp⟩ := a
  cases sp with
  | none => rfl
  | some x =>
    unfold World.cell? at h
    split at h
    · simp at h
    · cases h
theorem blk_lt1 {w : World} {a : Addr} {v : Value} (h : w.cell? a = some v) : a.block < w.heap.size := by
  rcases Nat.lt_or_ge a.block w.heap.size with h1 | h1
  · exact h1
  · simp [World.cell?, Array.getElem?_eq_none h1] at h
theorem add_lit (g o n : Nat) : (⟨g, o, none⟩ : Addr).add n = ⟨g, o + n, none⟩ := by
  unfold Addr.add
  split
  · subst_vars; rfl
  · rfl
theorem TreeL.of {lo : Nat → Prop} {w : World} {g : Nat} : ∀ (ks : List Ex) (off : Nat), (∀ i (hi : i < ks.length), ∃ a cap, w.cell? ⟨g, off + i * 4, none⟩ = some (.int .i64 (ks[i]).op) ∧ w.cell? ⟨g, off + i * 4 + 1, none⟩ = some (.int .i64 (ks[i]).n) ∧ w.cell? ⟨g, off + i * 4 + 2, none⟩ = some (.string ⟨(ks[i]).name.toArray⟩) ∧
      w.cell? ⟨g, off + i * 4 + 3, none⟩ = some (.slice a (ks[i]).kids.length cap) ∧ TreeV lo w (ks[i]) (exV (ks[i]).op (ks[i]).n (ks[i]).name a (ks[i]).kids.length cap)) → TreeL lo w g off ks
  | [], _, _ => by unfold TreeL; trivial
  | k :: ks, off, h => by
    unfold TreeL
    refine ⟨?_, TreeL.of ks (off + 4) fun i hi => ?_⟩
    · obtain ⟨a, cap, c0, c1, c2, c3, c4⟩ := h 0 (by simp)
      exact ⟨a, cap, by simpa using c0, by simpa using c1, by simpa using c2, by simpa using c3, c4⟩
    · obtain ⟨a, cap, c0, c1, c2, c3, c4⟩ := h (i + 1) (by simpa using hi)
      have e : off + (i + 1) * 4 = off + 4 + i * 4 := by omega
      rw [e] at c0 c1 c2 c3
      exact ⟨a, cap, c0, c1, c2, c3, c4⟩

section
variable {H : Type} {enc : TypeId × Value → H} {W : World}
def IsEx (W : World) (cs : List Value) (t : Ex) : Prop :=
  ∃ a cap, cs = [.int .i64 t.op, .int .i64 t.n, .string ⟨t.name.toArray⟩, .slice a t.kids.length cap] ∧ TreeV (fun _ => True) W t (exV t.op t.n t.name a t.kids.length cap) ∧ numsE t
set_option maxRecDepth 100000 in
theorem open_ex : ∀ (fuel : Nat) (cs : List Value) (y : DataW H × List MemPlace), DataW.trod enc Tryd.prog W 0 (fun _ => true) true fuel 34 cs = some y → ∃ t, IsEx W cs t := by
  intro fuel
  induction fuel using Nat.strongRecOn with
  | ind fuel IH =>
    intro cs y h
    obtain ⟨ys, n, hn, _, hlen, hyl, hf⟩ := DataW.trod_struct Tryd.underlying34 h
    rw [cells_ex] at hlen
    match cs, hlen with
    | [c0, c1, c2, c3], _ =>
      have g0 := hf 0 _ rfl
      have g1 := hf 1 _ rfl
      have g2 := hf 2 _ rfl
      have g3 := hf 3 _ rfl
      match ys, hyl with
      | [y0, y1, y2, y3], _ =>
        have ci := cells_int1
        have cs1 := cells_str1
        have ce := cells_exs
        simp only [List.getElem?_cons_zero, List.getElem?_cons_succ] at g0 g1 g2 g3
        obtain ⟨k0, e0, _, w0⟩ := DataW.trod_int Tryd.underlying3 g0
        obtain ⟨k1, e1, _, w1⟩ := DataW.trod_int Tryd.underlying3 g1
        obtain ⟨s, e2, _, _⟩ := DataW.trod_string Tryd.underlying9 g2
        injection e0 with e0
        injection e1 with e1
        injection e2 with e2
        subst e0; subst e1; subst e2
        have hw1 : -9223372036854775808 ≤ k1 ∧ k1 ≤ 9223372036854775807 := by
          simp only [Lit.wf, Bool.and_eq_true, decide_eq_true_eq] at w1
          exact w1
        have hs : (⟨s.data.toList.toArray⟩ : ByteArray) = s := by cases s; simp
        rcases DataW.trod_slice Tryd.underlying32 g3 with ⟨hcs, _⟩ | ⟨a, len, cap, elems, rest, m, hm, hcs, _, _, hlc, hcm, hel, hat, _⟩
        · injection hcs with hcs
          subst hcs
          refine ⟨.mk k0 k1 s.data.toList [], none, 0, ?_, ?_, ?_⟩
          · show _ = [Value.int .i64 k0, .int .i64 k1, .string ⟨s.data.toList.toArray⟩, .slice none 0 0]
            rw [hs]
          · unfold TreeV
            exact ⟨none, 0, rfl, by simp, fun h => absurd rfl h⟩
          · rw [numsE, numsL]
            exact ⟨hw1, trivial⟩
        · injection hcs with hcs
          have hcs2 : c3 = .slice (some a) len cap := hcs
          subst hcs2
          rw [cells_ex] at hat
          obtain ⟨V, hV⟩ := choose_lt (α := Ex) (p := fun i t => ∃ cs', W.cells? 0 (a.add (i * 4)) 4 = some cs' ∧ IsEx W cs' t) (n := len) (fun i hi => by
            have h1 := hat i hi
            rw [List.getElem?_eq_getElem (by omega)] at h1
            obtain ⟨cs', h2, h3⟩ := Option.bind_eq_some_iff.1 h1
            obtain ⟨t, ht⟩ := IH m (by omega) cs' _ h3
            exact ⟨t, cs', h2, ht⟩)
          have hks : ((List.range len).map V).length = len := by simp
          refine ⟨.mk k0 k1 s.data.toList ((List.range len).map V), some a, cap, ?_, ?_, ?_⟩
          · show _ = [Value.int .i64 k0, .int .i64 k1, .string ⟨s.data.toList.toArray⟩, .slice (some a) ((List.range len).map V).length cap]
            rw [hs, hks]
          · unfold TreeV
            refine ⟨some a, cap, rfl, by rw [hks]; exact hlc, fun hne => ?_⟩
            have hpos : 0 < len := by
              rcases Nat.eq_zero_or_pos len with h0 | h0
              · exact absurd (List.length_eq_zero_iff.1 (by rw [hks]; exact h0)) hne
              · exact h0
            obtain ⟨cs0, hc0, ⟨a0, cap0, he0, _⟩⟩ := hV 0 hpos
            obtain ⟨_, hl0, hat0⟩ := World.cells?_some hc0
            subst he0
            have hcell0 := hat0 0 (by omega)
            have ha0 : W.cell? a = some (.int .i64 (V 0).op) := by
              have e : (a.add (0 * 4)).add 0 = a := by simp [Addr.add]
              rw [e] at hcell0
              simpa using hcell0
            have hsp := spot_none ha0
            refine ⟨a.block, a.off, by rw [← hsp], trivial, blk_lt1 ha0, TreeL.of _ _ fun i hi => ?_⟩
            rw [hks] at hi
            obtain ⟨cs', hc', ⟨ai, capi, hei, hti, _⟩⟩ := hV i hi
            obtain ⟨_, hl', hat'⟩ := World.cells?_some hc'
            subst hei
            have key : ∀ j, j < 4 → W.cell? ⟨a.block, a.off + i * 4 + j, none⟩ = [Value.int .i64 (V i).op, .int .i64 (V i).n, .string ⟨(V i).name.toArray⟩, .slice ai (V i).kids.length capi][j]? := fun j hj => by
              have hx := hat' j hj
              have e : (a.add (i * 4)).add j = ⟨a.block, a.off + i * 4 + j, none⟩ := by
                rw [hsp, add_lit, add_lit]
              rw [e] at hx
              exact hx
            simp only [List.getElem_map, List.getElem_range]
            exact ⟨ai, capi, key 0 (by omega), key 1 (by omega), key 2 (by omega), key 3 (by omega), hti⟩
          · rw [numsE]
            refine ⟨hw1, (numsL_all _).2 fun k hk => ?_⟩
            obtain ⟨i, hi, rfl⟩ := List.mem_map.1 hk
            rw [List.mem_range] at hi
            obtain ⟨_, _, ⟨_, _, _, _, hnum⟩⟩ := hV i hi
            exact hnum
set_option maxRecDepth 100000 in
theorem open_tree {base0 : Nat} {r : Reach} {v : Value} {d : DataW H} {p : List MemPlace} (hv : Value.okWide Tryd.prog W r base0 34 v) (h : DataW.Trod enc Tryd.prog W 0 (fun _ => true) true 34 v d p) :
    ∃ t, TreeV (fun _ => True) W t v ∧ numsE t := by
  obtain ⟨cs, rfl, hsz⟩ := okWide_struct Tryd.underlying34 hv
  obtain ⟨fuel, hf⟩ := h
  have hcs : (Value.agg cs).cells = cs := rfl
  rw [hcs] at hf
  obtain ⟨t, a, cap, hl, ht, hn⟩ := open_ex fuel _ _ hf
  have hcs2 : cs = #[.int .i64 t.op, .int .i64 t.n, .string ⟨t.name.toArray⟩, .slice a t.kids.length cap] := by
    apply Array.toList_inj.1
    exact hl
  subst hcs2
  exact ⟨t, ht, hn⟩
end
end Go.Proofs.YtohljihndoodfaaDoor.Ep
