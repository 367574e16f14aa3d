/-
  Contracts of slices.Clone over sectors and of disk.Clone.
-/
import Derived.Test.YtjhbeebednahhaaDkW3
import Derived.Maps.AppendAt
namespace Go.Proofs.Ytjhbeebednahhaa.Dk
open Go.RowKit

theorem flat_len : ∀ (L : List (List UInt8)), (∀ x ∈ L, x.length = 256) → L.flatten.length = L.length * 256
  | [], _ => rfl
  | x :: r, h => by
    rw [List.flatten_cons, List.length_append, h x (by simp), flat_len r (fun y hy => h y (by simp [hy])), List.length_cons]
    omega
theorem flat_at : ∀ (L : List (List UInt8)), (∀ x ∈ L, x.length = 256) → ∀ (i j : Nat) (hi : i < L.length), j < 256 → L.flatten[i * 256 + j]? = L[i][j]?
  | [], _, i, j, hi, _ => by simp at hi
  | x :: r, h, 0, j, hi, hj => by
    rw [List.flatten_cons, List.getElem?_append_left (by rw [h x (by simp)]; omega)]
    simp
  | x :: r, h, i + 1, j, hi, hj => by
    have hx := h x (by simp)
    rw [List.flatten_cons, List.getElem?_append_right (by rw [hx]; omega), hx, show (i + 1) * 256 + j - 256 = i * 256 + j by omega,
      flat_at r (fun y hy => h y (by simp [hy])) i j (by simpa using hi) hj]
    rfl
theorem u8C_at (l : List UInt8) (j : Nat) : (u8C l)[j]? = l[j]?.map fun b => Value.int .u8 (b.toNat : Int) := by simp [u8C]

theorem Secs.news {w : World} {s : Nat} {L : List (List UInt8)} (h : Secs w s L) : ∀ j u, (u8C L.flatten)[j]? = some u → w.cell? ((⟨s, 0, none⟩ : Addr).add j) = some u := fun j u hu => by
  have hj : j < L.length * 256 := by
    have := (List.getElem?_eq_some_iff.1 hu).1
    rw [u8C_length, flat_len L h.1] at this
    exact this
  have hm : j % 256 < 256 := Nat.mod_lt _ (by omega)
  have hd : j / 256 < L.length := by omega
  have e : j / 256 * 256 + j % 256 = j := by omega
  rw [lit_add, ← e]
  refine (h.2 _ hd).1 (j % 256) u ?_
  rw [u8C_at, ← flat_at L h.1 _ _ hd hm, e, ← u8C_at]
  exact hu
theorem Secs.of_own {w : World} {base s c : Nat} {L : List (List UInt8)} (h1 : ∀ x ∈ L, x.length = 256) (h : w.ownsRow base 60 256 (.slice (some ⟨s, 0, none⟩) L.length c) L.length (u8C L.flatten)) : Secs w s L := by
  refine ⟨h1, fun i hi => ?_⟩
  rcases h.2 with ⟨hv, _⟩ | ⟨g, cap, cur, hv, _, hh, hn, _, hsz, ht⟩
  · cases hv
  · injection hv with hv _ hv3
    injection hv with hv
    injection hv with hv
    subst hv
    have hl := h1 _ (List.getElem_mem hi)
    have hx : Box w s 60 cur := hh
    have hc : ∀ j, j < 256 → cur[i * 256 + j]? = (u8C L[i])[j]? := fun j hj => by
      have : (cur.toList.take (L.length * 256))[i * 256 + j]? = (u8C L.flatten)[i * 256 + j]? := by rw [ht]
      rw [List.getElem?_take, if_pos (by omega), Array.getElem?_toList] at this
      rw [this, u8C_at, u8C_at, flat_at L h1 i j hi hj]
    refine ⟨fun j v hv => ?_, fun j hj => ⟨?_, hx.frozen _⟩⟩
    · have hj : j < 256 := by
        have := (List.getElem?_eq_some_iff.1 hv).1
        rw [u8C_length, hl] at this
        exact this
      rw [hx.cell, hc j hj]
      exact hv
    · rw [hx.cell, hc j hj, List.getElem?_eq_getElem (by rw [u8C_length, hl]; exact hj)]
      rfl

/-- append by its run's equation. -/
theorem wpList_append_run {w w' : World} {ops : Array Oper} {rest : List Oper} {o : Oper} {a : Act} {Q : Exit → Act → World → Prop} (hgd : o.guard = none) (s x : Operand) (t1 t2 : TypeId)
    (ho : o.op = .call { callee := .builtin .append, args := #[s, x], argTypes := #[t1, t2] }) {u v r : Value} (hs : a.eval s = u) (hx : a.eval x = v) (hr : (Builtin.append_ #[t1, t2] o.type #[u, v]).run Try.prog w = .ok r w')
    (h : wpList Try.prog ops Q rest (a.put o.dst r) w') : wpList Try.prog ops Q (o :: rest) a w :=
  wpList_plain hgd fun K hK => by
    unfold Oper.wp execOp
    simp only [ho, resolve, invoke, builtin, Sem.run_bind, Sem.run_pure, Result.andThen_ok, List.map_toArray, List.map_cons, List.map_nil, hs, hx, hr]
    exact hK _ _ h

def CloneSPost (L : List (List UInt8)) (w : World) (e : Ending) (w' : World) : Prop :=
  ∃ s c, e = .returned (.slice (some ⟨s, 0, none⟩) L.length c) ∧ w.heap.size ≤ s ∧ s < w'.heap.size ∧ L.length ≤ c ∧ c ≤ maxLen ∧ Secs w' s L ∧ Below w.heap.size w w'

theorem run_append_sec {w : World} {s c : Nat} {L : List (List UInt8)} (h : Secs w s L) (h1 : 1 ≤ L.length) (h2 : L.length ≤ 2048) :
    ∃ s' c' w', (Builtin.append_ #[54, 54] 54 #[.slice (some ⟨w.heap.size, 0, none⟩) 0 0, .slice (some ⟨s, 0, none⟩) L.length c]).run Try.prog (w.alloc (.cells #[] 60)) = .ok (.slice (some ⟨s', 0, none⟩) L.length c') w' ∧
      w.heap.size ≤ s' ∧ s' < w'.heap.size ∧ L.length ≤ c' ∧ c' ≤ maxLen ∧ Secs w' s' L ∧ Below w.heap.size w w' := by
  obtain ⟨i0, hi0, hz0, hz1, hz2⟩ := info_parts info_sec
  have hown : (w.alloc (.cells #[] 60)).ownsRow w.heap.size 60 256 (.slice (some ⟨w.heap.size, 0, none⟩) 0 0) 0 [] :=
    World.ownsRow_made w #[] 0 (Nat.le_refl _) (by unfold maxLen; omega) rfl
  have hs : Secs (w.alloc (.cells #[] 60)) s L := by
    have hlt : s < w.heap.size := by
      have := (h.2 0 h1).2 0 (by omega)
      rcases Nat.lt_or_ge s w.heap.size with h1 | h1
      · exact h1
      · simp [World.cell?, Array.getElem?_eq_none h1] at this
    exact h.block (Below.heap_alloc _ _ _ hlt)
  obtain ⟨v', w', hr, ho, hg, hnil, hat⟩ := run_append_own_at (P := Try.prog) (w.alloc (.cells #[] 60)) w.heap.size 54 54 60 i0 _ 256 256 Try.underlying54 hi0 hz0 hz1 hz2 (by simp [Value.cells]) (by omega)
    _ 0 [] hown ⟨s, 0, none⟩ L.length c (u8C L.flatten) (by rw [u8C_length, flat_len L h.1]) hs.news (u8C_one _) (by unfold maxLen; omega) (by omega) (by simp)
  rw [List.nil_append, Nat.zero_add] at ho
  have hB := ((Below.refl w.heap.size w).alloc (Nat.le_refl _) (.cells #[] 60)).grown hg (by simp) (fun k hk => by simp [Value.ownBlock] at hk; omega)
  rcases ho.2 with ⟨rfl, h0⟩ | ⟨g, cap, cur, rfl, hb, hh, hn, hm, _⟩
  · omega
  · exact ⟨g, cap, w', hr, hb, (Array.getElem?_eq_some_iff.1 hh).1, hn, hm, Secs.of_own h.1 ho, hB⟩

set_option maxRecDepth 100000 in
set_option maxHeartbeats 400000 in
theorem cloneS_all (s c : Nat) (L : List (List UInt8)) (w : World) (h : Secs w s L) (h1 : 1 ≤ L.length) (h2 : L.length ≤ 2048) :
    Calls Try.prog 25 #[.slice (some ⟨s, 0, none⟩) L.length c] w (CloneSPost L w) := by
  have hnil : ∀ w : World, (binOp .eql 54 (.slice (some ⟨s, 0, none⟩) L.length c) (.slice none 0 0)).run Try.prog w = .ok (.bool false) w := fun w => Lib.run_eql_slice_nil (P := Try.prog) w 54 60 (some ⟨s, 0, none⟩) L.length c 0 0 Try.underlying54
  obtain ⟨s', c', w', hr, hs⟩ := run_append_sec (c := c) h h1 h2
  clear h
  go_enter Try.func25, Try.ntmps25
  go_wp2_with (at_builtin; refine wpList_append_run rfl (.tmp 5) (.tmp 6) 54 54 rfl rfl rfl hr ?_)
  clear hr
  go_wp2
  go_ret
  exact ⟨s', c', rfl, hs⟩

def ClonePost (d : Dsk) (w : World) (e : Ending) (w' : World) : Prop :=
  ∃ g s, e = .returned (.pointer (some ⟨g, 0, none⟩)) ∧ w.heap.size ≤ g ∧ w.heap.size ≤ s ∧ Dk w' g s d ∧ Below w.heap.size w w'

set_option maxRecDepth 100000 in
set_option maxHeartbeats 400000 in
theorem clone_all (g s : Nat) (d : Dsk) (w : World) (h : Dk w g s d) (h1 : 1 ≤ d.L.length) (h2 : d.L.length ≤ 2048) :
    Calls Try.prog 10 #[.pointer (some ⟨g, 0, none⟩)] w (ClonePost d w) := by
  obtain ⟨cap, hc1, hc2, c0, c1, c2, c3, _⟩ := h.cells
  have hlt := h.lt
  go_enter Try.func10, Try.ntmps10
  go_wp2_with fail
  have hB := (Below.refl w.heap.size w).alloc (Nat.le_refl _) (.cells #[.slice (some ⟨s, 0, none⟩) d.L.length cap, .bool d.on, .int .i64 d.left, .int .i64 d.wr] 56)
  have hx := Box.new w 56 #[.slice (some ⟨s, 0, none⟩) d.L.length cap, .bool d.on, .int .i64 d.left, .int .i64 d.wr]
  refine (cloneS_all s cap d.L _ (h.2.2.2.block (Below.heap_alloc _ _ _ hlt.2)) h1 h2).mono ?_
  rintro e w1 ⟨s', c', rfl, hs1, hs2, hs3, hs4, hs5, hb1⟩
  have hx1 := hx.below hb1 hx.lt
  have hf1 := hx1.frozen 0
  have hc1' : w1.cell? ⟨w.heap.size, 0, none⟩ = some (.slice (some ⟨s, 0, none⟩) d.L.length cap) := hx1.cell 0
  have hB2 := (hB.trans (hb1.mono (by simp))).setCell (p := ⟨w.heap.size, 0, none⟩) (Nat.le_refl _) (.slice (some ⟨s', 0, none⟩) d.L.length c')
  have hx2 := hx1.set_ 0 (.slice (some ⟨s', 0, none⟩) d.L.length c')
  have hss : w.heap.size + 1 ≤ s' := by simpa using hs1
  have hs6 := hs5.block (Below.heap_setCell w1 ⟨w.heap.size, 0, none⟩ (.slice (some ⟨s', 0, none⟩) d.L.length c') s' (by simp; omega))
  clear hB hx hb1 hx1 hs5
  go_wp2
  go_ret
  exact ⟨_, s', rfl, Nat.le_refl _, by omega, ⟨⟨c', hx2, hs3, hs4⟩, by omega, by simpa [World.setCell] using hs2, hs6⟩, hB2⟩
end Go.Proofs.Ytjhbeebednahhaa.Dk
