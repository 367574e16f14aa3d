/-
  The document's log: in memory; contracts of its Room, New, Right, Behind, Most.
-/
import Derived.Test.YtkklplccngdalaaWlW3
import Derived.Maps.AppendAt
import Derived.Deep.RegionLaw
import Derived.Deep.RegionHeldLaw
namespace Go.Proofs.Ytkklplccngdalaa.Dk
open Go.RowKit

theorem conv_box {w : World} {gb : Nat} {t : TypeId} {b : List UInt8} (c : Nat) (hx : Box w gb t (u8C b).toArray) (hb : b.length = 256) : (convert 43 9 (.slice (some ⟨gb, 0, none⟩) 256 c)).run Try.prog w = .ok (.string ⟨b.toArray⟩) w := by
  have := conv_lie c (full_lie hx)
  rw [hb] at this
  exact this
theorem info_str : (Try.prog.info? 9).map (fun i => (i.zero, i.size, i.bytes)) = some (some (.string ⟨#[]⟩), 1, 16) := by kernel_rfl
/-- append at a step of a region that draws its order, by its run's equation. -/
theorem step_append_run {w w' : World} {ops : Array Oper} {o : Oper} {a : Act} {K : Act → World → Prop} {Q : Exit → Act → World → Prop} {E : Prop} (hgd : o.guard = none) (s x : Operand) (t1 t2 : TypeId)
    (ho : o.op = .call { callee := .builtin .append, args := #[s, x], argTypes := #[t1, t2] }) {u v r : Value} (hs : a.eval s = u) (hx : a.eval x = v) (hr : (Builtin.append_ #[t1, t2] o.type #[u, v]).run Try.prog w = .ok r w')
    (h : K (a.put o.dst r) w') : if Region.wanted o (yielded ops a.tmps) = true then Oper.wp Try.prog o a w K Q else E := by
  have hw : Region.wanted o (yielded ops a.tmps) = true := by simp [Region.wanted, hgd]
  rw [if_pos hw]
  unfold Oper.wp execOp
  simp only [ho, resolve, invoke, builtin, Sem.run_bind, Sem.run_pure, Result.andThen_ok, List.map_toArray, List.map_cons, List.map_nil, hs, hx, hr]
  exact h
/-- append at a plain region's list, by its run's equation. -/
theorem wpList_append_run {w w' : World} {ops : Array Oper} {rest : List Oper} {o : Oper} {a : Act} {Q : Exit → Act → World → Prop} (hgd : o.guard = none) (s x : Operand) (t1 t2 : TypeId)
    (ho : o.op = .call { callee := .builtin .append, args := #[s, x], argTypes := #[t1, t2] }) {u v r : Value} (hs : a.eval s = u) (hx : a.eval x = v) (hr : (Builtin.append_ #[t1, t2] o.type #[u, v]).run Try.prog w = .ok r w')
    (h : wpList Try.prog ops Q rest (a.put o.dst r) w') : wpList Try.prog ops Q (o :: rest) a w :=
  wpList_plain hgd fun K hK => by
    unfold Oper.wp execOp
    simp only [ho, resolve, invoke, builtin, Sem.run_bind, Sem.run_pure, Result.andThen_ok, List.map_toArray, List.map_cons, List.map_nil, hs, hx, hr]
    exact hK _ _ h

def TextPost (x : ByteArray) (w : World) (e : Ending) (w' : World) : Prop := e = .returned (.string x) ∧ Below w.heap.size w w'
set_option maxRecDepth 100000 in
set_option maxHeartbeats 400000 in
theorem nought_all (w : World) : Calls Try.prog 30 #[] w (TextPost ⟨(full 0).toArray⟩ w) := by
  have hmk := run_make256 w
  have hcv := conv_box 256 (Box.new w 5 (u8C (full 0)).toArray) (full_len 0)
  have hb := (Below.refl w.heap.size w).alloc (Nat.le_refl _) (.cells (u8C (full 0)).toArray 5)
  generalize full 0 = F at *
  go_enter Try.func30, Try.ntmps30
  go_wp2
  go_ret
  exact ⟨rfl, hb⟩

/-! ### Room, Most -/
def RoomRel (n : Nat) (w : World) (i : Value) (wr : World) : Prop := ∃ p : Nat, i = .int .i64 (p : Int) ∧ (p = 0 ∨ fitR n p) ∧ w = wr
set_option maxRecDepth 100000 in
set_option maxHeartbeats 1000000 in
theorem rroom_all (n : Nat) (w : World) (hn : n ≤ 100000) : Calls Try.prog 10 #[.int .i64 (n : Int)] w (Same (.int .i64 (room n : Nat)) w) := by
  have hmax := room_max n
  have hfit : 4 ≤ n → fitR n (room n) := room_fit
  have hsm : n < 4 → room n = 0 := room_small
  have h129 : room n = (n - 1) / 129 * 64 + ((n - 1) % 129 - 1) / 2 := rfl
  unfold fitR at hmax hfit
  generalize room n = R at *
  go_enter Try.func10, Try.ntmps10
  go_wp2
  go_loopw [3] (RoomRel n w) (fun i _ => n - (intOf i).toNat)
  case atStart => exact ⟨0, rfl, .inl rfl, rfl⟩
  case round =>
    obtain ⟨p, rfl, hp, rfl⟩ := hrel
    unfold fitR at hp
    by_cases hlt : (p : Int) < (n : Int) / 2
    · have b1 : decide ((p : Int) < (n : Int) / 2) = true := by simpa using hlt
      by_cases hf : (n : Int) < 1 + ((p : Int) + 1 + 63) / 64 + 2 * ((p : Int) + 1)
      · have e : R = p := by clear b1; omega
        subst e
        clear hmax hfit hsm h129 hp
        go_wp2
        all_goals first | (exfalso; omega) | skip
        go_ret
        exact ⟨rfl, rfl⟩
      · have hnew : fitR n (p + 1) := by unfold fitR; omega
        have HN := Lib.hid hnew
        clear hmax hfit hsm h129 hp hnew
        go_wp2
        all_goals first | (exfalso; omega) | skip
        go_roundw
        case rel => exact ⟨p + 1, by go_num, .inr HN.out, rfl⟩
        case measure => simp [intOf]; omega
    · have b1 : decide ((p : Int) < (n : Int) / 2) = false := by simpa using hlt
      have e : R = p := by clear b1; omega
      subst e
      clear hmax hfit hsm h129 hp
      go_wp2
      go_ret
      exact ⟨rfl, rfl⟩
theorem rroom_neg (n : Int) (w : World) (hn : n < 0) (h2 : -9223372036854775808 ≤ n) : Calls Try.prog 10 #[.int .i64 n] w (Same (.int .i64 0) w) := by
  have b1 : decide (0 < n.tdiv 2) = false := by
    have h := Int.tdiv_nonneg (a := -n) (b := 2) (by omega) (by omega)
    rw [Int.neg_tdiv] at h
    simp; omega
  go_enter Try.func10, Try.ntmps10
  go_wp2
  refine wp_loop_rounds 1 ?_
  rw [rounds_succ]
  go_wp2
  all_goals first | (exfalso; omega) | skip
  go_ret
  exact ⟨rfl, rfl⟩
def mostP (n : Nat) : Nat := if n = 0 then 0 else 2 * n + (n + 63) / 64 + 2
set_option maxRecDepth 100000 in
theorem most_all (n : Nat) (w : World) (hn : n ≤ 100000) : Calls Try.prog 24 #[.int .i64 (n : Int)] w (Same (.int .i64 (mostP n : Nat)) w) := by
  by_cases h0 : n = 0
  · subst h0
    go_enter Try.func24, Try.ntmps24
    go_wp2
    go_ret
    exact ⟨rfl, rfl⟩
  · have b1 : ((n : Int) == 0) = false := beq_eq_false_iff_ne.2 (by omega)
    have b2 : (n == 0) = false := beq_eq_false_iff_ne.2 h0
    have e : ((mostP n : Nat) : Int) = 2 * (n : Int) + ((n : Int) + 63) / 64 + 2 := by unfold mostP; rw [if_neg h0]; omega
    rw [e]
    clear e
    go_enter Try.func24, Try.ntmps24
    go_wp2
    all_goals first | (exfalso; omega) | skip
    go_ret
    exact ⟨rfl, rfl⟩

/-! ### the model in memory -/
def Txts (w : World) (s : Nat) (L : List (List UInt8)) : Prop := ∀ i (hi : i < L.length), w.cell? ⟨s, i, none⟩ = some (.string ⟨L[i].toArray⟩) ∧ w.frozen? ⟨s, i, none⟩ = false
def Md (w : World) (g s : Nat) (M : List (List UInt8)) : Prop :=
  (∃ cap, Box w g 55 #[.slice (some ⟨s, 0, none⟩) M.length cap] ∧ M.length ≤ cap ∧ cap ≤ maxLen) ∧ g ≠ s ∧ s < w.heap.size ∧ Txts w s M
section
variable {w w' : World} {g s : Nat} {M L : List (List UInt8)}
theorem Txts.block (h : Txts w s L) (k : w'.heap[s]? = w.heap[s]?) : Txts w' s L := fun i hi => by
  rw [World.cell?_of_block (w := w) (a := ⟨s, i, none⟩) k, World.frozen?_of_block (w := w) (a := ⟨s, i, none⟩) k]
  exact h i hi
theorem Txts.set_ (h : Txts w s L) {k : Nat} (b : List UInt8) : Txts (w.setCell ⟨s, k, none⟩ (.string ⟨b.toArray⟩)) s (L.set k b) := fun i hi => by
  have hi' : i < L.length := by simpa using hi
  refine ⟨?_, by rw [World.frozen?_setCell]; exact (h i hi').2⟩
  rw [List.getElem_set]
  split
  · next e =>
    subst e
    exact World.cell?_setCell_same _ _ _ (h k hi').1
  · next e =>
    rw [World.cell?_setCell_other _ _ _ _ (by simp)]
    exact (h i hi').1
theorem Md.lt (h : Md w g s M) : g < w.heap.size ∧ s < w.heap.size := by
  obtain ⟨⟨cap, hx, _⟩, _, hs, _⟩ := h
  exact ⟨hx.lt, hs⟩
theorem Md.fr {S : Nat → Prop} (h : Md w g s M) (k : Fr S w w') (hg : ¬ S g) (hs : ¬ S s) : Md w' g s M := by
  obtain ⟨⟨cap, hx, hc⟩, hn, hl, hse⟩ := h
  exact ⟨⟨cap, hx.fr k hg, hc⟩, hn, Nat.lt_of_lt_of_le hl k.size, hse.block (k.block s hl hs)⟩
theorem Md.drew_ (h : Md w g s M) : Md w.drew g s M := h.fr (S := fun _ => False) (Fr.refl _ w).drew id id
theorem Md.below (h : Md w g s M) (k : Below w.heap.size w w') : Md w' g s M := h.fr (S := fun _ => False) (Fr.of_below k) id id
theorem Md.cells (h : Md w g s M) : ∃ cap, M.length ≤ cap ∧ cap ≤ maxLen ∧ w.cell? ⟨g, 0, none⟩ = some (.slice (some ⟨s, 0, none⟩) M.length cap) := by
  obtain ⟨⟨cap, hx, h1, h2⟩, _⟩ := h
  exact ⟨cap, h1, h2, hx.cell 0⟩
theorem Md.txt_ (h : Md w g s M) (k : Nat) (b : List UInt8) : Md (w.setCell ⟨s, k, none⟩ (.string ⟨b.toArray⟩)) g s (M.set k b) ∧ Fr (Two g s) w (w.setCell ⟨s, k, none⟩ (.string ⟨b.toArray⟩)) := by
  obtain ⟨⟨cap, hx, hc⟩, hn, hl, hse⟩ := h
  refine ⟨⟨⟨cap, ?_, ?_⟩, hn, by simpa [World.setCell] using hl, hse.set_ b⟩, (Fr.refl _ w).set_ (p := ⟨s, k, none⟩) (.inr rfl) _⟩
  · have := hx.far (p := ⟨s, k, none⟩) hn (.string ⟨b.toArray⟩)
    simpa using this
  · simpa using hc
theorem Txts.news (h : Txts w s L) : ∀ j u, (L.map fun l => Value.string ⟨l.toArray⟩)[j]? = some u → w.cell? ((⟨s, 0, none⟩ : Addr).add j) = some u := fun j u hu => by
  have hj : j < L.length := by
    have := (List.getElem?_eq_some_iff.1 hu).1
    simpa using this
  rw [List.getElem?_map, List.getElem?_eq_getElem hj] at hu
  injection hu with hu
  rw [lit_add, (h j hj).1]
  exact congrArg some hu
/-- append(nil, texts...). -/
theorem run_append_txts {c : Nat} (h : Txts w s L) (h1 : 1 ≤ L.length) (h2 : L.length ≤ 2048) :
    ∃ s' c' w', (Builtin.append_ #[51, 51] 51 #[.slice none 0 0, .slice (some ⟨s, 0, none⟩) L.length c]).run Try.prog w = .ok (.slice (some ⟨s', 0, none⟩) L.length c') w' ∧
      w.heap.size ≤ s' ∧ s' < w'.heap.size ∧ L.length ≤ c' ∧ c' ≤ maxLen ∧ Txts w' s' L ∧ Below w.heap.size w w' := by
  obtain ⟨i0, hi0, hz0, hz1, hz2⟩ := info_parts info_str
  obtain ⟨v', w', hr, ho, hg, _, _⟩ := run_append_own_at (P := Try.prog) w w.heap.size 51 51 9 i0 _ 1 16 Try.underlying51 hi0 hz0 hz1 hz2 rfl (by omega)
    _ 0 [] (World.ownsRow_nil w w.heap.size 9 1) ⟨s, 0, none⟩ L.length c (L.map fun l => Value.string ⟨l.toArray⟩) (by simp) h.news (fun u hu => by
      simp only [List.mem_map] at hu
      obtain ⟨l, _, rfl⟩ := hu
      rfl) (by unfold maxLen; omega) (by omega) (Nat.le_refl _)
  rw [List.nil_append, Nat.zero_add] at ho
  have hB := (Below.refl w.heap.size w).grown hg (Nat.le_refl _) (fun k hk => by simp [Value.ownBlock] at hk)
  rcases ho.2 with ⟨_, h0⟩ | ⟨g, cap, cur, rfl, hb, hh, hn, hm, _, ht⟩
  · omega
  · have hy : Box w' g 9 cur := hh
    refine ⟨g, cap, w', hr, hb, hy.lt, hn, hm, fun i hi => ⟨?_, hy.frozen i⟩, hB⟩
    have hi2 : (L.map fun l => Value.string ⟨l.toArray⟩)[i]? = some (.string ⟨L[i].toArray⟩) := by rw [List.getElem?_map, List.getElem?_eq_getElem hi]; rfl
    rw [← ht, List.getElem?_take, if_pos (by omega), Array.getElem?_toList] at hi2
    rw [hy.cell i, hi2]
end
def MdPost (M : List (List UInt8)) (w : World) (e : Ending) (w' : World) : Prop :=
  ∃ g s, e = .returned (.pointer (some ⟨g, 0, none⟩)) ∧ w.heap.size ≤ g ∧ w.heap.size ≤ s ∧ Md w' g s M ∧ Below w.heap.size w w'
end Go.Proofs.Ytkklplccngdalaa.Dk
