/-
  Contracts of the document's Nought, New, Clone.
-/
import Derived.Test.YtjhbeebednahhaaDkR1
import Derived.Maps.AppendAt
import Derived.Deep.RegionLaw
namespace Go.Proofs.Ytjhbeebednahhaa.Dk
open Go.RowKit

theorem info_str : (Try.prog.info? 9).map (fun i => (i.zero, i.size, i.bytes)) = some (some (.string ⟨#[]⟩), 1, 16) := by kernel_rfl

/-- append at a step of a region that draws its order, by its run's equation. -/
theorem step_append_run {w w' : World} {ops : Array Oper} {o : Oper} {a : Act} {K : Act → World → Prop} {Q : Exit → Act → World → Prop} {E : Prop} (hgd : o.guard = none) (s x : Operand) (t1 t2 : TypeId)
    (ho : o.op = .call { callee := .builtin .append, args := #[s, x], argTypes := #[t1, t2] }) {u v r : Value} (hs : a.eval s = u) (hx : a.eval x = v) (hr : (Builtin.append_ #[t1, t2] o.type #[u, v]).run Try.prog w = .ok r w')
    (h : K (a.put o.dst r) w') : if Region.wanted o (yielded ops a.tmps) = true then Oper.wp Try.prog o a w K Q else E := by
  have hw : Region.wanted o (yielded ops a.tmps) = true := by simp [Region.wanted, hgd]
  rw [if_pos hw]
  unfold Oper.wp execOp
  simp only [ho, resolve, invoke, builtin, Sem.run_bind, Sem.run_pure, Result.andThen_ok, List.map_toArray, List.map_cons, List.map_nil, hs, hx, hr]
  exact h

def TextPost (x : ByteArray) (w : World) (e : Ending) (w' : World) : Prop := e = .returned (.string x) ∧ Below w.heap.size w w'
set_option maxRecDepth 100000 in
set_option maxHeartbeats 400000 in
theorem nought_all (w : World) : Calls Try.prog 24 #[] w (TextPost ⟨(full 0).toArray⟩ w) := by
  have hmk := run_make256 w
  have hcv := conv_box 256 (Box.new w 5 (u8C (full 0)).toArray) (full_len 0)
  have hb := (Below.refl w.heap.size w).alloc (Nat.le_refl _) (.cells (u8C (full 0)).toArray 5)
  generalize full 0 = F at *
  go_enter Try.func24, Try.ntmps24
  go_wp2
  go_ret
  exact ⟨rfl, hb⟩

def strs (n : Nat) (x : ByteArray) : List Value := List.replicate n (.string x)
theorem strs_succ (n : Nat) (x : ByteArray) : strs n x ++ [.string x] = strs (n + 1) x := by unfold strs; exact List.replicate_succ'.symm

theorem own_keep {w w' : World} {base : Nat} {e : TypeId} {size : Nat} {v : Value} {n : Nat} {xs : List Value} (h : w.ownsRow base e size v n xs) (hb : Below w.heap.size w w') : w'.ownsRow base e size v n xs := by
  refine ⟨h.1, ?_⟩
  rcases h.2 with h | ⟨g, cap, cur, hv, hbg, hh, r⟩
  · exact .inl h
  · exact .inr ⟨g, cap, cur, hv, hbg, (hb.block g (Array.getElem?_eq_some_iff.1 hh).1).trans hh, r⟩

/-- append(own, x): one text onto a row of one's own. -/
theorem run_append_str {w : World} {base : Nat} {A : Option Addr} {n c : Nat} {xs : List Value} (x : ByteArray) (hown : w.ownsRow base 9 1 (.slice A n c) n xs) (hn : n ≤ 4000) (hbase : base ≤ w.heap.size) :
    ∃ A' c' w', (Builtin.append_ #[39, 39] 39 #[.slice A n c, .slice (some ⟨w.heap.size, 0, none⟩) 1 1]).run Try.prog (w.alloc (.cells #[.string x] 9)) = .ok (.slice A' (n + 1) c') w' ∧
      w'.ownsRow base 9 1 (.slice A' (n + 1) c') (n + 1) (xs ++ [.string x]) ∧ (w.alloc (.cells #[.string x] 9)).grownBy w' (Value.slice A n c).ownBlock := by
  obtain ⟨i0, hi0, hz0, hz1, hz2⟩ := info_parts info_str
  have hown' := own_keep hown ((Below.refl _ w).alloc (Nat.le_refl _) (.cells #[.string x] 9))
  obtain ⟨v', w', hr, ho, hg, _, _⟩ := run_append_own_at (P := Try.prog) (w.alloc (.cells #[.string x] 9)) base 39 39 9 i0 _ 1 16 Try.underlying39 hi0 hz0 hz1 hz2 rfl (by omega)
    _ n xs hown' ⟨w.heap.size, 0, none⟩ 1 1 [.string x] rfl (World.news_of_block (cs := #[.string x]) (t := 9) (fr := (0, 0)) (heap_alloc_new w _)) (by simp [Value.oneCell']) (by unfold maxLen; omega) (by omega) (by simp; omega)
  rcases ho.2 with ⟨_, h0⟩ | ⟨g, cap, cur, rfl, _⟩
  · omega
  · exact ⟨some ⟨g, 0, none⟩, cap, w', hr, ho, hg⟩

def RNewRel (n g : Nat) (x : ByteArray) (w : World) (i : Value) (wr : World) : Prop :=
  ∃ (k : Nat) (A : Option Addr) (c : Nat), i = .int .i64 (k : Int) ∧ k ≤ n ∧ Box wr g 41 #[.slice A k c, .bool false, .int .i64 (-1), .int .i64 0] ∧ wr.ownsRow (g + 1) 9 1 (.slice A k c) k (strs k x) ∧ Below g w wr
def RNewPost (n : Nat) (w : World) (e : Ending) (w' : World) : Prop :=
  ∃ g s, e = .returned (.tuple #[.pointer (some ⟨g, 0, none⟩), .int .i64 0]) ∧ w.heap.size ≤ g ∧ w.heap.size ≤ s ∧ Rk w' g s (new n) ∧ Below w.heap.size w w'

set_option maxHeartbeats 400000 in
theorem rnew_bad (n : Int) (w : World) (h : n < 1 ∨ 2048 < n) : Calls Try.prog 9 #[.int .i64 n] w (Same (.tuple #[.pointer none, .int .i64 1]) w) := by
  rcases h with h | h
  · go_enter Try.func9, Try.ntmps9
    go_wp2
    go_ret2
    exact ⟨rfl, rfl⟩
  · have h' : ¬ n < 1 := by omega
    go_enter Try.func9, Try.ntmps9
    go_wp2
    go_ret2
    exact ⟨rfl, rfl⟩

/-- The document's new disk out of its row of texts. -/
theorem rk_new {w : World} {g n c : Nat} {A : Option Addr} (h1 : 1 ≤ n) (hx : Box w g 41 #[.slice A n c, .bool false, .int .i64 (-1), .int .i64 0]) (ho : w.ownsRow (g + 1) 9 1 (.slice A n c) n (strs n ⟨(full 0).toArray⟩)) : ∃ s, g + 1 ≤ s ∧ Rk w g s (new n) := by
  rcases ho.2 with ⟨_, h0⟩ | ⟨s, cap, cur, hv, hb, hh, hn, hm, hsz, ht⟩
  · omega
  · injection hv with hv1 hv2 hv3
    subst hv1
    subst hv3
    have hy : Box w s 9 cur := hh
    have e : (new n).L.length = n := List.length_replicate
    refine ⟨s, hb, ⟨c, by rw [e]; exact hx, by rw [e]; exact hn, hm⟩, by omega, hy.lt, fun i hi => ⟨?_, hy.frozen i⟩⟩
    rw [e] at hi
    have hi2 : (strs n ⟨(full 0).toArray⟩)[i]? = some (.string ⟨(full 0).toArray⟩) := by unfold strs; rw [List.getElem?_replicate, if_pos hi]
    rw [← ht, List.getElem?_take, if_pos (by omega), Array.getElem?_toList] at hi2
    rw [hy.cell i, hi2]
    have e2 : (new n).L[i]'(by rw [e]; exact hi) = full 0 := List.getElem_replicate _
    rw [e2]

set_option maxRecDepth 100000 in
set_option maxHeartbeats 2000000 in
theorem rnew_ok (n : Nat) (w : World) (h1 : 1 ≤ n) (h2 : n ≤ 2048) : Calls Try.prog 9 #[.int .i64 (n : Int)] w (RNewPost n w) := by
  have b1 : decide ((n : Int) < 1) = false := by simp; omega
  have b2 : decide ((2048 : Int) < (n : Int)) = false := by simp; omega
  have hx0 := Box.new w 41 #[.slice none 0 0, .bool false, .int .i64 (-1), .int .i64 0]
  have hB0 := (Below.refl w.heap.size w).alloc (Nat.le_refl _) (.cells #[.slice none 0 0, .bool false, .int .i64 (-1), .int .i64 0] 41)
  have HN := Lib.hid nought_all
  obtain ⟨X, hX⟩ : ∃ X : ByteArray, X = ⟨(full 0).toArray⟩ := ⟨_, rfl⟩
  rw [← hX] at HN
  have HX := Lib.hid hX
  clear hX
  go_enter Try.func9, Try.ntmps9
  go_wp2_with fail
  clear b1 b2
  go_loopw [5] (RNewRel n w.heap.size X w) (fun i _ => n - (intOf i).toNat)
  case atStart => exact ⟨0, none, 0, rfl, by omega, hx0, World.ownsRow_nil _ _ _ _, hB0⟩
  case round =>
    obtain ⟨k, A, c, rfl, hk, hx, ho, hbw⟩ := hrel
    clear hx0 hB0
    by_cases hlt : k < n
    · have b5 : (k : Int) < (n : Int) := by omega
      have c0 : wr.cell? ⟨w.heap.size, 0, none⟩ = some (.slice A k c) := hx.cell 0
      have hlg := hx.lt
      have hrow : ∀ j, (Value.slice A k c).ownBlock = some j → w.heap.size + 1 ≤ j := fun j hj => (ho.lt j hj).1
      have HR := Lib.hid hrow
      clear hrow
      go_wp2_with fail
      go_region_law
        (first | (rw [if_pos (by simp [Region.wanted])]; go_simp; go_at_call 24; (with_reducible refine (HN.out _).mono ?_); rintro e w1 ⟨rfl, hb1⟩; have hx1 := hx.drew.below hb1 hlg; have c1 : w1.cell? ⟨w.heap.size, 0, none⟩ = some (.slice A k c) := hx1.cell 0; have ho1 := own_keep (ho.drew) hb1; obtain ⟨A', c', w2, hr, ho2, hg2⟩ := run_append_str X ho1 (by omega) (by have := hx1.lt; omega); have hx2 := (hx1.alloc (.cells #[.string X] 9)).grown hg2 (fun e => by have := HR.out _ e.symm; omega); have c2 : (w1.alloc (.cells #[.string X] 9)).cell? ⟨w.heap.size, 0, none⟩ = some (.slice A k c) := (hx1.alloc _).cell 0; have c3 : w2.cell? ⟨w.heap.size, 0, none⟩ = some (.slice A k c) := hx2.cell 0; have q2 := hx2.frozen 0) | (refine step_append_run (by rfl) _ _ _ _ (by rfl) (by rfl) (by rfl) hr ?_))
      all_goals
        have hx3 := hx2.set_ 0 (.slice A' (k + 1) c')
        have ho3 := ownsRow_setCell_below ho2 (a := ⟨w.heap.size, 0, none⟩) (by simp) (.slice A' (k + 1) c')
        rw [strs_succ] at ho3
        have hb2 : Below w.heap.size w w2 := ((hbw.drew.trans (hb1.mono (by exact Nat.le_of_lt hlg))).alloc (by have := hx1.lt; omega) (.cells #[.string X] 9)).grown hg2 (by have := hx1.lt; simp; omega) (fun j hj => by have := HR.out j hj; omega)
        have hb3 := hb2.setCell (p := ⟨w.heap.size, 0, none⟩) (Nat.le_refl _) (.slice A' (k + 1) c')
        clear hx ho hx1 ho1 hr ho2 hg2 hx2 c1 c2 c3 q2 hb1 hb2 hbw c0
        go_wp2
        go_roundw
        case rel => exact ⟨k + 1, A', c', by go_num, by omega, hx3, ho3, hb3⟩
        case measure => simp [intOf]; omega
    · obtain rfl : k = n := by omega
      go_wp2
      rw [HX.out] at ho
      obtain ⟨s, hs, hR⟩ := rk_new h1 hx ho
      go_ret2
      exact ⟨_, s, rfl, Nat.le_refl _, by omega, hR, hbw⟩

theorem Txts.news {w : World} {s : Nat} {L : List (List UInt8)} (h : Txts w s L) : ∀ j u, (L.map fun l => Value.string ⟨l.toArray⟩)[j]? = some u → w.cell? ((⟨s, 0, none⟩ : Addr).add j) = some u := fun j u hu => by
  have hj : j < L.length := by
    have := (List.getElem?_eq_some_iff.1 hu).1
    simpa using this
  rw [List.getElem?_map, List.getElem?_eq_getElem hj] at hu
  injection hu with hu
  rw [lit_add, (h j hj).1]
  exact congrArg some hu

/-- append(nil, texts...). -/
theorem run_append_txts {w : World} {s c : Nat} {L : List (List UInt8)} (h : Txts w s L) (h1 : 1 ≤ L.length) (h2 : L.length ≤ 2048) :
    ∃ s' c' w', (Builtin.append_ #[39, 39] 39 #[.slice none 0 0, .slice (some ⟨s, 0, none⟩) L.length c]).run Try.prog w = .ok (.slice (some ⟨s', 0, none⟩) L.length c') w' ∧
      w.heap.size ≤ s' ∧ s' < w'.heap.size ∧ L.length ≤ c' ∧ c' ≤ maxLen ∧ Txts w' s' L ∧ Below w.heap.size w w' := by
  obtain ⟨i0, hi0, hz0, hz1, hz2⟩ := info_parts info_str
  obtain ⟨v', w', hr, ho, hg, _, _⟩ := run_append_own_at (P := Try.prog) w w.heap.size 39 39 9 i0 _ 1 16 Try.underlying39 hi0 hz0 hz1 hz2 rfl (by omega)
    _ 0 [] (World.ownsRow_nil w w.heap.size 9 1) ⟨s, 0, none⟩ L.length c (L.map fun l => Value.string ⟨l.toArray⟩) (by simp) h.news (fun u hu => by
      simp only [List.mem_map] at hu
      obtain ⟨l, _, rfl⟩ := hu
      rfl) (by unfold maxLen; omega) (by omega) (Nat.le_refl _)
  rw [List.nil_append, Nat.zero_add] at ho
  have hB := (Below.refl w.heap.size w).grown hg (Nat.le_refl _) (fun k hk => by simp [Value.ownBlock] at hk)
  rcases ho.2 with ⟨_, h0⟩ | ⟨g, cap, cur, rfl, hb, hh, hn, hm, _, ht⟩
  · omega
  · have hy : Box w' g 9 cur := hh
    refine ⟨g, cap, w', hr, hb, hy.lt, hn, hm, fun i hi => ⟨?_, hy.frozen i⟩, hB⟩
    have hi2 : (L.map fun l => Value.string ⟨l.toArray⟩)[i]? = some (.string ⟨L[i].toArray⟩) := by rw [List.getElem?_map, List.getElem?_eq_getElem hi]; rfl
    rw [← ht, List.getElem?_take, if_pos (by omega), Array.getElem?_toList] at hi2
    rw [hy.cell i, hi2]

def RClonePost (d : Dsk) (w : World) (e : Ending) (w' : World) : Prop :=
  ∃ g s, e = .returned (.pointer (some ⟨g, 0, none⟩)) ∧ w.heap.size ≤ g ∧ w.heap.size ≤ s ∧ Rk w' g s d ∧ Below w.heap.size w w'

set_option maxRecDepth 100000 in
set_option maxHeartbeats 2000000 in
theorem rclone_all (g s : Nat) (d : Dsk) (w : World) (h : Rk w g s d) (h1 : 1 ≤ d.L.length) (h2 : d.L.length ≤ 2048) :
    Calls Try.prog 14 #[.pointer (some ⟨g, 0, none⟩)] w (RClonePost d w) := by
  obtain ⟨cap, hc1, hc2, c0, c1, c2, c3, _⟩ := h.cells
  have hlt := h.lt
  obtain ⟨s', c', w1, hr, hs1, hs2, hs3, hs4, hs5, hb1⟩ := run_append_txts (c := cap) (h.drew_).2.2.2 h1 h2
  have hs1' : w.heap.size ≤ s' := hs1
  have d0 : w1.cell? ⟨g, 0, none⟩ = some (.slice (some ⟨s, 0, none⟩) d.L.length cap) := (hb1.cell (p := ⟨g, 0, none⟩) hlt.1).trans c0
  have d1 : w1.cell? ⟨g, 1, none⟩ = some (.bool (!d.on)) := (hb1.cell (p := ⟨g, 1, none⟩) hlt.1).trans c1
  have d2 : w1.cell? ⟨g, 2, none⟩ = some (.int .i64 d.left) := (hb1.cell (p := ⟨g, 2, none⟩) hlt.1).trans c2
  have d3 : w1.cell? ⟨g, 3, none⟩ = some (.int .i64 d.wr) := (hb1.cell (p := ⟨g, 3, none⟩) hlt.1).trans c3
  have hB1 := ((Below.refl w.heap.size w).drew).trans (hb1.mono (Nat.le_refl _))
  have hx := Box.new w1 41 #[.slice (some ⟨s', 0, none⟩) d.L.length c', .bool (!d.on), .int .i64 d.left, .int .i64 d.wr]
  have hs6 := hs5.block (Below.heap_alloc w1 (.cells #[.slice (some ⟨s', 0, none⟩) d.L.length c', .bool (!d.on), .int .i64 d.left, .int .i64 d.wr] 41) s' hs2)
  have hB2 := hB1.alloc hB1.size (.cells #[.slice (some ⟨s', 0, none⟩) d.L.length c', .bool (!d.on), .int .i64 d.left, .int .i64 d.wr] 41)
  have e0 := fun (o : Obj) (i : Nat) => World.cell?_alloc_lt w1 o ⟨g, i, none⟩ (Nat.lt_of_lt_of_le hlt.1 hB1.size)
  have E0 := Lib.hid e0
  have HS1 := hB1.size
  clear h hs5 hb1 hB1 hs1 e0
  obtain ⟨nb, hnb⟩ : ∃ nb, nb = !d.on := ⟨_, rfl⟩
  rw [← hnb] at c1 d1 hx hs6 hB2
  have HNB := Lib.hid hnb
  clear hnb
  go_enter Try.func14, Try.ntmps14
  go_wp2_with fail
  go_region_held_law (fun w' => w'.cell? ⟨g, 0, none⟩ = some (.slice (some ⟨s, 0, none⟩) d.L.length cap) ∧ w'.cell? ⟨g, 1, none⟩ = some (.bool nb) ∧ w'.cell? ⟨g, 2, none⟩ = some (.int .i64 d.left) ∧ w'.cell? ⟨g, 3, none⟩ = some (.int .i64 d.wr)) (first | exact ⟨c0, c1, c2, c3⟩ | exact ⟨d0, d1, d2, d3⟩ | exact ⟨(E0.out _ _).trans d0, (E0.out _ _).trans d1, (E0.out _ _).trans d2, (E0.out _ _).trans d3⟩ | assumption)
    (first | (refine step_append_run (by rfl) _ _ _ _ (by rfl) (by rfl) (by rfl) hr ?_))
  go_wp2
  go_ret
  have hq := HNB.out
  clear HNB
  subst hq
  exact ⟨_, s', rfl, HS1, hs1', ⟨⟨c', hx, hs3, hs4⟩, by omega, by simp; omega, hs6⟩, hB2⟩
end Go.Proofs.Ytjhbeebednahhaa.Dk
