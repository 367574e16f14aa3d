/-
  The document's Number and fill.
  The document's fill at an operator.
-/
import Derived.Test.YtinocaggponpmaaGreatDoorExFg
import Derived.Test.YtinocaggponpmaaGreatDoorExVa
import Derived.Test.YtinocaggponpmaaGreatDoorExNa
import Derived.Laws.AppendOwn
import Derived.Maps.AppendAt
import Derived.Deep.RegionLaw
import Derived.Lib.OwnKind
namespace Go.Proofs.YtinocaggponpmaaGreatDoor.Ep
open Go.RowKit Lx

set_option maxRecDepth 100000 in
set_option maxHeartbeats 2000000 in
theorem rnum_pos (n : Int) (w : World) (h0 : 0 ≤ n) : Calls Tryz.prog 59 #[.int .i64 n] w (FlP (numE n) w) := by
  have d0 : decide (0 ≤ n) = true := by simpa using h0
  go_enter Tryz.func59, Tryz.ntmps59
  go_wp2
  exact bodyPost_ret (v := exV 0 n [] none 0 0) (by simp [results, Tryz.results59, go_sem, exV]) rfl ⟨_, rfl, tree_leaf _ _ _ _ _, (Below.refl _ _).alloc (Nat.le_refl _) _⟩
set_option maxRecDepth 100000 in
set_option maxHeartbeats 2000000 in
theorem rnum_neg (n : Int) (w : World) (h0 : n < 0) (h1 : -9223372036854775807 ≤ n) : Calls Tryz.prog 59 #[.int .i64 n] w (FlP (.mk 2 0 [] [numE (-n)]) w) := by
  have d0 : decide (0 ≤ n) = false := by simpa using h0
  have d1 : (n == -9223372036854775808) = false := beq_eq_false_iff_ne.2 (by omega)
  have hneg : IntKind.i64.wrap (-n) = -n := IntWalk.i64_in _ (by omega)
  go_enter Tryz.func59, Tryz.ntmps59
  go_wp2
  refine bodyPost_ret (v := exV 2 0 [] (some ⟨w.heap.size + 1, 0, none⟩) 1 1) (by simp [results, Tryz.results59, go_sem, exV]) rfl ⟨_, rfl, ?_, ?_⟩
  · exact tree_one (k := numE (-n)) (box_b w _ _ _) (tree_leaf _ _ _ _ _) (by show w.heap.size ≤ w.heap.size + 1; omega) 2
  · exact ((Below.refl _ _).alloc (Nat.le_refl _) _).alloc (by simp) _
set_option maxRecDepth 100000 in
set_option maxHeartbeats 2000000 in
theorem rnum_min (w : World) : Calls Tryz.prog 59 #[.int .i64 (-9223372036854775808)] w (FlP (.mk 5 0 [] [.mk 2 0 [] [numE 9223372036854775807], numE 1]) w) := by
  have HC : Hid (∀ wx, Calls Tryz.prog 59 #[.int .i64 (-9223372036854775807)] wx (FlP (.mk 2 0 [] [numE 9223372036854775807]) wx)) := fun wx => rnum_neg (-9223372036854775807) wx (by omega) (by omega)
  have HP : Hid (∀ wx, Calls Tryz.prog 59 #[.int .i64 1] wx (FlP (numE 1) wx)) := fun wx => rnum_pos 1 wx (by omega)
  generalize (Ex.mk 2 0 [] [numE 9223372036854775807]) = t1 at *
  generalize numE 1 = t2 at *
  go_enter Tryz.func59, Tryz.ntmps59
  go_wp2_with fail
  refine (HC.out _).mono ?_
  rintro e w1 ⟨v1, rfl, hT1, hb1⟩
  obtain ⟨a1, c1, rfl, -, -⟩ := hT1.open
  have hbw := below_new hb1
  have hx := (Box.new w 25 #[.int .i64 0, .int .i64 0, .string ⟨#[]⟩, .slice none 0 0]).below hb1 (by simp)
  have hxl := hx.lt
  unfold exV at hT1 ⊢
  go_wp2_with fail
  refine (HP.out _).mono ?_
  rintro e w2 ⟨v2, rfl, hT2, hb2⟩
  obtain ⟨a2, c2, rfl, -, -⟩ := hT2.open
  have hx2 := hx.below hb2 hxl
  have hxl2 := hx2.lt
  have hB2 := hbw.trans (hb2.mono hbw.size)
  have hT12 := hT1.below hb2 (Nat.le_refl _)
  obtain ⟨q0, q1, q2, q3, f0, f1, f2, f3⟩ := hx2.four
  have hs1 := hbw.size
  have hs2 := hb2.size
  have hlt1 : w.heap.size < w1.heap.size := hxl
  clear hx hxl hT1 HC HP hb1
  unfold exV at hT2 ⊢
  go_wp2
  refine bodyPost_ret (v := exV 5 0 [] (some ⟨w2.heap.size, 0, none⟩) 2 2) (by simp [results, Tryz.results59, go_sem, exV, q0, q1, q2, q3, hxl2]) rfl ⟨_, rfl, ?_, (below_set4 hB2 (Nat.le_refl _) _ _ _ _).alloc (below_set4 hB2 (Nat.le_refl _) _ _ _ _).size _⟩
  have ht := fun (S : Nat → Prop) (x : Ex) (v : Value) (hS : ∀ q, S q → w.heap.size + 1 ≤ q) (h : TreeV S w2 x v) => TreeV.alloc (TreeV.low (lo' := fun q => w.heap.size ≤ q) (fun q hq => by have := hS q hq; omega) _ _ (TreeV.keep (w' := _) (by rw [size4]; exact Nat.le_refl _) (fun q hq _ => block4 w2 w.heap.size (.int .i64 5) (.int .i64 0) (.string ⟨#[]⟩) (.slice (some ⟨w2.heap.size, 0, none⟩) 2 2) q (by have := hS q hq; omega)) _ _ h)) (.cells #[.int .i64 t1.op, .int .i64 t1.n, .string ⟨t1.name.toArray⟩, .slice a1 t1.kids.length c1, .int .i64 t2.op, .int .i64 t2.n, .string ⟨t2.name.toArray⟩, .slice a2 t2.kids.length c2] 25)
  have hrow := Box.new ((((w2.setCell ⟨w.heap.size, 0, none⟩ (.int .i64 5)).setCell ⟨w.heap.size, 1, none⟩ (.int .i64 0)).setCell ⟨w.heap.size, 2, none⟩ (.string ⟨#[]⟩)).setCell ⟨w.heap.size, 3, none⟩ (.slice (some ⟨w2.heap.size, 0, none⟩) 2 2)) 25 #[.int .i64 t1.op, .int .i64 t1.n, .string ⟨t1.name.toArray⟩, .slice a1 t1.kids.length c1, .int .i64 t2.op, .int .i64 t2.n, .string ⟨t2.name.toArray⟩, .slice a2 t2.kids.length c2]
  rw [size4] at hrow
  exact tree_two hrow (ht _ _ _ (fun q hq => by simpa using hq) hT12) (ht _ _ _ (fun q hq => by have : w1.heap.size ≤ q := hq; omega) hT2) (by show w.heap.size ≤ w2.heap.size; omega) 5
theorem rnum_any (n : Int) (w : World) (h0 : -9223372036854775808 ≤ n) (_h1 : n ≤ 9223372036854775807) : Calls Tryz.prog 59 #[.int .i64 n] w (FlP (constE n) w) := by
  unfold constE
  split
  · exact rnum_pos n w (by omega)
  · split
    · rename_i h
      subst h
      exact rnum_min w
    · exact rnum_neg n w (by omega) (by omega)

set_option maxRecDepth 100000 in
set_option maxHeartbeats 2000000 in
/-- A leaf that is no name of env's is copied. -/
theorem rfill_0 (n : Int) (nb : List UInt8) (cap : Nat) (a : Option Addr) (ve : Value) (w : World) :
    Calls Tryz.prog 37 #[.agg #[.int .i64 0, .int .i64 n, .string ⟨nb.toArray⟩, .slice a 0 cap], ve] w (FlP (.mk 0 n nb []) w) := by
  go_enter Tryz.func37, Tryz.ntmps37
  go_wp2_with fail
  refine wp_loop_rounds 1 ?_
  rw [rounds_succ]
  go_wp2
  exact bodyPost_ret (v := exV 0 n nb none 0 0) (by simp [results, Tryz.results37, go_sem, exV]) rfl ⟨_, rfl, tree_leaf _ _ _ _ _, (((Below.refl _ _).alloc (Nat.le_refl _) _).alloc (by simp) _).alloc (by simp; omega) _⟩

set_option maxRecDepth 100000 in
set_option maxHeartbeats 2000000 in
theorem rfill_name (n : Int) (nm : List UInt8) (a : Option Addr) (cap : Nat) (env : List (List UInt8 × Int)) (ve : Value) (w : World) (hE : EnvV w env ve) :
    Calls Tryz.prog 37 #[.agg #[.int .i64 1, .int .i64 n, .string ⟨nm.toArray⟩, .slice a 0 cap], ve] w (FlP (match findC env nm with | some z => constE z | none => .mk 1 n nm []) w) := by
  have hbA := ((Below.refl w.heap.size w).alloc (Nat.le_refl _) (.cells #[.int .i64 1, .int .i64 n, .string ⟨nm.toArray⟩, .slice a 0 cap] 25)).alloc (by simp) (.cells #[.int .i64 0, .int .i64 0, .string ⟨#[]⟩, .slice none 0 0] 25)
  have HF := Lib.hid (refCell_any env nm ve _ (hE.below hbA (Nat.le_refl _)))
  have HN : Hid (∀ z, findC env nm = some z → -9223372036854775808 ≤ z ∧ z ≤ 9223372036854775807) := fun z hz => by
    obtain ⟨c, hc, rfl⟩ := findC_mem env nm z hz
    exact hE.nums c hc
  obtain ⟨ea, ecap, rfl, hecap, hek⟩ := hE.form
  have hx := box_b w (.cells #[.int .i64 1, .int .i64 n, .string ⟨nm.toArray⟩, .slice a 0 cap] 25) 25 #[.int .i64 0, .int .i64 0, .string ⟨#[]⟩, .slice none 0 0]
  clear hecap hek hE
  generalize env.length = el at *
  generalize hX : findC env nm = X at *
  clear hX
  go_enter Tryz.func37, Tryz.ntmps37
  go_wp2_with fail
  refine HF.out.mono ?_
  rintro e w1 ⟨rfl, rfl⟩
  clear HF
  cases X with
  | none =>
    clear hx hbA
    go_wp2_with fail
    refine wp_loop_rounds 1 ?_
    rw [rounds_succ]
    go_wp2
    exact bodyPost_ret (v := exV 1 n nm none 0 0) (by simp [results, Tryz.results37, go_sem, exV]) rfl ⟨_, rfl, tree_leaf _ _ _ _ _, (((Below.refl _ _).alloc (Nat.le_refl _) _).alloc (by simp) _).alloc (by simp; omega) _⟩
  | some z =>
    have hz := HN.out z rfl
    have HC := Lib.hid (fun wx => rnum_any z wx hz.1 hz.2)
    generalize ht1 : constE z = t1 at HC
    have HTE := Lib.hid ht1
    clear HN hz ht1
    go_wp2_with fail
    refine (HC.out _).mono ?_
    rintro e w2 ⟨v2, rfl, hT2, hb2⟩
    obtain ⟨a2, cp2, rfl, -, -⟩ := hT2.open
    have hB2 := hbA.trans (hb2.mono (by simp; omega))
    have hx2 := hx.below hb2 (by simp)
    obtain ⟨c0, c1, c2, c3, f0, f1, f2, f3⟩ := hx2.four
    have hxl2 := hx2.lt
    clear hx hb2 hx2 hbA
    unfold exV at hT2 ⊢
    go_wp2
    refine bodyPost_ret (v := exV t1.op t1.n t1.name a2 t1.kids.length cp2) (by simp [results, Tryz.results37, go_sem, exV, c0, c1, c2, c3]) rfl ⟨_, rfl, ?_, below_set4 hB2 (Nat.le_succ _) _ _ _ _⟩
    show TreeV _ _ (constE z) _
    rw [HTE.out]
    exact TreeV.low (fun q hq => by simp at hq; omega) _ _ (TreeV.keep (by rw [size4]; exact Nat.le_refl _) (fun q hq _ => block4 _ _ _ _ _ _ _ (by simp at hq; omega)) _ _ hT2)
end Go.Proofs.YtinocaggponpmaaGreatDoor.Ep

namespace Go.Proofs.YtinocaggponpmaaGreatDoor.Ep
open Go.RowKit Lx

theorem info_ex : (Tryz.prog.info? 25).map (fun i => (i.zero, i.size, i.bytes)) = some (some (.agg #[.int .i64 0, .int .i64 0, .string ⟨#[]⟩, .slice none 0 0]), 4, 56) := by kernel_rfl
/-- append(own, x): one tree onto a row of one's own. -/
theorem run_append_ex {w : World} {base : Nat} {A : Option Addr} {n c : Nat} {xs : List Value} (z0 z1 : Int) (s : ByteArray) (a : Option Addr) (k cp : Nat) (hown : w.ownsRow base 25 4 (.slice A n c) n xs) (hn : n ≤ 4000) (hbase : base ≤ w.heap.size) :
    ∃ g c' w', (Builtin.append_ #[23, 23] 23 #[.slice A n c, .slice (some ⟨w.heap.size, 0, none⟩) 1 1]).run Tryz.prog (w.alloc (.cells #[.int .i64 z0, .int .i64 z1, .string s, .slice a k cp] 25)) = .ok (.slice (some ⟨g, 0, none⟩) (n + 1) c') w' ∧
      w'.ownsRow base 25 4 (.slice (some ⟨g, 0, none⟩) (n + 1) c') (n + 1) (xs ++ [.int .i64 z0, .int .i64 z1, .string s, .slice a k cp]) ∧ (w.alloc (.cells #[.int .i64 z0, .int .i64 z1, .string s, .slice a k cp] 25)).grownBy w' (Value.slice A n c).ownBlock ∧ ((Value.slice A n c).ownBlock = some g ∨ g = w.heap.size + 1) := by
  obtain ⟨i0, hi0, hz0, hz1, hz2⟩ := info_parts info_ex
  have hown' := own_keepN hown ((Below.refl _ w).alloc (Nat.le_refl _) (.cells #[.int .i64 z0, .int .i64 z1, .string s, .slice a k cp] 25))
  obtain ⟨v', w', hr, ho, hg, _, hnew⟩ := run_append_own_at (P := Tryz.prog) (w.alloc (.cells #[.int .i64 z0, .int .i64 z1, .string s, .slice a k cp] 25)) base 23 23 25 i0 _ 4 56 Tryz.underlying23 hi0 hz0 hz1 hz2 rfl (by omega)
    _ n xs hown' ⟨w.heap.size, 0, none⟩ 1 1 [.int .i64 z0, .int .i64 z1, .string s, .slice a k cp] rfl (World.news_of_block (cs := #[.int .i64 z0, .int .i64 z1, .string s, .slice a k cp]) (t := 25) (fr := (0, 0)) (heap_alloc_new w _)) (by simp [Value.oneCell']) (by unfold maxLen; omega) (by omega) (by simp; omega)
  rcases ho.2 with ⟨_, h0⟩ | ⟨g, cap, cur, rfl, _⟩
  · omega
  · refine ⟨g, cap, w', hr, ho, hg, ?_⟩
    rcases hnew with h | h
    · exact Or.inl h.symm
    · injection h with h
      exact Or.inr (by simpa using h)
theorem step_append_run {w w' : World} {ops : Array Oper} {o : Oper} {a : Act} {K : Act → World → Prop} {Q : Exit → Act → World → Prop} {E : Prop} (hgd : o.guard = none) (s x : Operand) (t1 t2 : TypeId)
    (ho : o.op = .call { callee := .builtin .append, args := #[s, x], argTypes := #[t1, t2] }) {u v r : Value} (hs : a.eval s = u) (hx : a.eval x = v) (hr : (Builtin.append_ #[t1, t2] o.type #[u, v]).run Tryz.prog w = .ok r w')
    (h : K (a.put o.dst r) w') : if Region.wanted o (yielded ops a.tmps) = true then Oper.wp Tryz.prog o a w K Q else E := by
  have hw : Region.wanted o (yielded ops a.tmps) = true := by simp [Region.wanted, hgd]
  rw [if_pos hw]
  unfold Oper.wp execOp
  simp only [ho, resolve, invoke, builtin, Sem.run_bind, Sem.run_pure, Result.andThen_ok, List.map_toArray, List.map_cons, List.map_nil, hs, hx, hr]
  exact h
theorem box_frozen {w : World} {g : Nat} {t : TypeId} {cs : Array Value} (h : Box w g t cs) (j : Nat) : w.frozen? ⟨g, j, none⟩ = false := Lib.frozen_of_heap h j
theorem box_grown {w w' : World} {g : Nat} {t : TypeId} {cs : Array Value} {row : Option Nat} (h : Box w g t cs) (hb : w.grownBy w' row) (hg : some g ≠ row) : Box w' g t cs := (hb.block g (Array.getElem?_eq_some_iff.1 h).1 hg).trans h

theorem own_cap {w : World} {base : Nat} {e : TypeId} {size : Nat} {a : Option Addr} {n c : Nat} {xs : List Value} (h : w.ownsRow base e size (.slice a n c) n xs) : n ≤ c := by
  rcases h.2 with ⟨h0, h1⟩ | ⟨g, cap, cur, h0, _, _, h1, _⟩
  · omega
  · injection h0 with _ _ h2
    omega
theorem tree_row1 {S : Nat → Prop} {w : World} {o n : Int} {nm : List UInt8} {k : Ex} {g c : Nat} {a : Option Addr} {cp : Nat} (hc : 1 ≤ c) (hS : S g) (hg : g < w.heap.size)
    (c0 : w.cell? ⟨g, 0, none⟩ = some (.int .i64 k.op)) (c1 : w.cell? ⟨g, 1, none⟩ = some (.int .i64 k.n)) (c2 : w.cell? ⟨g, 2, none⟩ = some (.string ⟨k.name.toArray⟩)) (c3 : w.cell? ⟨g, 3, none⟩ = some (.slice a k.kids.length cp))
    (hT : TreeV S w k (exV k.op k.n k.name a k.kids.length cp)) : TreeV S w (.mk o n nm [k]) (exV o n nm (some ⟨g, 0, none⟩) 1 c) := by
  unfold TreeV
  refine ⟨some ⟨g, 0, none⟩, c, rfl, hc, fun _ => ⟨g, 0, rfl, hS, hg, ?_⟩⟩
  rw [TreeL, TreeL]
  exact ⟨⟨a, cp, c0, c1, c2, c3, hT⟩, trivial⟩
theorem tree_row2 {S : Nat → Prop} {w : World} {o n : Int} {nm : List UInt8} {k l : Ex} {g c : Nat} {a b : Option Addr} {cp cq : Nat} (hc : 2 ≤ c) (hS : S g) (hg : g < w.heap.size)
    (c0 : w.cell? ⟨g, 0, none⟩ = some (.int .i64 k.op)) (c1 : w.cell? ⟨g, 1, none⟩ = some (.int .i64 k.n)) (c2 : w.cell? ⟨g, 2, none⟩ = some (.string ⟨k.name.toArray⟩)) (c3 : w.cell? ⟨g, 3, none⟩ = some (.slice a k.kids.length cp))
    (d0 : w.cell? ⟨g, 4, none⟩ = some (.int .i64 l.op)) (d1 : w.cell? ⟨g, 5, none⟩ = some (.int .i64 l.n)) (d2 : w.cell? ⟨g, 6, none⟩ = some (.string ⟨l.name.toArray⟩)) (d3 : w.cell? ⟨g, 7, none⟩ = some (.slice b l.kids.length cq))
    (hT : TreeV S w k (exV k.op k.n k.name a k.kids.length cp)) (hL : TreeV S w l (exV l.op l.n l.name b l.kids.length cq)) : TreeV S w (.mk o n nm [k, l]) (exV o n nm (some ⟨g, 0, none⟩) 2 c) := by
  unfold TreeV
  refine ⟨some ⟨g, 0, none⟩, c, rfl, hc, fun _ => ⟨g, 0, rfl, hS, hg, ?_⟩⟩
  rw [TreeL, TreeL, TreeL]
  exact ⟨⟨a, cp, c0, c1, c2, c3, hT⟩, ⟨b, cq, d0, d1, d2, d3, hL⟩, trivial⟩
set_option maxRecDepth 100000 in
set_option maxHeartbeats 4000000 in
theorem rfill_un (env : List (List UInt8 × Int)) (o : Int) (h1 : o ≠ 1) (n : Int) (nm : List UInt8) (k t1 : Ex) (IH : Hid (Fills 37 env k t1))
    (lo : Nat → Prop) (g off cap : Nat) (ve : Value) (w : World) (_hcap : 1 ≤ cap) (hg1 : lo g) (hg2 : g < w.heap.size) (hTL : TreeL lo w g off [k]) (hE : EnvV w env ve) (hO : Ops w) :
    Calls Tryz.prog 37 #[.agg #[.int .i64 o, .int .i64 n, .string ⟨nm.toArray⟩, .slice (some ⟨g, off, none⟩) 1 cap], ve] w (FlP (.mk o n nm [t1]) w) := by
  have hb0 := (((Below.refl w.heap.size w).alloc (Nat.le_refl _) (.cells #[.int .i64 o, .int .i64 n, .string ⟨nm.toArray⟩, .slice (some ⟨g, off, none⟩) 1 cap] 25)).alloc (by simp) (.cells #[.int .i64 0, .int .i64 0, .string ⟨#[]⟩, .slice none 0 0] 25)).alloc (by simp; omega) (.cells #[.int .i64 o, .int .i64 n, .string ⟨nm.toArray⟩, .slice none 0 0] 25)
  have hx := (box_b w (.cells #[.int .i64 o, .int .i64 n, .string ⟨nm.toArray⟩, .slice (some ⟨g, off, none⟩) 1 cap] 25) 25 #[.int .i64 0, .int .i64 0, .string ⟨#[]⟩, .slice none 0 0]).alloc (.cells #[.int .i64 o, .int .i64 n, .string ⟨nm.toArray⟩, .slice none 0 0] 25)
  have hy := (box_a w (.cells #[.int .i64 0, .int .i64 0, .string ⟨#[]⟩, .slice none 0 0] 25) 25 #[.int .i64 o, .int .i64 n, .string ⟨nm.toArray⟩, .slice (some ⟨g, off, none⟩) 1 cap]).alloc (.cells #[.int .i64 o, .int .i64 n, .string ⟨nm.toArray⟩, .slice none 0 0] 25)
  have hz := Box.new ((w.alloc (.cells #[.int .i64 o, .int .i64 n, .string ⟨nm.toArray⟩, .slice (some ⟨g, off, none⟩) 1 cap] 25)).alloc (.cells #[.int .i64 0, .int .i64 0, .string ⟨#[]⟩, .slice none 0 0] 25)) 25 #[.int .i64 o, .int .i64 n, .string ⟨nm.toArray⟩, .slice none 0 0]
  have ez : ((w.alloc (.cells #[.int .i64 o, .int .i64 n, .string ⟨nm.toArray⟩, .slice (some ⟨g, off, none⟩) 1 cap] 25)).alloc (.cells #[.int .i64 0, .int .i64 0, .string ⟨#[]⟩, .slice none 0 0] 25)).heap.size = w.heap.size + 1 + 1 := by simp
  rw [ez] at hz
  have hO0 := hO.below hb0 hO.lt
  have hTr := TreeL.keep hb0.size (fun b _ hb => hb0.block b hb) g hg1 hg2 off _ hTL
  rw [TreeL] at hTr
  obtain ⟨⟨ka, kcap, c0, c1, c2, c3, hkt⟩, -⟩ := hTr
  have hE0 := hE.below hb0 (Nat.le_refl _)
  obtain ⟨ea, ecap, rfl, hecap, hek⟩ := hE.form
  have d1 : (o == 1) = false := beq_eq_false_iff_ne.2 h1
  clear hecap hek hE hTL ez hO h1
  generalize env.length = el at *
  go_enter Tryz.func37, Tryz.ntmps37
  go_wp2_with fail
  generalize (((w.alloc (.cells #[.int .i64 o, .int .i64 n, .string ⟨nm.toArray⟩, .slice (some ⟨g, off, none⟩) 1 cap] 25)).alloc (.cells #[.int .i64 0, .int .i64 0, .string ⟨#[]⟩, .slice none 0 0] 25)).alloc (.cells #[.int .i64 o, .int .i64 n, .string ⟨nm.toArray⟩, .slice none 0 0] 25)) = w0 at *
  have hgl : g < w0.heap.size := Nat.lt_of_lt_of_le hg2 hb0.size
  have hyl := hy.lt
  have hxl := hx.lt
  have hzl := hz.lt
  have hd : Below w0.heap.size w0 w0.drew := (Below.refl _ _).drew
  have HI := Lib.hid (IH.out lo _ _ w0.drew (hkt.below hd (Nat.le_refl _)) (hE0.below hd (Nat.le_refl _)) (hO0.below hd hO0.lt))
  unfold exV at HI
  obtain ⟨y0, y1, y2, y3, -, -, -, -⟩ := hy.four
  obtain ⟨z0, z1, z2, z3, fz0, fz1, fz2, fz3⟩ := hz.four
  clear hkt hE0 hO0 IH
  generalize k.op = k0 at *
  generalize k.n = k1 at *
  generalize (⟨k.name.toArray⟩ : ByteArray) = k2 at *
  generalize k.kids.length = k3 at *
  refine wp_loop_rounds 2 ?_
  rw [rounds_succ]
  go_wp2_with fail
  go_region_law
    (first | (rw [if_pos (by simp [Region.wanted])]; go_simp; go_at_call 37; (with_reducible refine HI.out.mono ?_); rintro e w1 ⟨v1, rfl, hT1, hb1⟩; obtain ⟨a1, cp1, rfl, -, -⟩ := hT1.open; unfold exV at hT1 ⊢; have hz1 := hz.drew.below hb1 hzl; have zc1 : w1.cell? ⟨w.heap.size + 1 + 1, 3, none⟩ = some (.slice none 0 0) := hz1.cell 3; have hs1 : w.heap.size + 1 + 1 + 1 ≤ w1.heap.size := hz1.lt; obtain ⟨g', c', w2, hr, ho2, hgr2, -⟩ := run_append_ex t1.op t1.n ⟨t1.name.toArray⟩ a1 t1.kids.length cp1 (World.ownsRow_nil w1 (w.heap.size + 1 + 1 + 1) 25 4) (by omega) hs1; have hz2 := box_grown (hz1.alloc (.cells #[.int .i64 t1.op, .int .i64 t1.n, .string ⟨t1.name.toArray⟩, .slice a1 t1.kids.length cp1] 25)) hgr2 (by intro h; cases h); have zc2 : (w1.alloc (.cells #[.int .i64 t1.op, .int .i64 t1.n, .string ⟨t1.name.toArray⟩, .slice a1 t1.kids.length cp1] 25)).cell? ⟨w.heap.size + 1 + 1, 3, none⟩ = some (.slice none 0 0) := (hz1.alloc _).cell 3; have zc3 : w2.cell? ⟨w.heap.size + 1 + 1, 3, none⟩ = some (.slice none 0 0) := hz2.cell 3; have qz2 := box_frozen hz2 3) | (refine step_append_run (by rfl) _ _ _ _ (by rfl) (by rfl) (by rfl) hr ?_))
  all_goals
    have hw2 : Below w1.heap.size w1 w2 := ((Below.refl w1.heap.size w1).alloc (Nat.le_refl _) (.cells #[.int .i64 t1.op, .int .i64 t1.n, .string ⟨t1.name.toArray⟩, .slice a1 t1.kids.length cp1] 25)).grown hgr2 (by simp) (by intro q hq; cases hq)
    have hB1 : Below w0.heap.size w0 w1 := hd.trans hb1
    have hB02 : Below w0.heap.size w0 w2 := hB1.trans (hw2.mono hB1.size)
    have hBw2 : Below w.heap.size w w2 := hb0.trans (hB02.mono (by omega))
    have hge := own_geN ho2 g' rfl
    obtain ⟨cc, cz, hcell⟩ := Lib.ownsRow_kind ho2 g' rfl
    have hgl2 : g' < w2.heap.size := (Array.getElem?_eq_some_iff.1 hcell).1
    have r0 := ho2.cells (g := g') rfl 0 _ rfl
    have r1 := ho2.cells (g := g') rfl 1 _ rfl
    have r2 := ho2.cells (g := g') rfl 2 _ rfl
    have r3 := ho2.cells (g := g') rfl 3 _ rfl
    have hcc : 1 ≤ c' := own_cap ho2
    simp [Addr.add] at r0 r1 r2 r3
    have HR := Lib.hid (show _ ∧ _ ∧ _ ∧ _ from ⟨r0, r1, r2, r3⟩)
    have HT2 := Lib.hid (hT1.below hw2 (Nat.le_refl _))
    obtain ⟨x0, x1, x2, x3, fx0, fx1, fx2, fx3⟩ := (hx.below hB02 hxl).four
    obtain ⟨u0, u1, u2, u3, fu0, fu1, fu2, fu3⟩ := hz2.four
    obtain ⟨v0, v1, v2, v3, -, -, -, -⟩ := (hy.below hB02 hyl).four
    have hxl2 := (hx.below hB02 hxl).lt
    have hzl2 := hz2.lt
    have hyl2 := (hy.below hB02 hyl).lt
    clear r0 r1 r2 r3 hcell ho2 hgr2 hr hT1 hb1 hz1 hz2 zc1 zc2 zc3 qz2 hx hy hz HI y0 y1 y2 y3 z0 z1 z2 z3 fz0 fz1 fz2 fz3 c0 c1 c2 c3
    go_wp2_with fail
    rw [rounds_succ]
    go_wp2
    refine bodyPost_ret (v := exV o n nm (some ⟨g', 0, none⟩) 1 c') (by simp [results, Tryz.results37, go_sem, exV, x0, x1, x2, x3]) rfl ⟨_, rfl, ?_, below_set4 (hBw2.setCell (p := ⟨w.heap.size + 1 + 1, 3, none⟩) (by show w.heap.size ≤ w.heap.size + 1 + 1; omega) _) (by omega) _ _ _ _⟩
    have hkeep : ∀ q, q ≠ w.heap.size + 1 → q ≠ w.heap.size + 1 + 1 → (((((w2.setCell ⟨w.heap.size + 1 + 1, 3, none⟩ (.slice (some ⟨g', 0, none⟩) 1 c')).setCell ⟨w.heap.size + 1, 0, none⟩ (.int .i64 o)).setCell ⟨w.heap.size + 1, 1, none⟩ (.int .i64 n)).setCell ⟨w.heap.size + 1, 2, none⟩ (.string ⟨nm.toArray⟩)).setCell ⟨w.heap.size + 1, 3, none⟩ (.slice (some ⟨g', 0, none⟩) 1 c')).heap[q]? = w2.heap[q]? := fun q h1 h2 => (block4 _ _ _ _ _ _ _ h1).trans (Below.heap_setCell _ _ _ _ h2)
    have hcl : ∀ q, (((((w2.setCell ⟨w.heap.size + 1 + 1, 3, none⟩ (.slice (some ⟨g', 0, none⟩) 1 c')).setCell ⟨w.heap.size + 1, 0, none⟩ (.int .i64 o)).setCell ⟨w.heap.size + 1, 1, none⟩ (.int .i64 n)).setCell ⟨w.heap.size + 1, 2, none⟩ (.string ⟨nm.toArray⟩)).setCell ⟨w.heap.size + 1, 3, none⟩ (.slice (some ⟨g', 0, none⟩) 1 c')).cell? ⟨g', q, none⟩ = w2.cell? ⟨g', q, none⟩ := fun q => World.cell?_of_block (w := w2) (hkeep g' (by omega) (by omega))
    have hs0 : w.heap.size + 1 + 1 < w0.heap.size := hzl
    have hsd : w0.drew.heap.size = w0.heap.size := rfl
    refine tree_row1 hcc (by show w.heap.size ≤ g'; omega) (by rw [size4]; simp [World.setCell]; exact hgl2) ((hcl 0).trans HR.out.1) ((hcl 1).trans HR.out.2.1) ((hcl 2).trans HR.out.2.2.1) ((hcl 3).trans HR.out.2.2.2) ?_
    exact TreeV.low (fun q hq => by have : w0.heap.size ≤ q := hq; show w.heap.size ≤ q; omega) _ _ (TreeV.keep (by rw [size4]; simp [World.setCell]) (fun q hq _ => hkeep q (by have : w0.heap.size ≤ q := hq; omega) (by have : w0.heap.size ≤ q := hq; omega)) _ _ HT2.out)
end Go.Proofs.YtinocaggponpmaaGreatDoor.Ep
