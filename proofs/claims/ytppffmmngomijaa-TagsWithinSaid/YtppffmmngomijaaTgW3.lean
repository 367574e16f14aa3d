/-
  Contracts of slices.Clone at integers and at booleans, of lists.set, draft.store, change, Latch and Drive.
-/
import Derived.Test.YtppffmmngomijaaTgR2
namespace Go.Proofs.Ytppffmmngomijaa.Tg
open Go.RowKit Lx

theorem flat_num (l : List Int) : l.flatMap numC = l.map (Value.int .i64) := by induction l with | nil => rfl | cons a r ih => simp [numC, ih]
theorem flat_flag (l : List Bool) : l.flatMap flagC = l.map Value.bool := by induction l with | nil => rfl | cons a r ih => simp [flagC, ih]
theorem own_empty (t : TypeId) (w : World) (fr : World) (h : fr = w.alloc (.cells #[] t)) : fr.ownsRow w.heap.size t 1 (.slice (some ⟨w.heap.size, 0, none⟩) 0 0) 0 [] := by
  subst h
  exact ⟨rfl, .inr ⟨w.heap.size, 0, #[], rfl, Nat.le_refl _, heap_alloc_new w _, Nat.le_refl _, by unfold maxLen; omega, rfl, rfl⟩⟩

set_option maxRecDepth 100000 in
set_option maxHeartbeats 1000000 in
theorem cloneI_any (A : Option Addr) (l : List Int) (c : Nat) (w : World) (hl : Nums w A l) (hs : l.length ≤ 1000000) :
    Calls Try.prog 43 #[.slice A l.length c] w fun e w' => ∃ A' c', e = .returned (.slice A' l.length c') ∧ w'.ownsRow w.heap.size 3 1 (.slice A' l.length c') l.length (l.flatMap numC) ∧ Below w.heap.size w w' := by
  rcases A with _ | ad
  · have h0 : l = [] := by
      rcases l with _ | ⟨b, t⟩
      · rfl
      · obtain ⟨_, _, h, _⟩ := hl (by simp)
        cases h
    subst h0
    have hnil : ∀ w : World, (binOp .eql 25 (.slice none 0 c) (.slice none 0 0)).run Try.prog w = .ok (.bool true) w := fun w => Lib.run_eql_slice_nil (P := Try.prog) w 25 3 none 0 c 0 0 Try.underlying25
    go_enter Try.func43, Try.ntmps43
    go_wp2
    go_ret
    exact ⟨none, 0, rfl, World.ownsRow_nil _ _ _ _, Below.refl _ _⟩
  · have hnil : ∀ w : World, (binOp .eql 25 (.slice (some ad) l.length c) (.slice none 0 0)).run Try.prog w = .ok (.bool false) w := fun w => Lib.run_eql_slice_nil (P := Try.prog) w 25 3 (some ad) l.length c 0 0 Try.underlying25
    obtain ⟨A', c', w1, hr, hown, hgr⟩ := run_append_all (f := numC) Try.underlying25 info_int rfl (by omega) (fun _ => rfl) (by intro a u hu; simp [numC] at hu; subst hu; rfl) (own_empty 3 w _ rfl) (hl.alloc (.cells #[] 3)) c hs (by simp)
    go_enter Try.func43, Try.ntmps43
    go_wp2_with (at_builtin; refine wpList_append_run rfl (.tmp 5) (.tmp 6) _ _ rfl rfl rfl hr ?_)
    go_ret
    exact ⟨A', c', rfl, hown, ((Below.refl _ w).alloc (Nat.le_refl _) _).grown hgr (by simp) (fun k hk => by simp [Value.ownBlock] at hk; omega)⟩

set_option maxRecDepth 100000 in
set_option maxHeartbeats 1000000 in
theorem cloneB_any (A : Option Addr) (l : List Bool) (c : Nat) (w : World) (hl : Flags w A l) (hs : l.length ≤ 1000000) :
    Calls Try.prog 44 #[.slice A l.length c] w fun e w' => ∃ A' c', e = .returned (.slice A' l.length c') ∧ w'.ownsRow w.heap.size 4 1 (.slice A' l.length c') l.length (l.flatMap flagC) ∧ Below w.heap.size w w' := by
  rcases A with _ | ad
  · have h0 : l = [] := by
      rcases l with _ | ⟨b, t⟩
      · rfl
      · obtain ⟨_, _, h, _⟩ := hl (by simp)
        cases h
    subst h0
    have hnil : ∀ w : World, (binOp .eql 26 (.slice none 0 c) (.slice none 0 0)).run Try.prog w = .ok (.bool true) w := fun w => Lib.run_eql_slice_nil (P := Try.prog) w 26 4 none 0 c 0 0 Try.underlying26
    go_enter Try.func44, Try.ntmps44
    go_wp2
    go_ret
    exact ⟨none, 0, rfl, World.ownsRow_nil _ _ _ _, Below.refl _ _⟩
  · have hnil : ∀ w : World, (binOp .eql 26 (.slice (some ad) l.length c) (.slice none 0 0)).run Try.prog w = .ok (.bool false) w := fun w => Lib.run_eql_slice_nil (P := Try.prog) w 26 4 (some ad) l.length c 0 0 Try.underlying26
    obtain ⟨A', c', w1, hr, hown, hgr⟩ := run_append_all (f := flagC) Try.underlying26 info_bool rfl (by omega) (fun _ => rfl) (by intro a u hu; simp [flagC] at hu; subst hu; rfl) (own_empty 4 w _ rfl) (hl.alloc (.cells #[] 4)) c hs (by simp)
    go_enter Try.func44, Try.ntmps44
    go_wp2_with (at_builtin; refine wpList_append_run rfl (.tmp 5) (.tmp 6) _ _ rfl rfl rfl hr ?_)
    go_ret
    exact ⟨A', c', rfl, hown, ((Below.refl _ w).alloc (Nat.le_refl _) _).grown hgr (by simp) (fun k hk => by simp [Value.ownBlock] at hk; omega)⟩

/-- Nothing has turned but for the blocks of a set. -/
structure Fr (S : Nat → Prop) (w w' : World) : Prop where
  os : w'.os = w.os
  tape : w'.tape = w.tape
  output : w'.output = w.output
  size : w.heap.size ≤ w'.heap.size
  block : ∀ k, k < w.heap.size → ¬ S k → w'.heap[k]? = w.heap[k]?
section
variable {S T : Nat → Prop} {w w' w1 w2 : World}
theorem Fr.refl (S : Nat → Prop) (w : World) : Fr S w w := ⟨rfl, rfl, rfl, Nat.le_refl _, fun _ _ _ => rfl⟩
theorem Fr.trans (h : Fr S w w1) (k : Fr S w1 w2) : Fr S w w2 :=
  ⟨k.os.trans h.os, k.tape.trans h.tape, k.output.trans h.output, Nat.le_trans h.size k.size, fun i hi hs => (k.block i (Nat.lt_of_lt_of_le hi h.size) hs).trans (h.block i hi hs)⟩
theorem Fr.mono (h : Fr S w w1) (k : ∀ b, S b → T b) : Fr T w w1 := ⟨h.os, h.tape, h.output, h.size, fun i hi hs => h.block i hi fun x => hs (k i x)⟩
theorem Fr.of_below (h : Below w.heap.size w w1) : Fr S w w1 := ⟨h.os, h.tape, h.output, h.size, fun i hi _ => h.block i hi⟩
theorem Fr.below {B : Nat} (h : Fr S w w1) (hB : B ≤ w.heap.size) (hS : ∀ b, S b → B ≤ b) : Below B w w1 :=
  ⟨h.os, h.tape, h.output, h.size, fun i hi => h.block i (Nat.lt_of_lt_of_le hi hB) fun x => by have := hS i x; omega⟩
theorem Fr.set_ (h : Fr S w w1) {p : Addr} (hp : S p.block) (u : Value) : Fr S w (w1.setCell p u) :=
  h.trans ⟨rfl, rfl, rfl, by simp [World.setCell], fun k _ hk => Below.heap_setCell _ _ _ _ fun e => hk (e ▸ hp)⟩
theorem Fr.alloc (h : Fr S w w1) (o : Obj) : Fr S w (w1.alloc o) := h.trans ⟨rfl, rfl, rfl, by simp, fun k hk _ => Below.heap_alloc _ _ _ hk⟩
theorem Fr.drew (h : Fr S w w1) : Fr S w w1.drew := ⟨h.os, h.tape, h.output, h.size, h.block⟩
theorem Fr.drewN (h : Fr S w w1) (n : Nat) : Fr S w (w1.drewN n) := ⟨h.os, h.tape, h.output, h.size, h.block⟩
theorem Box.fr {g : Nat} {t : TypeId} {cs : Array Value} (h : Box w g t cs) (k : Fr S w w') (hg : ¬ S g) : Box w' g t cs := (k.block g h.lt hg).trans h
end
/-- The blocks of two rows. -/
def Bk (A B : Option Addr) (k : Nat) : Prop := A = some ⟨k, 0, none⟩ ∨ B = some ⟨k, 0, none⟩
/-- An image of one's own. -/
def OwnIm (base : Nat) (w : World) (im : Im) (A : Option Addr) (c : Nat) (B : Option Addr) (d : Nat) : Prop :=
  w.ownsRow base 3 1 (.slice A im.v.length c) im.v.length (im.v.flatMap numC) ∧ w.ownsRow base 4 1 (.slice B im.bad.length d) im.bad.length (im.bad.flatMap flagC)
theorem OwnIm.below {base : Nat} {w w' : World} {im : Im} {A B : Option Addr} {c d : Nat} (h : OwnIm base w im A c B d) (hb : Below w.heap.size w w') : OwnIm base w' im A c B d := ⟨own_keep h.1 hb, own_keep h.2 hb⟩
theorem OwnIm.nums {base : Nat} {w : World} {im : Im} {A B : Option Addr} {c d : Nat} (h : OwnIm base w im A c B d) : Nums w A im.v := RowF.of_own (fun _ => rfl) h.1 rfl
theorem OwnIm.flags {base : Nat} {w : World} {im : Im} {A B : Option Addr} {c d : Nat} (h : OwnIm base w im A c B d) : Flags w B im.bad := RowF.of_own (fun _ => rfl) h.2 rfl

theorem box_at {w : World} {N : Nat} {t : TypeId} {cs : Array Value} (h : w.heap.size = N) : Box (w.alloc (.cells cs t)) N t cs := h ▸ Box.new w t cs
theorem own_put {base : Nat} {w : World} {im : Im} {c d g g2 i : Nat} (h : OwnIm base w im (some ⟨g, 0, none⟩) c (some ⟨g2, 0, none⟩) d) (_hi : i < im.v.length) (_hi2 : i < im.bad.length) (n : Int) (b : Bool) :
    OwnIm base ((w.setCell ⟨g, i, none⟩ (.int .i64 n)).setCell ⟨g2, i, none⟩ (.bool b)) (im.put i n b) (some ⟨g, 0, none⟩) c (some ⟨g2, 0, none⟩) d ∧ Fr (Bk (some ⟨g, 0, none⟩) (some ⟨g2, 0, none⟩)) w ((w.setCell ⟨g, i, none⟩ (.int .i64 n)).setCell ⟨g2, i, none⟩ (.bool b)) := by
  have hne := own_types h.1 h.2 (by decide)
  obtain ⟨h1, k1⟩ := h.1.stored i (.int .i64 n)
  have h2 := h.2.kept k1 (.inr (by simpa [Value.ownBlock, eq_comm] using hne))
  obtain ⟨h3, k3⟩ := h2.stored i (.bool b)
  have h4 := h1.kept k3 (.inr (by simpa [Value.ownBlock] using hne))
  refine ⟨⟨?_, ?_⟩, (((Fr.refl _ w).set_ (p := ⟨g, i, none⟩) (Or.inl rfl) _).set_ (p := ⟨g2, i, none⟩) (Or.inr rfl) _)⟩
  · show World.ownsRow _ base 3 1 (.slice _ (im.v.set i n).length c) (im.v.set i n).length ((im.v.set i n).flatMap numC)
    rw [List.length_set, flat_num, List.map_set, ← flat_num]
    exact h4
  · show World.ownsRow _ base 4 1 (.slice _ (im.bad.set i b).length d) (im.bad.set i b).length ((im.bad.set i b).flatMap flagC)
    rw [List.length_set, flat_flag, List.map_set, ← flat_flag]
    exact h3

set_option maxRecDepth 100000 in
set_option maxHeartbeats 2000000 in
theorem set_any (base : Nat) (im : Im) (A B : Option Addr) (c d i : Nat) (n : Int) (b : Bool) (w : World) (h : OwnIm base w im A c B d) (hi : i < im.v.length) (hi2 : i < im.bad.length) (hn : im.v.length ≤ 1000000) (hm : im.bad.length ≤ 1000000) :
    Calls Try.prog 47 #[.agg #[.slice A im.v.length c, .slice B im.bad.length d], .int .i64 (i : Int), .int .i64 n, .bool b] w fun e w' => e = .returned (.tuple #[]) ∧ OwnIm base w' (im.put i n b) A c B d ∧ Fr (Bk A B) w w' := by
  obtain ⟨g, cg, hv, hbg, hgl⟩ := h.1.form (by omega)
  obtain ⟨g2, cg2, hv2, hbg2, hgl2⟩ := h.2.form (by omega)
  injection hv with hA _ hc
  injection hv2 with hB _ hd
  subst hA; subst hB
  have hne : g ≠ g2 := by
    have := own_types h.1 h.2 (by decide)
    simpa [Value.ownBlock] using this
  have hlt := h.1.lt g rfl
  have hlt2 := h.2.lt g2 rfl
  have hz1 : w.cell? ⟨g, i, none⟩ = some (.int .i64 im.v[i]) := by
    rw [h.1.cellAt i (by omega), flat_num]
    simp [hi]
  have hz2 : w.cell? ⟨g2, i, none⟩ = some (.bool im.bad[i]) := by
    rw [h.2.cellAt i (by omega), flat_flag]
    simp [hi2]
  have hf1 := h.1.frozenAt i
  have hf2 := h.2.frozenAt i
  have HI := Lib.hid h
  clear h
  generalize im.v[i] = x0 at *
  generalize im.bad[i] = y0 at *
  subst hc; subst hd
  generalize hN : im.v.length = n1 at *
  generalize hM : im.bad.length = m1 at *
  have HN := Lib.hid hN
  have HM := Lib.hid hM
  clear hN hM
  have hg0 : g ≠ w.heap.size := by omega
  have hg20 : g2 ≠ w.heap.size := by omega
  have hi1' : ((i : Nat) : Int) < (n1 : Int) := by omega
  have hi2' : ((i : Nat) : Int) < (m1 : Int) := by omega
  have cd : (w.alloc (.cells #[.slice (some ⟨g, 0, none⟩) n1 c, .slice (some ⟨g2, 0, none⟩) m1 d] 69)).drew.cell? ⟨w.heap.size, 0, none⟩ = some (.slice (some ⟨g, 0, none⟩) n1 c) ∧ (w.alloc (.cells #[.slice (some ⟨g, 0, none⟩) n1 c, .slice (some ⟨g2, 0, none⟩) m1 d] 69)).drew.cell? ⟨w.heap.size, 1, none⟩ = some (.slice (some ⟨g2, 0, none⟩) m1 d) := ⟨(Box.new w _ _).cell 0, (Box.new w _ _).cell 1⟩
  go_enter Try.func47, Try.ntmps47
  go_wp2_with fail
  refine region_start (S := fun w' => w'.cell? ⟨w.heap.size, 0, none⟩ = some (.slice (some ⟨g, 0, none⟩) n1 c) ∧ w'.cell? ⟨w.heap.size, 1, none⟩ = some (.slice (some ⟨g2, 0, none⟩) m1 d)) (n := 12) (lit := #[false, false, false, false, false, false, false, false, false, false, false, false]) rfl rfl (by kernel_rfl) cd fun hS => ?_
  refine tk (i := 0) (v := ?vb0) rfl (by kernel_rfl) (by kernel_rfl) (by kernel_rfl) (fun _ _ _ h => h) (by kernel_rfl) ?hb0 hS ?_
  case hb0 => intro w hSw; (try dsimp only at hSw); go_simp; try with_reducible rfl
  try simp only [Act.put, List.setIfInBounds_toArray, List.set_cons_zero, List.set_cons_succ]
  refine tk (i := 1) (v := ?vb1) rfl (by kernel_rfl) (by kernel_rfl) (by kernel_rfl) (fun _ _ _ h => h) (by kernel_rfl) ?hb1 hS ?_
  case hb1 => intro w hSw; (try dsimp only at hSw); go_simp; try with_reducible rfl
  try simp only [Act.put, List.setIfInBounds_toArray, List.set_cons_zero, List.set_cons_succ]
  refine tk (i := 2) (v := ?vb2) rfl (by kernel_rfl) (by kernel_rfl) (by kernel_rfl) (fun _ _ _ h => h) (by kernel_rfl) ?hb2 hS ?_
  case hb2 => intro w hSw; (try dsimp only at hSw); go_simp; try with_reducible rfl
  try simp only [Act.put, List.setIfInBounds_toArray, List.set_cons_zero, List.set_cons_succ]
  refine tk (i := 3) (v := ?vb3) rfl (by kernel_rfl) (by kernel_rfl) (by kernel_rfl) (fun _ _ _ h => h) (by kernel_rfl) ?hb3 hS ?_
  case hb3 => intro w hSw; (try dsimp only at hSw); go_simp; try with_reducible rfl
  try simp only [Act.put, List.setIfInBounds_toArray, List.set_cons_zero, List.set_cons_succ]
  refine tk (i := 4) (v := ?vb4) rfl (by kernel_rfl) (by kernel_rfl) (by kernel_rfl) (fun _ _ _ h => h) (by kernel_rfl) ?hb4 hS ?_
  case hb4 => intro w hSw; (try dsimp only at hSw); go_simp; try with_reducible rfl
  try simp only [Act.put, List.setIfInBounds_toArray, List.set_cons_zero, List.set_cons_succ]
  refine tk (i := 5) (v := ?vb5) rfl (by kernel_rfl) (by kernel_rfl) (by kernel_rfl) (fun _ _ _ h => h) (by kernel_rfl) ?hb5 hS ?_
  case hb5 => intro w hSw; (try dsimp only at hSw); go_simp; try with_reducible rfl
  try simp only [Act.put, List.setIfInBounds_toArray, List.set_cons_zero, List.set_cons_succ]
  refine tk (i := 6) (v := ?vb6) rfl (by kernel_rfl) (by kernel_rfl) (by kernel_rfl) (fun _ _ _ h => h) (by kernel_rfl) ?hb6 hS ?_
  case hb6 => intro w hSw; (try dsimp only at hSw); go_simp; try with_reducible rfl
  try simp only [Act.put, List.setIfInBounds_toArray, List.set_cons_zero, List.set_cons_succ]
  refine tk (i := 7) (v := ?vb7) rfl (by kernel_rfl) (by kernel_rfl) (by kernel_rfl) (fun _ _ _ h => h) (by kernel_rfl) ?hb7 hS ?_
  case hb7 => intro w hSw; (try dsimp only at hSw); go_simp; try with_reducible rfl
  try simp only [Act.put, List.setIfInBounds_toArray, List.set_cons_zero, List.set_cons_succ]
  refine tk (i := 8) (v := ?vb8) rfl (by kernel_rfl) (by kernel_rfl) (by kernel_rfl) (fun _ _ _ h => h) (by kernel_rfl) ?hb8 hS ?_
  case hb8 => intro w hSw; (try dsimp only at hSw); go_simp; try with_reducible rfl
  try simp only [Act.put, List.setIfInBounds_toArray, List.set_cons_zero, List.set_cons_succ]
  refine wpAnyH_ready (rs := [9]) (by kernel_rfl) (by simp) ?_
  refine AllReadyH.cons rfl (fun K hK => ?_) AllReadyH.nil
  go_simp
  have bx2 := box_at (t := 69) (cs := #[.slice (some ⟨g, 0, none⟩) n1 c, .slice (some ⟨g2, 0, none⟩) m1 d]) (show (w.setCell ⟨g, i, none⟩ (.int .i64 n)).heap.size = w.heap.size by simp)
  have bx3 := box_at (t := 69) (cs := #[.slice (some ⟨g, 0, none⟩) n1 c, .slice (some ⟨g2, 0, none⟩) m1 d]) (show ((w.setCell ⟨g, i, none⟩ (.int .i64 n)).setCell ⟨g2, i, none⟩ (.bool b)).heap.size = w.heap.size by simp)
  refine hK.out _ _ ⟨bx2.drew.cell 0, bx2.drew.cell 1⟩ (fun hS2 => ?_)
  clear hK K
  refine tk (i := 10) (v := ?vb10) rfl (by kernel_rfl) (by kernel_rfl) (by kernel_rfl) (fun _ _ _ h => h) (by kernel_rfl) ?hb10 hS2 ?_
  case hb10 => intro w hSw; (try dsimp only at hSw); go_simp; try with_reducible rfl
  try simp only [Act.put, List.setIfInBounds_toArray, List.set_cons_zero, List.set_cons_succ]
  refine wpAnyH_ready (rs := [11]) (by kernel_rfl) (by simp) ?_
  refine AllReadyH.cons rfl (fun K hK => ?_) AllReadyH.nil
  go_simp
  refine hK.out _ _ ⟨bx3.drew.cell 0, bx3.drew.cell 1⟩ (fun hS3 => ?_)
  clear hK K
  refine wpAnyH_done (by kernel_rfl) ?_ _
  go_end0
  have hp := own_put HI.out (by rw [HN.out]; exact hi) (by rw [HM.out]; exact hi2) n b
  refine ⟨rfl, hp.1.below (below_drew ((Below.refl _ _).alloc (Nat.le_refl _) _)), (hp.2.alloc _).drew⟩
end Go.Proofs.Ytppffmmngomijaa.Tg
