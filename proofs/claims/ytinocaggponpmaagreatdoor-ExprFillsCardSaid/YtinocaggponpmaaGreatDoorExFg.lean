/-
  Plainly: a tree that is filled. No Go here.
  The program's constant and fillLeaf.
  The program's fill.
-/
import Derived.Test.YtinocaggponpmaaGreatDoorExC
import Derived.Test.YtinocaggponpmaaGreatDoorExR5
import Derived.Test.YtinocaggponpmaaGreatDoorExSame
namespace Go.Proofs.YtinocaggponpmaaGreatDoor.Ep
open Lx

def numE (n : Int) : Ex := .mk 0 n [] []
/-- A number's tree. -/
def constE (n : Int) : Ex := if 0 ≤ n then numE n else if n = -9223372036854775808 then .mk 5 0 [] [.mk 2 0 [] [numE 9223372036854775807], numE 1] else .mk 2 0 [] [numE (-n)]
mutual
def fillE (env : List (List UInt8 × Int)) : Ex → Ex
  | .mk op n nm ks => if op = 1 then (match findC env nm with | some z => constE z | none => .mk op n nm (fillL env ks)) else .mk op n nm (fillL env ks)
def fillL (env : List (List UInt8 × Int)) : List Ex → List Ex
  | [] => []
  | k :: ks => fillE env k :: fillL env ks
end
theorem fillL_map (env : List (List UInt8 × Int)) : ∀ ks, fillL env ks = ks.map (fillE env)
  | [] => by rw [fillL]; rfl
  | k :: ks => by rw [fillL, fillL_map env ks]; rfl
mutual
/-- None of its names is in env. -/
def freeE (env : List (List UInt8 × Int)) : Ex → Prop
  | .mk op _ nm ks => (op = 1 → findC env nm = none) ∧ freeL env ks
def freeL (env : List (List UInt8 × Int)) : List Ex → Prop
  | [] => True
  | k :: ks => freeE env k ∧ freeL env ks
end
theorem freeL_all (env : List (List UInt8 × Int)) : ∀ (ks : List Ex), freeL env ks ↔ ∀ k ∈ ks, freeE env k
  | [] => by simp [freeL]
  | k :: ks => by rw [freeL, freeL_all env ks]; simp

theorem num_good {n : Int} (h0 : 0 ≤ n) (h1 : n ≤ 9223372036854775807) : goodE (numE n) := by
  unfold numE
  rw [goodE]
  refine ⟨?_, by omega, by rw [goodL]; trivial⟩
  simp [formedB, inT, opK, opAt, opsT, h0]
theorem neg_good {t : Ex} (h : goodE t) : goodE (.mk 2 0 [] [t]) := by
  rw [goodE, goodL, goodL]
  exact ⟨by show formedB 2 0 [] 1 = true; decide, by omega, h, trivial⟩
theorem const_good {n : Int} (h0 : -9223372036854775808 ≤ n) (h1 : n ≤ 9223372036854775807) : goodE (constE n) := by
  unfold constE
  split
  · exact num_good (by omega) h1
  · split
    · rw [goodE, goodL, goodL, goodL]
      exact ⟨by show formedB 5 0 [] 2 = true; decide, by omega, neg_good (num_good (by omega) (by omega)), num_good (by omega) (by omega), trivial⟩
    · exact neg_good (num_good (by omega) (by omega))
theorem num_val (env : List (List UInt8 × Int)) (n : Int) : valE env (numE n) = (n, 0) := by
  unfold numE
  rw [valE_0 _ _ _ _ _ (by decide)]
  rfl
theorem neg_val (env : List (List UInt8 × Int)) {n : Int} (h0 : -9223372036854775807 ≤ n) (h1 : n ≤ 9223372036854775807) : valE env (.mk 2 0 [] [numE n]) = (-n, 0) := by
  rw [valE_1 _ _ _ _ _ (by decide), num_val]
  simp only [if_true]
  show chk (-n) = _
  exact chk_in (by omega)
theorem const_val (env : List (List UInt8 × Int)) {n : Int} (h0 : -9223372036854775808 ≤ n) (h1 : n ≤ 9223372036854775807) : valE env (constE n) = (n, 0) := by
  unfold constE
  split
  · exact num_val env n
  · split
    · rename_i h
      rw [valE_2 _ _ _ _ _ _ (by decide), neg_val env (by omega) (by omega), num_val, h]
      rfl
    · rw [neg_val env (by omega) (by omega)]
      congr 1
      omega
theorem const_free (env : List (List UInt8 × Int)) (n : Int) : freeE env (constE n) := by
  unfold constE numE
  split
  · simp [freeE, freeL]
  · split <;> simp [freeE, freeL]

def numsC (env : List (List UInt8 × Int)) : Prop := ∀ c ∈ env, -9223372036854775808 ≤ c.2 ∧ c.2 ≤ 9223372036854775807
theorem fill_good (env : List (List UInt8 × Int)) (hN : numsC env) (t : Ex) : goodE t → goodE (fillE env t) := by
  induction t using Ex.ind with
  | h op n nm ks ih =>
    intro hg
    rw [goodE] at hg
    have hrest : goodE (.mk op n nm (fillL env ks)) := by
      rw [goodE, fillL_map]
      refine ⟨by rw [List.length_map]; exact hg.1, hg.2.1, (goodL_all _).2 fun k hk => ?_⟩
      obtain ⟨k', hk', rfl⟩ := List.mem_map.1 hk
      exact ih k' hk' ((goodL_all _).1 hg.2.2 k' hk')
    rw [fillE]
    split
    · split
      · rename_i z hz
        obtain ⟨c, hc, rfl⟩ := findC_mem env nm z hz
        exact const_good (hN c hc).1 (hN c hc).2
      · exact hrest
    · exact hrest
theorem fill_free (env : List (List UInt8 × Int)) (t : Ex) : freeE env (fillE env t) := by
  induction t using Ex.ind with
  | h op n nm ks ih =>
    have hrest : freeL env (fillL env ks) := by
      rw [fillL_map, freeL_all]
      intro k hk
      obtain ⟨k', hk', rfl⟩ := List.mem_map.1 hk
      exact ih k' hk'
    rw [fillE]
    split
    · split
      · exact const_free env _
      · rename_i hz
        rw [freeE]
        exact ⟨fun _ => hz, hrest⟩
    · rename_i h
      rw [freeE]
      exact ⟨fun h' => absurd h' h, hrest⟩
theorem fill_val (env : List (List UInt8 × Int)) (hN : numsC env) (t : Ex) : goodE t → valE env (fillE env t) = valE env t := by
  induction t using Ex.ind with
  | h op n nm ks ih =>
    intro hg
    rw [goodE] at hg
    have hin := (formed_true hg.1).1
    rcases opK_012 hin with h | h | h
    · have hks := kids_0 hg.1 h
      subst hks
      rw [fillE]
      split
      · rename_i h1
        subst h1
        split
        · rename_i z hz
          obtain ⟨c, hc, rfl⟩ := findC_mem env nm z hz
          rw [const_val env (hN c hc).1 (hN c hc).2, valE_0 _ _ _ _ _ h]
          unfold leafZ
          rw [if_neg (by decide), hz]
        · rw [fillL]
      · rw [fillL]
    · obtain ⟨k, rfl⟩ := kids_1 hg.1 h
      have h1 : op ≠ 1 := by rintro rfl; exact absurd h (by decide)
      have hgl := hg.2.2
      rw [goodL] at hgl
      rw [fillE, if_neg h1, fillL, fillL, valE_1 _ _ _ _ _ h, valE_1 _ _ _ _ _ h, ih k (by simp) hgl.1]
    · obtain ⟨k, l, rfl⟩ := kids_2 hg.1 h
      have h1 : op ≠ 1 := by rintro rfl; exact absurd h (by decide)
      have hgl := hg.2.2
      rw [goodL, goodL] at hgl
      rw [fillE, if_neg h1, fillL, fillL, fillL, valE_2 _ _ _ _ _ _ h, valE_2 _ _ _ _ _ _ h, ih k (by simp) hgl.1, ih l (by simp) hgl.2.1]
/-- What Fill comes to: a tree, or an error. -/
def fillP (env : List (List UInt8 × Int)) (t : Ex) : Option Ex × Int := if mayB t = true then (if mayB (fillE env t) = true then (some (fillE env t), 0) else (none, 2)) else (none, 1)
theorem fill_eval (env : List (List UInt8 × Int)) (hN : numsC env) (t : Ex) (ht : numsE t) (h : mayB t = true) (h2 : mayB (fillE env t) = true) : evalE env (fillE env t) = evalE env t := by
  unfold evalE
  rw [if_pos h, if_pos h2, fill_val env hN t (may_good h ht)]
end Go.Proofs.YtinocaggponpmaaGreatDoor.Ep

namespace Go.Proofs.YtinocaggponpmaaGreatDoor.Ep
open Go.RowKit Lx

/-- A tree in blocks of its own. -/
def FlP (t : Ex) (w : World) (e : Ending) (w' : World) : Prop := ∃ v, e = .returned v ∧ TreeV (fun k => w.heap.size ≤ k) w' t v ∧ Below w.heap.size w w'
set_option maxRecDepth 100000 in
set_option maxHeartbeats 2000000 in
theorem const_pos (n : Int) (w : World) (h0 : 0 ≤ n) (_h1 : n ≤ 9223372036854775807) : Calls Tryz.prog 96 #[.int .i64 n] w (FlP (numE n) w) := by
  have d0 : decide (0 ≤ n) = true := by simpa using h0
  go_enter Tryz.func96, Tryz.ntmps96
  go_wp2_with fail
  refine (num_any n _).mono ?_
  rintro e w1 ⟨rfl, hb⟩
  have hbw := below_new hb
  have hx := (Box.new w 25 #[.int .i64 0, .int .i64 0, .string ⟨#[]⟩, .slice none 0 0]).below hb (by simp)
  obtain ⟨c0, c1, c2, c3, f0, f1, f2, f3⟩ := hx.four
  have hxl := hx.lt
  clear hx hb
  unfold exV
  go_wp2
  exact bodyPost_ret (v := exV 0 n [] none 0 0) (by simp [results, Tryz.results96, go_sem, exV, c0, c1, c2, c3]) rfl ⟨_, rfl, tree_leaf _ _ _ _ _, below_set4 hbw (Nat.le_refl _) _ _ _ _⟩
set_option maxRecDepth 100000 in
set_option maxHeartbeats 2000000 in
theorem const_neg (n : Int) (w : World) (h0 : n < 0) (h1 : -9223372036854775807 ≤ n) : Calls Tryz.prog 96 #[.int .i64 n] w (FlP (.mk 2 0 [] [numE (-n)]) w) := by
  have d0 : decide (0 ≤ n) = false := by simpa using h0
  have d1 : (n == -9223372036854775808) = false := beq_eq_false_iff_ne.2 (by omega)
  have hneg : IntKind.i64.wrap (-n) = -n := IntWalk.i64_in _ (by omega)
  go_enter Tryz.func96, Tryz.ntmps96
  go_wp2_with fail
  refine (num_any (-n) _).mono ?_
  rintro e w1 ⟨rfl, hb⟩
  have hbw := below_new hb
  have hx := (Box.new w 25 #[.int .i64 0, .int .i64 0, .string ⟨#[]⟩, .slice none 0 0]).below hb (by simp)
  have hxl := hx.lt
  unfold exV
  go_wp2_with fail
  refine (node_any _ _ _ _ _).mono ?_
  rintro e w2 ⟨rfl, hb2⟩
  have hrow := (Box.new w1 25 #[.int .i64 0, .int .i64 (-n), .string ⟨#[]⟩, .slice none 0 0]).below hb2 (by simp)
  have hx2 := (hx.alloc (.cells #[.int .i64 0, .int .i64 (-n), .string ⟨#[]⟩, .slice none 0 0] 25)).below hb2 (by simp; omega)
  have hB2 : Below w.heap.size w w2 := (hbw.alloc hbw.size _).trans (hb2.mono (by have := hbw.size; simp; omega))
  obtain ⟨c0, c1, c2, c3, f0, f1, f2, f3⟩ := hx2.four
  have hxl2 := hx2.lt
  clear hx hb hb2 hx2
  unfold exV
  go_wp2
  refine bodyPost_ret (v := exV 2 0 [] (some ⟨w1.heap.size, 0, none⟩) 1 1) (by simp [results, Tryz.results96, go_sem, exV, c0, c1, c2, c3]) rfl ⟨_, rfl, ?_, below_set4 hB2 (Nat.le_refl _) _ _ _ _⟩
  have hr := hrow.off4 (q := w.heap.size) (by omega) (.int .i64 2) (.int .i64 0) (.string ⟨#[]⟩) (.slice (some ⟨w1.heap.size, 0, none⟩) 1 1)
  exact tree_one (k := numE (-n)) hr (tree_leaf _ _ _ _ _) (by show w.heap.size ≤ w1.heap.size; omega) 2
set_option maxRecDepth 100000 in
set_option maxHeartbeats 2000000 in
theorem const_min (w : World) : Calls Tryz.prog 96 #[.int .i64 (-9223372036854775808)] w (FlP (.mk 5 0 [] [.mk 2 0 [] [numE 9223372036854775807], numE 1]) w) := by
  have HC : Hid (∀ wx, Calls Tryz.prog 96 #[.int .i64 (-9223372036854775807)] wx (FlP (.mk 2 0 [] [numE 9223372036854775807]) wx)) := fun wx => const_neg (-9223372036854775807) wx (by omega) (by omega)
  generalize (Ex.mk 2 0 [] [numE 9223372036854775807]) = t1 at *
  go_enter Tryz.func96, Tryz.ntmps96
  go_wp2_with fail
  refine (HC.out _).mono ?_
  rintro e w1 ⟨v1, rfl, hT1, hb1⟩
  obtain ⟨a1, c1, rfl, -, -⟩ := hT1.open
  have hbw := below_new hb1
  have hx := (Box.new w 25 #[.int .i64 0, .int .i64 0, .string ⟨#[]⟩, .slice none 0 0]).below hb1 (by simp)
  have hxl := hx.lt
  unfold exV at hT1 ⊢
  go_wp2_with fail
  refine (num_any 1 _).mono ?_
  rintro e w2 ⟨rfl, hb2⟩
  have hx2 := hx.below hb2 hxl
  have hxl2 := hx2.lt
  have hB2 := hbw.trans (hb2.mono hbw.size)
  have hT2 := hT1.below hb2 (Nat.le_refl _)
  clear hx hxl
  unfold exV
  go_wp2_with fail
  refine (node_any _ _ _ _ _).mono ?_
  rintro e w3 ⟨rfl, hb3⟩
  have hrow := (Box.new w2 25 #[.int .i64 t1.op, .int .i64 t1.n, .string ⟨t1.name.toArray⟩, .slice a1 t1.kids.length c1, .int .i64 0, .int .i64 1, .string ⟨#[]⟩, .slice none 0 0]).below hb3 (by simp)
  have hT3 := (hT2.alloc (.cells #[.int .i64 t1.op, .int .i64 t1.n, .string ⟨t1.name.toArray⟩, .slice a1 t1.kids.length c1, .int .i64 0, .int .i64 1, .string ⟨#[]⟩, .slice none 0 0] 25)).below hb3 (Nat.le_refl _)
  have hx3 := (hx2.alloc (.cells #[.int .i64 t1.op, .int .i64 t1.n, .string ⟨t1.name.toArray⟩, .slice a1 t1.kids.length c1, .int .i64 0, .int .i64 1, .string ⟨#[]⟩, .slice none 0 0] 25)).below hb3 (by simp; omega)
  have hB3 : Below w.heap.size w w3 := (hB2.alloc hB2.size _).trans (hb3.mono (by have := hB2.size; simp; omega))
  obtain ⟨q0, q1, q2, q3, f0, f1, f2, f3⟩ := hx3.four
  have hxl3 := hx3.lt
  clear hx2 hb1 hb2 hb3 hT1 hT2
  unfold exV
  go_wp2
  refine bodyPost_ret (v := exV 5 0 [] (some ⟨w2.heap.size, 0, none⟩) 2 2) (by simp [results, Tryz.results96, go_sem, exV, q0, q1, q2, q3]) rfl ⟨_, rfl, ?_, below_set4 hB3 (Nat.le_refl _) _ _ _ _⟩
  have hr := hrow.off4 (q := w.heap.size) (by omega) (.int .i64 5) (.int .i64 0) (.string ⟨#[]⟩) (.slice (some ⟨w2.heap.size, 0, none⟩) 2 2)
  have ht := TreeV.low (lo' := fun q => w.heap.size ≤ q) (fun q hq => by simp at hq; omega) _ _ (TreeV.keep (w' := _) (by rw [size4]; exact Nat.le_refl _) (fun q hq _ => block4 w3 w.heap.size (.int .i64 5) (.int .i64 0) (.string ⟨#[]⟩) (.slice (some ⟨w2.heap.size, 0, none⟩) 2 2) q (by simp at hq; omega)) _ _ hT3)
  exact tree_two (k := t1) (l := numE 1) hr ht (tree_leaf _ _ _ _ _) (by show w.heap.size ≤ w2.heap.size; omega) 5
theorem const_any (n : Int) (w : World) (h0 : -9223372036854775808 ≤ n) (h1 : n ≤ 9223372036854775807) : Calls Tryz.prog 96 #[.int .i64 n] w (FlP (constE n) w) := by
  unfold constE
  split
  · exact const_pos n w (by omega) h1
  · split
    · rename_i h
      subst h
      exact const_min w
    · exact const_neg n w (by omega) (by omega)

set_option maxRecDepth 100000 in
set_option maxHeartbeats 2000000 in
theorem fillLeaf_0 (n : Int) (nb : ByteArray) (a : Option Addr) (len cap : Nat) (ve : Value) (w : World) (_h0 : 0 ≤ n) (_h1 : n ≤ 9223372036854775807) :
    Calls Tryz.prog 57 #[.agg #[.int .i64 0, .int .i64 n, .string nb, .slice a len cap], ve] w (FlP (numE n) w) := by
  go_enter Tryz.func57, Tryz.ntmps57
  go_wp2_with fail
  refine (num_any n _).mono ?_
  rintro e w1 ⟨rfl, hb⟩
  have hbA := ((Below.refl w.heap.size w).alloc (Nat.le_refl _) (.cells #[.int .i64 0, .int .i64 n, .string nb, .slice a len cap] 25)).alloc (by simp) (.cells #[.int .i64 0, .int .i64 0, .string ⟨#[]⟩, .slice none 0 0] 25)
  have hB1 := hbA.trans (hb.mono (by simp; omega))
  have hx := (box_b w (.cells #[.int .i64 0, .int .i64 n, .string nb, .slice a len cap] 25) 25 #[.int .i64 0, .int .i64 0, .string ⟨#[]⟩, .slice none 0 0]).below hb (by simp)
  obtain ⟨c0, c1, c2, c3, f0, f1, f2, f3⟩ := hx.four
  have hxl := hx.lt
  clear hx hb hbA
  unfold exV
  go_wp2
  exact bodyPost_ret (v := exV 0 n [] none 0 0) (by simp [results, Tryz.results57, go_sem, exV, c0, c1, c2, c3]) rfl ⟨_, rfl, tree_leaf _ _ _ _ _, below_set4 hB1 (Nat.le_succ _) _ _ _ _⟩
set_option maxRecDepth 100000 in
set_option maxHeartbeats 2000000 in
theorem fillLeaf_1 (n : Int) (nm : List UInt8) (a : Option Addr) (len cap : Nat) (env : List (List UInt8 × Int)) (ve : Value) (w : World) (hE : EnvV w env ve) :
    Calls Tryz.prog 57 #[.agg #[.int .i64 1, .int .i64 n, .string ⟨nm.toArray⟩, .slice a len cap], ve] w (FlP (match findC env nm with | some z => constE z | none => .mk 1 0 nm []) w) := by
  have hbA := ((Below.refl w.heap.size w).alloc (Nat.le_refl _) (.cells #[.int .i64 1, .int .i64 n, .string ⟨nm.toArray⟩, .slice a len cap] 25)).alloc (by simp) (.cells #[.int .i64 0, .int .i64 0, .string ⟨#[]⟩, .slice none 0 0] 25)
  have HF := Lib.hid (find_any env nm ve _ (hE.below hbA (Nat.le_refl _)))
  have HN : Hid (∀ z, findC env nm = some z → -9223372036854775808 ≤ z ∧ z ≤ 9223372036854775807) := fun z hz => by
    obtain ⟨c, hc, rfl⟩ := findC_mem env nm z hz
    exact hE.nums c hc
  obtain ⟨ea, ecap, rfl, hecap, hek⟩ := hE.form
  have hx := box_b w (.cells #[.int .i64 1, .int .i64 n, .string ⟨nm.toArray⟩, .slice a len cap] 25) 25 #[.int .i64 0, .int .i64 0, .string ⟨#[]⟩, .slice none 0 0]
  have hy := box_a w (.cells #[.int .i64 0, .int .i64 0, .string ⟨#[]⟩, .slice none 0 0] 25) 25 #[.int .i64 1, .int .i64 n, .string ⟨nm.toArray⟩, .slice a len cap]
  clear hecap hek hE
  generalize env.length = el at *
  generalize hX : findC env nm = X at *
  clear hX
  go_enter Tryz.func57, Tryz.ntmps57
  go_wp2_with fail
  refine HF.out.mono ?_
  rintro e w1 ⟨rfl, hb⟩
  have hB1 := hbA.trans (hb.mono (by simp; omega))
  have hx1 := hx.below hb (by simp)
  have hy1 := hy.below hb (by simp; omega)
  have hxl := hx1.lt
  have hyl := hy1.lt
  obtain ⟨y0, y1, y2, y3, -, -, -, -⟩ := hy1.four
  clear hx hy hb hbA HF
  cases X with
  | none =>
    go_wp2_with fail
    refine (nam_any nm _).mono ?_
    rintro e w2 ⟨rfl, hb2⟩
    have hB2 := hB1.trans (hb2.mono hB1.size)
    have hx2 := hx1.below hb2 hxl
    obtain ⟨c0, c1, c2, c3, f0, f1, f2, f3⟩ := hx2.four
    have hxl2 := hx2.lt
    clear hx1 hy1 hb2 hx2 y0 y1 y2 y3
    unfold exV
    go_wp2
    exact bodyPost_ret (v := exV 1 0 nm none 0 0) (by simp [results, Tryz.results57, go_sem, exV, c0, c1, c2, c3]) rfl ⟨_, rfl, tree_leaf _ _ _ _ _, below_set4 hB2 (Nat.le_succ _) _ _ _ _⟩
  | some z =>
    have hz := HN.out z rfl
    have HC := Lib.hid (fun wx => const_any z wx hz.1 hz.2)
    generalize ht1 : constE z = t1 at HC
    have HTE := Lib.hid ht1
    clear HN hz ht1
    go_wp2_with fail
    refine (HC.out _).mono ?_
    rintro e w2 ⟨v2, rfl, hT2, hb2⟩
    obtain ⟨a2, cp2, rfl, -, -⟩ := hT2.open
    have hB2 := hB1.trans (hb2.mono hB1.size)
    have hx2 := hx1.below hb2 hxl
    obtain ⟨c0, c1, c2, c3, f0, f1, f2, f3⟩ := hx2.four
    have hxl2 := hx2.lt
    have hs1 := hB1.size
    clear hx1 hy1 hb2 hx2 y0 y1 y2 y3
    unfold exV at hT2 ⊢
    go_wp2
    refine bodyPost_ret (v := exV t1.op t1.n t1.name a2 t1.kids.length cp2) (by simp [results, Tryz.results57, go_sem, exV, c0, c1, c2, c3]) rfl ⟨_, rfl, ?_, below_set4 hB2 (Nat.le_succ _) _ _ _ _⟩
    show TreeV _ _ (constE z) _
    rw [HTE.out]
    exact TreeV.low (fun q hq => by have : w1.heap.size ≤ q := hq; omega) _ _ (TreeV.keep (by rw [size4]; exact Nat.le_refl _) (fun q hq _ => block4 _ _ _ _ _ _ _ (by have : w1.heap.size ≤ q := hq; have : w.heap.size + 1 < w1.heap.size := hxl; omega)) _ _ hT2)
end Go.Proofs.YtinocaggponpmaaGreatDoor.Ep

namespace Go.Proofs.YtinocaggponpmaaGreatDoor.Ep
open Go.RowKit Lx

theorem formed_op {op n : Int} {nm : List UInt8} {k : Nat} (h : formedB op n nm k = true) (hk : opK op ≠ 0) : n = 0 ∧ nm = [] := by
  have h0 : op ≠ 0 := by rintro rfl; exact hk rfl
  have h1 : op ≠ 1 := by rintro rfl; exact hk rfl
  unfold formedB at h
  simp [h0, h1] at h
  exact h.2
/-- A tree is filled, whatever it is. -/
def Fills (fn : Nat) (env : List (List UInt8 × Int)) (k t1 : Ex) : Prop :=
  ∀ (lo : Nat → Prop) (v ve : Value) (w : World), TreeV lo w k v → EnvV w env ve → Ops w → Calls Tryz.prog fn #[v, ve] w (FlP t1 w)
set_option maxRecDepth 100000 in
set_option maxHeartbeats 4000000 in
theorem fill_1 (env : List (List UInt8 × Int)) (o : Nat) (ho : o < 17) (n : Int) (nb : ByteArray) (k t1 : Ex) (IH : Hid (Fills 36 env k t1))
    (lo : Nat → Prop) (g off cap : Nat) (ve : Value) (w : World) (_hcap : 1 ≤ cap) (hg1 : lo g) (hg2 : g < w.heap.size) (hTL : TreeL lo w g off [k]) (hE : EnvV w env ve) (hO : Ops w) (hk : opK (o : Int) = 1) :
    Calls Tryz.prog 36 #[.agg #[.int .i64 (o : Int), .int .i64 n, .string nb, .slice (some ⟨g, off, none⟩) 1 cap], ve] w (FlP (.mk (o : Int) 0 [] [t1]) w) := by
  have hb0 := ((Below.refl w.heap.size w).alloc (Nat.le_refl _) (.cells #[.int .i64 (o : Int), .int .i64 n, .string nb, .slice (some ⟨g, off, none⟩) 1 cap] 25)).alloc (by simp) (.cells #[.int .i64 0, .int .i64 0, .string ⟨#[]⟩, .slice none 0 0] 25)
  have hx := box_b w (.cells #[.int .i64 (o : Int), .int .i64 n, .string nb, .slice (some ⟨g, off, none⟩) 1 cap] 25) 25 #[.int .i64 0, .int .i64 0, .string ⟨#[]⟩, .slice none 0 0]
  have hy := box_a w (.cells #[.int .i64 0, .int .i64 0, .string ⟨#[]⟩, .slice none 0 0] 25) 25 #[.int .i64 (o : Int), .int .i64 n, .string nb, .slice (some ⟨g, off, none⟩) 1 cap]
  have hO0 := hO.below hb0 hO.lt
  have h2 := hO0.k o ho
  rw [hk] at h2
  have hG := hO.lt
  have hTr := TreeL.keep hb0.size (fun b _ hb => hb0.block b hb) g hg1 hg2 off _ hTL
  rw [TreeL] at hTr
  obtain ⟨⟨ka, kcap, c0, c1, c2, c3, hkt⟩, -⟩ := hTr
  have hE0 := hE.below hb0 (Nat.le_refl _)
  obtain ⟨ea, ecap, rfl, hecap, hek⟩ := hE.form
  have hs0 : w.heap.size + 1 < ((w.alloc (.cells #[.int .i64 (o : Int), .int .i64 n, .string nb, .slice (some ⟨g, off, none⟩) 1 cap] 25)).alloc (.cells #[.int .i64 0, .int .i64 0, .string ⟨#[]⟩, .slice none 0 0] 25)).heap.size := by simp
  clear hecap hek hE hTL
  generalize env.length = el at *
  go_enter Tryz.func36, Tryz.ntmps36
  go_wp2_with fail
  generalize ((w.alloc (.cells #[.int .i64 (o : Int), .int .i64 n, .string nb, .slice (some ⟨g, off, none⟩) 1 cap] 25)).alloc (.cells #[.int .i64 0, .int .i64 0, .string ⟨#[]⟩, .slice none 0 0] 25)) = w0 at *
  have hgl : g < w0.heap.size := Nat.lt_of_lt_of_le hg2 hb0.size
  have hyl := hy.lt
  have hxl := hx.lt
  have HALL : Hid (∀ wx, Below w0.heap.size w0 wx → wx.cell? ⟨w.heap.size, 0, none⟩ = some (.int .i64 (o : Int)) ∧ wx.cell? ⟨w.heap.size, 3, none⟩ = some (.slice (some ⟨g, off, none⟩) 1 cap) ∧ wx.cell? ⟨g, off, none⟩ = some (.int .i64 k.op) ∧ wx.cell? ⟨g, off + 1, none⟩ = some (.int .i64 k.n) ∧ wx.cell? ⟨g, off + 2, none⟩ = some (.string ⟨k.name.toArray⟩) ∧ wx.cell? ⟨g, off + 3, none⟩ = some (.slice ka k.kids.length kcap)) := fun wx h =>
    ⟨(hy.below h hyl).cell 0, (hy.below h hyl).cell 3, (h.cell (p := ⟨g, off, none⟩) hgl).trans c0, (h.cell (p := ⟨g, off + 1, none⟩) hgl).trans c1, (h.cell (p := ⟨g, off + 2, none⟩) hgl).trans c2, (h.cell (p := ⟨g, off + 3, none⟩) hgl).trans c3⟩
  have HSET : Hid (∀ (wx : World) (x0 x1 x2 x3 : Value), Below w0.heap.size w0 wx → ((((wx.setCell ⟨w.heap.size + 1, 0, none⟩ x0).setCell ⟨w.heap.size + 1, 1, none⟩ x1).setCell ⟨w.heap.size + 1, 2, none⟩ x2).setCell ⟨w.heap.size + 1, 3, none⟩ x3).cell? ⟨w.heap.size, 0, none⟩ = some (.int .i64 (o : Int)) ∧ ((((wx.setCell ⟨w.heap.size + 1, 0, none⟩ x0).setCell ⟨w.heap.size + 1, 1, none⟩ x1).setCell ⟨w.heap.size + 1, 2, none⟩ x2).setCell ⟨w.heap.size + 1, 3, none⟩ x3).cell? ⟨w.heap.size, 3, none⟩ = some (.slice (some ⟨g, off, none⟩) 1 cap) ∧ ((((wx.setCell ⟨w.heap.size + 1, 0, none⟩ x0).setCell ⟨w.heap.size + 1, 1, none⟩ x1).setCell ⟨w.heap.size + 1, 2, none⟩ x2).setCell ⟨w.heap.size + 1, 3, none⟩ x3).cell? ⟨g, off, none⟩ = some (.int .i64 k.op) ∧ ((((wx.setCell ⟨w.heap.size + 1, 0, none⟩ x0).setCell ⟨w.heap.size + 1, 1, none⟩ x1).setCell ⟨w.heap.size + 1, 2, none⟩ x2).setCell ⟨w.heap.size + 1, 3, none⟩ x3).cell? ⟨g, off + 1, none⟩ = some (.int .i64 k.n) ∧ ((((wx.setCell ⟨w.heap.size + 1, 0, none⟩ x0).setCell ⟨w.heap.size + 1, 1, none⟩ x1).setCell ⟨w.heap.size + 1, 2, none⟩ x2).setCell ⟨w.heap.size + 1, 3, none⟩ x3).cell? ⟨g, off + 2, none⟩ = some (.string ⟨k.name.toArray⟩) ∧ ((((wx.setCell ⟨w.heap.size + 1, 0, none⟩ x0).setCell ⟨w.heap.size + 1, 1, none⟩ x1).setCell ⟨w.heap.size + 1, 2, none⟩ x2).setCell ⟨w.heap.size + 1, 3, none⟩ x3).cell? ⟨g, off + 3, none⟩ = some (.slice ka k.kids.length kcap)) := fun wx x0 x1 x2 x3 h => by
    have hh := HALL.out wx h
    have f : ∀ b q, b ≠ w.heap.size + 1 → ((((wx.setCell ⟨w.heap.size + 1, 0, none⟩ x0).setCell ⟨w.heap.size + 1, 1, none⟩ x1).setCell ⟨w.heap.size + 1, 2, none⟩ x2).setCell ⟨w.heap.size + 1, 3, none⟩ x3).cell? ⟨b, q, none⟩ = wx.cell? ⟨b, q, none⟩ := fun b q hb => World.cell?_of_block (w := wx) (block4 wx _ x0 x1 x2 x3 b hb)
    rw [f _ _ (by omega), f _ _ (by omega), f _ _ (by omega), f _ _ (by omega), f _ _ (by omega), f _ _ (by omega)]
    exact hh
  have hd : Below w0.heap.size w0 w0.drew := (Below.refl _ _).drew
  have cd := HALL.out _ hd
  have HI := Lib.hid (IH.out lo _ _ w0.drew (hkt.below hd (Nat.le_refl _)) (hE0.below hd (Nat.le_refl _)) (hO0.below hd hO0.lt))
  unfold exV at HI
  clear c0 c1 c2 c3 hkt hE0 hO0 h2 IH
  generalize k.op = k0 at *
  generalize k.n = k1 at *
  generalize (⟨k.name.toArray⟩ : ByteArray) = k2 at *
  generalize k.kids.length = k3 at *
  go_region_held (fun w' => w'.cell? ⟨w.heap.size, 0, none⟩ = some (.int .i64 (o : Int)) ∧ w'.cell? ⟨w.heap.size, 3, none⟩ = some (.slice (some ⟨g, off, none⟩) 1 cap) ∧ w'.cell? ⟨g, off, none⟩ = some (.int .i64 k0) ∧ w'.cell? ⟨g, off + 1, none⟩ = some (.int .i64 k1) ∧ w'.cell? ⟨g, off + 2, none⟩ = some (.string k2) ∧ w'.cell? ⟨g, off + 3, none⟩ = some (.slice ka k3 kcap)) (first | with_reducible exact cd | with_reducible exact e1 | with_reducible exact e2 | with_reducible exact e3 | with_reducible exact e4 | assumption)
    (first
      | (go_at_call 36; refine HI.out.mono ?_; rintro e w1 ⟨v1, rfl, hT1, hb1⟩; obtain ⟨a1, cp1, rfl, -, -⟩ := hT1.open; unfold exV at hT1 ⊢; have hB1 : Below w0.heap.size w0 w1 := hd.trans hb1; have e1 := HALL.out _ hB1; have e2 := HALL.out _ (hB1.alloc hB1.size (.cells #[.int .i64 t1.op, .int .i64 t1.n, .string ⟨t1.name.toArray⟩, .slice a1 t1.kids.length cp1] 25)))
      | (go_at_call 58; refine (node_any _ _ _ _ _).mono ?_; rintro e w2 ⟨rfl, hb2⟩; unfold exV; have hB2 : Below w0.heap.size w0 w2 := (hB1.alloc hB1.size _).trans (hb2.mono (by have := hB1.size; simp; omega)); have e3 := HALL.out _ hB2; have hx2 := hx.below hB2 hxl; obtain ⟨q0, q1, q2, q3, f0, f1, f2, f3⟩ := hx2.four; have hxl2 := hx2.lt; have hrow := (Box.new w1 25 #[.int .i64 t1.op, .int .i64 t1.n, .string ⟨t1.name.toArray⟩, .slice a1 t1.kids.length cp1]).below hb2 (by simp); have hT2 := (hT1.alloc (.cells #[.int .i64 t1.op, .int .i64 t1.n, .string ⟨t1.name.toArray⟩, .slice a1 t1.kids.length cp1] 25)).below hb2 (Nat.le_refl _); have e4 := HSET.out w2 (.int .i64 (o : Int)) (.int .i64 0) (.string ⟨#[]⟩) (.slice (some ⟨w1.heap.size, 0, none⟩) 1 1) hB2))
  have hBw : Below w.heap.size w w2 := hb0.trans (hB2.mono (by omega))
  have hs1 : w0.heap.size ≤ w1.heap.size := hB1.size
  have hsd : w0.drew.heap.size = w0.heap.size := rfl
  clear e1 e2 e3 e4 cd HSET HALL HI hy hx hx2 hb2 hT1 hb1
  go_wp2
  refine bodyPost_ret (v := exV (o : Int) 0 [] (some ⟨w1.heap.size, 0, none⟩) 1 1) (by simp [results, Tryz.results36, go_sem, exV, q0, q1, q2, q3]) rfl ⟨_, rfl, ?_, below_set4 hBw (Nat.le_succ _) _ _ _ _⟩
  have hr := hrow.off4 (q := w.heap.size + 1) (by omega) (.int .i64 (o : Int)) (.int .i64 0) (.string ⟨#[]⟩) (.slice (some ⟨w1.heap.size, 0, none⟩) 1 1)
  have ht := TreeV.low (lo' := fun q => w.heap.size ≤ q) (fun q hq => by have : w0.heap.size ≤ q := hq; omega) _ _ (TreeV.keep (w' := _) (by rw [size4]; exact Nat.le_refl _) (fun q hq _ => block4 w2 (w.heap.size + 1) (.int .i64 (o : Int)) (.int .i64 0) (.string ⟨#[]⟩) (.slice (some ⟨w1.heap.size, 0, none⟩) 1 1) q (by have : w0.heap.size ≤ q := hq; omega)) _ _ hT2)
  exact tree_one hr ht (by show w.heap.size ≤ w1.heap.size; omega) (o : Int)
set_option maxRecDepth 100000 in
set_option maxHeartbeats 4000000 in
theorem fill_2 (env : List (List UInt8 × Int)) (o : Nat) (ho : o < 17) (n : Int) (nb : ByteArray) (k l t1 t2 : Ex) (IH : Hid (Fills 36 env k t1)) (IH2 : Hid (Fills 36 env l t2))
    (lo : Nat → Prop) (g off cap : Nat) (ve : Value) (w : World) (_hcap : 2 ≤ cap) (hg1 : lo g) (hg2 : g < w.heap.size) (hTL : TreeL lo w g off [k, l]) (hE : EnvV w env ve) (hO : Ops w) (hk : opK (o : Int) = 2) :
    Calls Tryz.prog 36 #[.agg #[.int .i64 (o : Int), .int .i64 n, .string nb, .slice (some ⟨g, off, none⟩) 2 cap], ve] w (FlP (.mk (o : Int) 0 [] [t1, t2]) w) := by
  have hb0 := ((Below.refl w.heap.size w).alloc (Nat.le_refl _) (.cells #[.int .i64 (o : Int), .int .i64 n, .string nb, .slice (some ⟨g, off, none⟩) 2 cap] 25)).alloc (by simp) (.cells #[.int .i64 0, .int .i64 0, .string ⟨#[]⟩, .slice none 0 0] 25)
  have hx := box_b w (.cells #[.int .i64 (o : Int), .int .i64 n, .string nb, .slice (some ⟨g, off, none⟩) 2 cap] 25) 25 #[.int .i64 0, .int .i64 0, .string ⟨#[]⟩, .slice none 0 0]
  have hy := box_a w (.cells #[.int .i64 0, .int .i64 0, .string ⟨#[]⟩, .slice none 0 0] 25) 25 #[.int .i64 (o : Int), .int .i64 n, .string nb, .slice (some ⟨g, off, none⟩) 2 cap]
  have hO0 := hO.below hb0 hO.lt
  have h2 := hO0.k o ho
  rw [hk] at h2
  have hG := hO.lt
  have hTr := TreeL.keep hb0.size (fun b _ hb => hb0.block b hb) g hg1 hg2 off _ hTL
  rw [TreeL, TreeL] at hTr
  obtain ⟨⟨ka, kcap, c0, c1, c2, c3, hkt⟩, ⟨la, lcap, d0, d1, d2, d3, hlt⟩, -⟩ := hTr
  have hE0 := hE.below hb0 (Nat.le_refl _)
  obtain ⟨ea, ecap, rfl, hecap, hek⟩ := hE.form
  have hs0 : w.heap.size + 1 < ((w.alloc (.cells #[.int .i64 (o : Int), .int .i64 n, .string nb, .slice (some ⟨g, off, none⟩) 2 cap] 25)).alloc (.cells #[.int .i64 0, .int .i64 0, .string ⟨#[]⟩, .slice none 0 0] 25)).heap.size := by simp
  clear hecap hek hE hTL
  generalize env.length = el at *
  go_enter Tryz.func36, Tryz.ntmps36
  go_wp2_with fail
  generalize ((w.alloc (.cells #[.int .i64 (o : Int), .int .i64 n, .string nb, .slice (some ⟨g, off, none⟩) 2 cap] 25)).alloc (.cells #[.int .i64 0, .int .i64 0, .string ⟨#[]⟩, .slice none 0 0] 25)) = w0 at *
  have hgl : g < w0.heap.size := Nat.lt_of_lt_of_le hg2 hb0.size
  have hyl := hy.lt
  have hxl := hx.lt
  have HALL : Hid (∀ wx, Below w0.heap.size w0 wx → wx.cell? ⟨w.heap.size, 0, none⟩ = some (.int .i64 (o : Int)) ∧ wx.cell? ⟨w.heap.size, 3, none⟩ = some (.slice (some ⟨g, off, none⟩) 2 cap) ∧ wx.cell? ⟨g, off, none⟩ = some (.int .i64 k.op) ∧ wx.cell? ⟨g, off + 1, none⟩ = some (.int .i64 k.n) ∧ wx.cell? ⟨g, off + 2, none⟩ = some (.string ⟨k.name.toArray⟩) ∧ wx.cell? ⟨g, off + 3, none⟩ = some (.slice ka k.kids.length kcap) ∧ wx.cell? ⟨g, off + 4, none⟩ = some (.int .i64 l.op) ∧ wx.cell? ⟨g, off + 5, none⟩ = some (.int .i64 l.n) ∧ wx.cell? ⟨g, off + 6, none⟩ = some (.string ⟨l.name.toArray⟩) ∧ wx.cell? ⟨g, off + 7, none⟩ = some (.slice la l.kids.length lcap)) := fun wx h =>
    ⟨(hy.below h hyl).cell 0, (hy.below h hyl).cell 3, (h.cell (p := ⟨g, off, none⟩) hgl).trans c0, (h.cell (p := ⟨g, off + 1, none⟩) hgl).trans c1, (h.cell (p := ⟨g, off + 2, none⟩) hgl).trans c2, (h.cell (p := ⟨g, off + 3, none⟩) hgl).trans c3, (h.cell (p := ⟨g, off + 4, none⟩) hgl).trans d0, (h.cell (p := ⟨g, off + 5, none⟩) hgl).trans d1, (h.cell (p := ⟨g, off + 6, none⟩) hgl).trans d2, (h.cell (p := ⟨g, off + 7, none⟩) hgl).trans d3⟩
  have HSET : Hid (∀ (wx : World) (x0 x1 x2 x3 : Value), Below w0.heap.size w0 wx → ((((wx.setCell ⟨w.heap.size + 1, 0, none⟩ x0).setCell ⟨w.heap.size + 1, 1, none⟩ x1).setCell ⟨w.heap.size + 1, 2, none⟩ x2).setCell ⟨w.heap.size + 1, 3, none⟩ x3).cell? ⟨w.heap.size, 0, none⟩ = some (.int .i64 (o : Int)) ∧ ((((wx.setCell ⟨w.heap.size + 1, 0, none⟩ x0).setCell ⟨w.heap.size + 1, 1, none⟩ x1).setCell ⟨w.heap.size + 1, 2, none⟩ x2).setCell ⟨w.heap.size + 1, 3, none⟩ x3).cell? ⟨w.heap.size, 3, none⟩ = some (.slice (some ⟨g, off, none⟩) 2 cap) ∧ ((((wx.setCell ⟨w.heap.size + 1, 0, none⟩ x0).setCell ⟨w.heap.size + 1, 1, none⟩ x1).setCell ⟨w.heap.size + 1, 2, none⟩ x2).setCell ⟨w.heap.size + 1, 3, none⟩ x3).cell? ⟨g, off, none⟩ = some (.int .i64 k.op) ∧ ((((wx.setCell ⟨w.heap.size + 1, 0, none⟩ x0).setCell ⟨w.heap.size + 1, 1, none⟩ x1).setCell ⟨w.heap.size + 1, 2, none⟩ x2).setCell ⟨w.heap.size + 1, 3, none⟩ x3).cell? ⟨g, off + 1, none⟩ = some (.int .i64 k.n) ∧ ((((wx.setCell ⟨w.heap.size + 1, 0, none⟩ x0).setCell ⟨w.heap.size + 1, 1, none⟩ x1).setCell ⟨w.heap.size + 1, 2, none⟩ x2).setCell ⟨w.heap.size + 1, 3, none⟩ x3).cell? ⟨g, off + 2, none⟩ = some (.string ⟨k.name.toArray⟩) ∧ ((((wx.setCell ⟨w.heap.size + 1, 0, none⟩ x0).setCell ⟨w.heap.size + 1, 1, none⟩ x1).setCell ⟨w.heap.size + 1, 2, none⟩ x2).setCell ⟨w.heap.size + 1, 3, none⟩ x3).cell? ⟨g, off + 3, none⟩ = some (.slice ka k.kids.length kcap) ∧ ((((wx.setCell ⟨w.heap.size + 1, 0, none⟩ x0).setCell ⟨w.heap.size + 1, 1, none⟩ x1).setCell ⟨w.heap.size + 1, 2, none⟩ x2).setCell ⟨w.heap.size + 1, 3, none⟩ x3).cell? ⟨g, off + 4, none⟩ = some (.int .i64 l.op) ∧ ((((wx.setCell ⟨w.heap.size + 1, 0, none⟩ x0).setCell ⟨w.heap.size + 1, 1, none⟩ x1).setCell ⟨w.heap.size + 1, 2, none⟩ x2).setCell ⟨w.heap.size + 1, 3, none⟩ x3).cell? ⟨g, off + 5, none⟩ = some (.int .i64 l.n) ∧ ((((wx.setCell ⟨w.heap.size + 1, 0, none⟩ x0).setCell ⟨w.heap.size + 1, 1, none⟩ x1).setCell ⟨w.heap.size + 1, 2, none⟩ x2).setCell ⟨w.heap.size + 1, 3, none⟩ x3).cell? ⟨g, off + 6, none⟩ = some (.string ⟨l.name.toArray⟩) ∧ ((((wx.setCell ⟨w.heap.size + 1, 0, none⟩ x0).setCell ⟨w.heap.size + 1, 1, none⟩ x1).setCell ⟨w.heap.size + 1, 2, none⟩ x2).setCell ⟨w.heap.size + 1, 3, none⟩ x3).cell? ⟨g, off + 7, none⟩ = some (.slice la l.kids.length lcap)) := fun wx x0 x1 x2 x3 h => by
    have hh := HALL.out wx h
    have f : ∀ b q, b ≠ w.heap.size + 1 → ((((wx.setCell ⟨w.heap.size + 1, 0, none⟩ x0).setCell ⟨w.heap.size + 1, 1, none⟩ x1).setCell ⟨w.heap.size + 1, 2, none⟩ x2).setCell ⟨w.heap.size + 1, 3, none⟩ x3).cell? ⟨b, q, none⟩ = wx.cell? ⟨b, q, none⟩ := fun b q hb => World.cell?_of_block (w := wx) (block4 wx _ x0 x1 x2 x3 b hb)
    rw [f _ _ (by omega), f _ _ (by omega), f _ _ (by omega), f _ _ (by omega), f _ _ (by omega), f _ _ (by omega), f _ _ (by omega), f _ _ (by omega), f _ _ (by omega), f _ _ (by omega)]
    exact hh
  have hd : Below w0.heap.size w0 w0.drew := (Below.refl _ _).drew
  have cd := HALL.out _ hd
  have HI := Lib.hid (IH.out lo _ _ w0.drew (hkt.below hd (Nat.le_refl _)) (hE0.below hd (Nat.le_refl _)) (hO0.below hd hO0.lt))
  have HI2 : Hid (∀ wx, Below w0.heap.size w0 wx → Calls Tryz.prog 36 #[exV l.op l.n l.name la l.kids.length lcap, .slice ea el ecap] wx (FlP t2 wx)) := fun wx h => IH2.out lo _ _ wx (hlt.below h (Nat.le_refl _)) (hE0.below h (Nat.le_refl _)) (hO0.below h hO0.lt)
  unfold exV at HI HI2
  clear c0 c1 c2 c3 hkt d0 d1 d2 d3 hlt hE0 hO0 h2 IH IH2
  generalize k.op = k0 at *
  generalize k.n = k1 at *
  generalize (⟨k.name.toArray⟩ : ByteArray) = k2 at *
  generalize k.kids.length = k3 at *
  generalize l.op = l0 at *
  generalize l.n = l1 at *
  generalize (⟨l.name.toArray⟩ : ByteArray) = l2 at *
  generalize l.kids.length = l3 at *
  go_region_held (fun w' => w'.cell? ⟨w.heap.size, 0, none⟩ = some (.int .i64 (o : Int)) ∧ w'.cell? ⟨w.heap.size, 3, none⟩ = some (.slice (some ⟨g, off, none⟩) 2 cap) ∧ w'.cell? ⟨g, off, none⟩ = some (.int .i64 k0) ∧ w'.cell? ⟨g, off + 1, none⟩ = some (.int .i64 k1) ∧ w'.cell? ⟨g, off + 2, none⟩ = some (.string k2) ∧ w'.cell? ⟨g, off + 3, none⟩ = some (.slice ka k3 kcap) ∧ w'.cell? ⟨g, off + 4, none⟩ = some (.int .i64 l0) ∧ w'.cell? ⟨g, off + 5, none⟩ = some (.int .i64 l1) ∧ w'.cell? ⟨g, off + 6, none⟩ = some (.string l2) ∧ w'.cell? ⟨g, off + 7, none⟩ = some (.slice la l3 lcap)) (first | with_reducible exact cd | with_reducible exact e1 | with_reducible exact e2 | with_reducible exact e3 | with_reducible exact e4 | with_reducible exact e5 | assumption)
    (first
      | (go_at_call 36; first
          | ((with_reducible refine HI.out.mono ?_); rintro e w1 ⟨v1, rfl, hT1, hb1⟩; obtain ⟨a1, cp1, rfl, -, -⟩ := hT1.open; unfold exV at hT1 ⊢; have hB1 : Below w0.heap.size w0 w1 := hd.trans hb1; have e1 := HALL.out _ hB1)
          | ((with_reducible refine (HI2.out _ hB1).mono ?_); rintro e w2 ⟨v2, rfl, hT2, hb2⟩; obtain ⟨a2, cp2, rfl, -, -⟩ := hT2.open; unfold exV at hT2 ⊢; have hB2 : Below w0.heap.size w0 w2 := hB1.trans (hb2.mono hB1.size); have e2 := HALL.out _ hB2; have e3 := HALL.out _ (hB2.alloc hB2.size (.cells #[.int .i64 t1.op, .int .i64 t1.n, .string ⟨t1.name.toArray⟩, .slice a1 t1.kids.length cp1, .int .i64 t2.op, .int .i64 t2.n, .string ⟨t2.name.toArray⟩, .slice a2 t2.kids.length cp2] 25))))
      | (go_at_call 58; refine (node_any _ _ _ _ _).mono ?_; rintro e w3 ⟨rfl, hb3⟩; unfold exV; have hB3 : Below w0.heap.size w0 w3 := (hB2.alloc hB2.size _).trans (hb3.mono (by have := hB2.size; simp; omega)); have e4 := HALL.out _ hB3; have hx2 := hx.below hB3 hxl; obtain ⟨q0, q1, q2, q3, f0, f1, f2, f3⟩ := hx2.four; have hxl2 := hx2.lt; have hrow := (Box.new w2 25 #[.int .i64 t1.op, .int .i64 t1.n, .string ⟨t1.name.toArray⟩, .slice a1 t1.kids.length cp1, .int .i64 t2.op, .int .i64 t2.n, .string ⟨t2.name.toArray⟩, .slice a2 t2.kids.length cp2]).below hb3 (by simp); have hT13 := ((hT1.below hb2 (Nat.le_refl _)).alloc (.cells #[.int .i64 t1.op, .int .i64 t1.n, .string ⟨t1.name.toArray⟩, .slice a1 t1.kids.length cp1, .int .i64 t2.op, .int .i64 t2.n, .string ⟨t2.name.toArray⟩, .slice a2 t2.kids.length cp2] 25)).below hb3 (Nat.le_refl _); have hT23 := (hT2.alloc (.cells #[.int .i64 t1.op, .int .i64 t1.n, .string ⟨t1.name.toArray⟩, .slice a1 t1.kids.length cp1, .int .i64 t2.op, .int .i64 t2.n, .string ⟨t2.name.toArray⟩, .slice a2 t2.kids.length cp2] 25)).below hb3 (Nat.le_refl _); have e5 := HSET.out w3 (.int .i64 (o : Int)) (.int .i64 0) (.string ⟨#[]⟩) (.slice (some ⟨w2.heap.size, 0, none⟩) 2 2) hB3))
  have hBw : Below w.heap.size w w3 := hb0.trans (hB3.mono (by omega))
  have hs1 : w0.heap.size ≤ w1.heap.size := hB1.size
  have hs2 : w1.heap.size ≤ w2.heap.size := hb2.size
  clear e1 e2 e3 e4 e5 cd HSET HALL HI HI2 hy hx hx2 hb2 hT1 hT2 hb1 hb3
  go_wp2
  refine bodyPost_ret (v := exV (o : Int) 0 [] (some ⟨w2.heap.size, 0, none⟩) 2 2) (by simp [results, Tryz.results36, go_sem, exV, q0, q1, q2, q3]) rfl ⟨_, rfl, ?_, below_set4 hBw (Nat.le_succ _) _ _ _ _⟩
  have hr := hrow.off4 (q := w.heap.size + 1) (by omega) (.int .i64 (o : Int)) (.int .i64 0) (.string ⟨#[]⟩) (.slice (some ⟨w2.heap.size, 0, none⟩) 2 2)
  have ht := fun (S : Nat → Prop) (x : Ex) (v : Value) (hS : ∀ q, S q → w0.heap.size ≤ q) (h : TreeV S w3 x v) => TreeV.low (lo' := fun q => w.heap.size ≤ q) (fun q hq => by have := hS q hq; omega) _ _ (TreeV.keep (w' := _) (by rw [size4]; exact Nat.le_refl _) (fun q hq _ => block4 w3 (w.heap.size + 1) (.int .i64 (o : Int)) (.int .i64 0) (.string ⟨#[]⟩) (.slice (some ⟨w2.heap.size, 0, none⟩) 2 2) q (by have := hS q hq; omega)) _ _ h)
  exact tree_two hr (ht _ _ _ (fun q hq => hq) hT13) (ht _ _ _ (fun q hq => Nat.le_trans hs1 hq) hT23) (by show w.heap.size ≤ w2.heap.size; omega) (o : Int)

set_option maxRecDepth 100000 in
set_option maxHeartbeats 4000000 in
theorem fill_0 (o : Nat) (ho : o < 17) (n : Int) (nb : ByteArray) (a : Option Addr) (len cap : Nat) (ve : Value) (w : World) (t1 : Ex) (hO : Ops w) (hk : opK (o : Int) = 0)
    (HL : Hid (∀ wx, Below w.heap.size w wx → Calls Tryz.prog 57 #[.agg #[.int .i64 (o : Int), .int .i64 n, .string nb, .slice a len cap], ve] wx (FlP t1 wx))) :
    Calls Tryz.prog 36 #[.agg #[.int .i64 (o : Int), .int .i64 n, .string nb, .slice a len cap], ve] w (FlP t1 w) := by
  have hb0 := ((Below.refl w.heap.size w).alloc (Nat.le_refl _) (.cells #[.int .i64 (o : Int), .int .i64 n, .string nb, .slice a len cap] 25)).alloc (by simp) (.cells #[.int .i64 0, .int .i64 0, .string ⟨#[]⟩, .slice none 0 0] 25)
  have hx := box_b w (.cells #[.int .i64 (o : Int), .int .i64 n, .string nb, .slice a len cap] 25) 25 #[.int .i64 0, .int .i64 0, .string ⟨#[]⟩, .slice none 0 0]
  have hO0 := hO.below hb0 hO.lt
  have h2 := hO0.k o ho
  rw [hk] at h2
  have hG := hO.lt
  have HC := Lib.hid (HL.out _ hb0)
  have hs0 : w.heap.size + 1 < ((w.alloc (.cells #[.int .i64 (o : Int), .int .i64 n, .string nb, .slice a len cap] 25)).alloc (.cells #[.int .i64 0, .int .i64 0, .string ⟨#[]⟩, .slice none 0 0] 25)).heap.size := by simp
  clear HL hO hO0
  go_enter Tryz.func36, Tryz.ntmps36
  go_wp2_with fail
  refine HC.out.mono ?_
  rintro e w1 ⟨v1, rfl, hT1, hb1⟩
  obtain ⟨a1, cp1, rfl, -, -⟩ := hT1.open
  generalize ((w.alloc (.cells #[.int .i64 (o : Int), .int .i64 n, .string nb, .slice a len cap] 25)).alloc (.cells #[.int .i64 0, .int .i64 0, .string ⟨#[]⟩, .slice none 0 0] 25)) = w0 at *
  have hx1 := hx.below hb1 hx.lt
  obtain ⟨q0, q1, q2, q3, f0, f1, f2, f3⟩ := hx1.four
  have hxl1 := hx1.lt
  have hB1 : Below w.heap.size w w1 := hb0.trans (hb1.mono (by omega))
  clear HC hx hx1 h2 hb1
  unfold exV at hT1 ⊢
  go_wp2
  refine bodyPost_ret (v := exV t1.op t1.n t1.name a1 t1.kids.length cp1) (by simp [results, Tryz.results36, go_sem, exV, q0, q1, q2, q3]) rfl ⟨_, rfl, ?_, below_set4 hB1 (Nat.le_succ _) _ _ _ _⟩
  exact TreeV.low (fun q hq => by have : w0.heap.size ≤ q := hq; omega) _ _ (TreeV.keep (by rw [size4]; exact Nat.le_refl _) (fun q hq _ => block4 _ _ _ _ _ _ _ (by have : w0.heap.size ≤ q := hq; omega)) _ _ hT1)

theorem fill_any (env : List (List UInt8 × Int)) (t : Ex) : goodE t → Fills 36 env t (fillE env t) := by
  induction t using Ex.ind with
  | h op n nm ks ih =>
    intro hg lo v ve w hT hE hO
    unfold TreeV at hT
    obtain ⟨a, cap, rfl, hcap, hk⟩ := hT
    rw [goodE] at hg
    have hin := (formed_true hg.1).1
    have hb := (inT_iff _).1 hin
    unfold exV
    rcases opK_012 hin with h | h | h
    · have hks := kids_0 hg.1 h
      subst hks
      obtain ⟨o, rfl⟩ := Int.eq_ofNat_of_zero_le hb.1
      have ho : (o : Int) = 0 ∨ (o : Int) = 1 := by
        have : ∀ k : Fin 17, opK (k.val : Int) = 0 → (k.val : Int) = 0 ∨ (k.val : Int) = 1 := by decide
        exact this ⟨o, by omega⟩ h
      refine fill_0 o (by omega) n _ a _ cap ve w _ hO h (Lib.hid fun wx hbx => ?_)
      rcases ho with ho | ho
      · have hf := hg.1
        rw [ho] at hf
        have hn0 : 0 ≤ n ∧ nm = [] := by
          unfold formedB at hf
          simp at hf
          exact ⟨hf.2.1, hf.2.2⟩
        obtain ⟨h0, rfl⟩ := hn0
        rw [ho, fillE, if_neg (by decide), fillL]
        exact fillLeaf_0 n _ a _ cap ve wx h0 hg.2.1.2
      · have hf := hg.1
        rw [ho] at hf
        have hn0 : n = 0 := by
          unfold formedB at hf
          simp at hf
          exact hf.2.1
        subst hn0
        rw [ho, fillE, if_pos rfl]
        have := fillLeaf_1 0 nm a 0 cap env ve wx (hE.below hbx (Nat.le_refl _))
        cases hc : findC env nm with
        | none => rw [hc] at this; simp only [fillL]; exact this
        | some z => rw [hc] at this; exact this
    · obtain ⟨k, rfl⟩ := kids_1 hg.1 h
      have h1' : op ≠ 1 := by rintro rfl; exact absurd h (by decide)
      have hgl := hg.2.2
      rw [goodL] at hgl
      obtain ⟨g, off, rfl, hg1, hg2, hTL⟩ := hk (by simp)
      have hz := formed_op hg.1 (by rw [h]; decide)
      obtain ⟨rfl, rfl⟩ := hz
      rw [fillE, if_neg h1', fillL, fillL]
      obtain ⟨o, rfl⟩ := Int.eq_ofNat_of_zero_le hb.1
      exact fill_1 env o (by omega) 0 _ k _ (Lib.hid (ih k (by simp) hgl.1)) lo g off cap ve w hcap hg1 hg2 hTL hE hO h
    · obtain ⟨k, l, rfl⟩ := kids_2 hg.1 h
      have h1' : op ≠ 1 := by rintro rfl; exact absurd h (by decide)
      have hgl := hg.2.2
      rw [goodL, goodL] at hgl
      obtain ⟨g, off, rfl, hg1, hg2, hTL⟩ := hk (by simp)
      have hz := formed_op hg.1 (by rw [h]; decide)
      obtain ⟨rfl, rfl⟩ := hz
      rw [fillE, if_neg h1', fillL, fillL, fillL]
      obtain ⟨o, rfl⟩ := Int.eq_ofNat_of_zero_le hb.1
      exact fill_2 env o (by omega) 0 _ k l _ _ (Lib.hid (ih k (by simp) hgl.1)) (Lib.hid (ih l (by simp) hgl.2.1)) lo g off cap ve w hcap hg1 hg2 hTL hE hO h
end Go.Proofs.YtinocaggponpmaaGreatDoor.Ep
