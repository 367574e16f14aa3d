/-
  The document's fill of any tree; both Fill.
  The walk of ExprFills.
  ExprFills: for every input the law answers true, and leaves its arguments as they were. Its conditions: none but the card's own (the listed tables lie as the program's text lays them, which the card ties).
-/
import Derived.Test.YtinocaggponpmaaGreatDoorExFe
import Derived.Test.YtinocaggponpmaaGreatDoorExFr
import Derived.Test.YtinocaggponpmaaGreatDoorExOe
import Derived.Test.YtinocaggponpmaaGreatDoorExFrame
namespace Go.Proofs.YtinocaggponpmaaGreatDoor.Ep
open Go.RowKit Lx

theorem numsL_all2 : ∀ (ks : List Ex), numsL ks ↔ ∀ k ∈ ks, numsE k
  | [] => by simp [numsL]
  | k :: ks => by rw [numsL, numsL_all2 ks]; simp
theorem k2L_all2 : ∀ (ks : List Ex), k2L ks ↔ ∀ k ∈ ks, k2E k
  | [] => by simp [k2L]
  | k :: ks => by rw [k2L, k2L_all2 ks]; simp
theorem good_nums (t : Ex) : goodE t → numsE t := by
  induction t using Ex.ind with
  | h op n nm ks ih =>
    intro hg
    rw [goodE] at hg
    rw [numsE]
    exact ⟨hg.2.1, (numsL_all2 ks).2 fun k hk => ih k hk ((goodL_all _).1 hg.2.2 k hk)⟩
theorem good_k2 (t : Ex) : goodE t → k2E t := by
  induction t using Ex.ind with
  | h op n nm ks ih =>
    intro hg
    rw [goodE] at hg
    have hin := (formed_true hg.1).1
    rw [k2E]
    refine ⟨?_, (k2L_all2 ks).2 fun k hk => ih k hk ((goodL_all _).1 hg.2.2 k hk)⟩
    rcases opK_012 hin with h | h | h
    · rw [kids_0 hg.1 h]; simp
    · obtain ⟨k, rfl⟩ := kids_1 hg.1 h; simp
    · obtain ⟨k, l, rfl⟩ := kids_2 hg.1 h; simp
theorem const_short (n : Int) : shortE (constE n) := by
  unfold constE numE
  split
  · simp [shortE, shortL]
  · split <;> simp [shortE, shortL]
theorem fill_short (env : List (List UInt8 × Int)) (t : Ex) : shortE t → shortE (fillE env t) := by
  induction t using Ex.ind with
  | h op n nm ks ih =>
    intro hs
    rw [shortE] at hs
    have hrest : shortE (.mk op n nm (fillL env ks)) := by
      rw [shortE, fillL_map, shortL_all]
      refine ⟨hs.1, fun k hk => ?_⟩
      obtain ⟨k', hk', rfl⟩ := List.mem_map.1 hk
      exact ih k' hk' ((shortL_all _).1 hs.2 k' hk')
    rw [fillE]
    split
    · split
      · exact const_short _
      · exact hrest
    · exact hrest
theorem free_names (env : List (List UInt8 × Int)) (t : Ex) : freeE env t → ∀ nm ∈ namesE t, findC env nm = none := by
  induction t using Ex.ind with
  | h op n nm ks ih =>
    intro hf x hx
    rw [freeE] at hf
    rw [namesE] at hx
    split at hx
    · rename_i h1
      simp only [List.mem_singleton] at hx
      subst hx
      exact hf.1 h1
    · have : ∀ l : List Ex, x ∈ namesL l → ∃ k ∈ l, x ∈ namesE k := by
        intro l
        induction l with
        | nil => intro h; simp [namesL] at h
        | cons k l ihl =>
          intro h
          rw [namesL, List.mem_append] at h
          rcases h with h | h
          · exact ⟨k, by simp, h⟩
          · obtain ⟨k', hk', hx'⟩ := ihl h
            exact ⟨k', by simp [hk'], hx'⟩
      obtain ⟨k, hk, hxk⟩ := this ks hx
      exact ih k hk ((freeL_all env ks).1 hf.2 k hk) x hxk
theorem free_namesP (env : List (List UInt8 × Int)) (t : Ex) (h : freeE env t) : ∀ nm ∈ namesP t, findC env nm = none := by
  intro x hx
  unfold namesP at hx
  split at hx
  · rw [fold_mem] at hx
    rcases hx with hx | hx
    · exact free_names env t h x hx
    · simp at hx
  · simp at hx

theorem rfill_any (env : List (List UInt8 × Int)) (t : Ex) : goodE t → Fills 37 env t (fillE env t) := by
  induction t using Ex.ind with
  | h op n nm ks ih =>
    intro hg lo v ve w hT hE hO
    unfold TreeV at hT
    obtain ⟨a, cap, rfl, hcap, hk⟩ := hT
    rw [goodE] at hg
    have hin := (formed_true hg.1).1
    have hb := (inT_iff _).1 hin
    unfold exV
    rcases opK_012 hin with h | h | h
    · have hks := kids_0 hg.1 h
      subst hks
      have ho : op = 0 ∨ op = 1 := by
        have : ∀ k : Fin 17, opK (k.val : Int) = 0 → (k.val : Int) = 0 ∨ (k.val : Int) = 1 := by decide
        have := this ⟨op.toNat, by omega⟩ (by simpa [Int.toNat_of_nonneg hb.1] using h)
        simpa [Int.toNat_of_nonneg hb.1] using this
      rcases ho with rfl | rfl
      · rw [fillE, if_neg (by decide), fillL]
        exact rfill_0 n nm cap a ve w
      · rw [fillE, if_pos rfl]
        have := rfill_name n nm a cap env ve w hE
        cases hc : findC env nm with
        | none => rw [hc] at this; simp only [fillL]; exact this
        | some z => rw [hc] at this; exact this
    · obtain ⟨k, rfl⟩ := kids_1 hg.1 h
      have h1' : op ≠ 1 := by rintro rfl; exact absurd h (by decide)
      have hgl := hg.2.2
      rw [goodL] at hgl
      obtain ⟨g, off, rfl, hg1, hg2, hTL⟩ := hk (by simp)
      rw [fillE, if_neg h1', fillL, fillL]
      exact rfill_un env op h1' n nm k _ (Lib.hid (ih k (by simp) hgl.1)) lo g off cap ve w hcap hg1 hg2 hTL hE hO
    · obtain ⟨k, l, rfl⟩ := kids_2 hg.1 h
      have h1' : op ≠ 1 := by rintro rfl; exact absurd h (by decide)
      have hgl := hg.2.2
      rw [goodL, goodL] at hgl
      obtain ⟨g, off, rfl, hg1, hg2, hTL⟩ := hk (by simp)
      rw [fillE, if_neg h1', fillL, fillL, fillL]
      exact rfill_bi env op h1' n nm k l _ _ (Lib.hid (ih k (by simp) hgl.1)) (Lib.hid (ih l (by simp) hgl.2.1)) lo g off cap ve w hcap hg1 hg2 hTL hE hO

/-- What either Fill hands back. -/
def FiP (r : Option Ex × Int) (w : World) (e : Ending) (w' : World) : Prop :=
  ∃ a cp, e = .returned (.tuple #[exV ((r.1.getD (.mk 0 0 [] [])).op) ((r.1.getD (.mk 0 0 [] [])).n) ((r.1.getD (.mk 0 0 [] [])).name) a (r.1.getD (.mk 0 0 [] [])).kids.length cp, .int .i64 r.2]) ∧
    TreeV (fun k => w.heap.size ≤ k) w' (r.1.getD (.mk 0 0 [] [])) (exV ((r.1.getD (.mk 0 0 [] [])).op) ((r.1.getD (.mk 0 0 [] [])).n) ((r.1.getD (.mk 0 0 [] [])).name) a (r.1.getD (.mk 0 0 [] [])).kids.length cp) ∧ Below w.heap.size w w'
theorem FiP.none_ {f : Int} {w w' : World} (hb : Below w.heap.size w w') : FiP (none, f) w (.returned (.tuple #[exV 0 0 [] none 0 0, .int .i64 f])) w' := ⟨none, 0, rfl, tree_leaf _ _ _ _ _, hb⟩
theorem FiP.some_ {t : Ex} {a : Option Addr} {cp : Nat} {w w' : World} (hT : TreeV (fun k => w.heap.size ≤ k) w' t (exV t.op t.n t.name a t.kids.length cp)) (hb : Below w.heap.size w w') : FiP (some t, 0) w (.returned (.tuple #[exV t.op t.n t.name a t.kids.length cp, .int .i64 0])) w' := ⟨a, cp, rfl, hT, hb⟩
set_option maxRecDepth 100000 in
set_option maxHeartbeats 4000000 in
theorem Fill_any (env : List (List UInt8 × Int)) (t : Ex) (lo : Nat → Prop) (v ve : Value) (w : World) (hT : TreeV lo w t v) (hE : EnvV w env ve) (hO : Ops w) (hN : numsE t) :
    Calls Tryz.prog 18 #[v, ve] w (FiP (fillP env t) w) := by
  obtain ⟨a, cap, rfl, -, -⟩ := hT.open
  have hb0 := ((Below.refl w.heap.size w).alloc (Nat.le_refl _) (.cells #[.int .i64 t.op, .int .i64 t.n, .string ⟨t.name.toArray⟩, .slice a t.kids.length cap] 25)).alloc (by simp) (.cells #[.int .i64 0, .int .i64 0, .string ⟨#[]⟩, .slice none 0 0] 25)
  have hx := box_b w (.cells #[.int .i64 t.op, .int .i64 t.n, .string ⟨t.name.toArray⟩, .slice a t.kids.length cap] 25) 25 #[.int .i64 0, .int .i64 0, .string ⟨#[]⟩, .slice none 0 0]
  have hy := box_a w (.cells #[.int .i64 0, .int .i64 0, .string ⟨#[]⟩, .slice none 0 0] 25) 25 #[.int .i64 t.op, .int .i64 t.n, .string ⟨t.name.toArray⟩, .slice a t.kids.length cap]
  have HM : Hid (∀ wx, Below w.heap.size w wx → Calls Tryz.prog 14 #[exV t.op t.n t.name a t.kids.length cap] wx (BoB (mayB t) wx)) := fun wx h => May_any t lo _ wx (hO.below h hO.lt) (hT.below h (Nat.le_refl _))
  have HF : Hid (goodE t → ∀ wx, Below w.heap.size w wx → Calls Tryz.prog 36 #[exV t.op t.n t.name a t.kids.length cap, ve] wx (FlP (fillE env t) wx)) := fun hg wx h => fill_any env t hg lo _ ve wx (hT.below h (Nat.le_refl _)) (hE.below h (Nat.le_refl _)) (hO.below h hO.lt)
  have HM2 : Hid (∀ (S : Nat → Prop) (x : Value) (wx : World), Below w.heap.size w wx → TreeV S wx (fillE env t) x → Calls Tryz.prog 14 #[x] wx (BoB (mayB (fillE env t)) wx)) := fun S x wx h hx => May_any _ S _ wx (hO.below h hO.lt) hx
  have HP : Hid (fillP env t = if mayB t = true then (if mayB (fillE env t) = true then (some (fillE env t), 0) else (none, 2)) else (none, 1)) := rfl
  have HG : Hid (mayB t = true → goodE t) := fun h => may_good h hN
  unfold exV at HM HF ⊢
  obtain ⟨ea, ecap, rfl, -, -⟩ := hE.form
  clear hT hE hO
  generalize hP : fillP env t = P at HP ⊢
  clear hP
  generalize env.length = el at *
  go_enter Tryz.func18, Tryz.ntmps18
  go_wp2_with fail
  generalize ((w.alloc (.cells #[.int .i64 t.op, .int .i64 t.n, .string ⟨t.name.toArray⟩, .slice a t.kids.length cap] 25)).alloc (.cells #[.int .i64 0, .int .i64 0, .string ⟨#[]⟩, .slice none 0 0] 25)) = w0 at *
  refine (HM.out w0 hb0).mono ?_
  rintro e w1 ⟨rfl, hb1⟩
  have hs0 : w.heap.size + 1 < w0.heap.size := hx.lt
  have hB1 : Below w.heap.size w w1 := hb0.trans (hb1.mono (by omega))
  have hx1 := hx.below hb1 hx.lt
  have hy1 := hy.below hb1 hy.lt
  obtain ⟨x0, x1, x2, x3, fx0, fx1, fx2, fx3⟩ := hx1.four
  obtain ⟨y0, y1, y2, y3, -, -, -, -⟩ := hy1.four
  have hxl := hx1.lt
  have hyl := hy1.lt
  clear hx hy hb1 HM hb0
  cases hm : mayB t with
  | false =>
    have HE : Hid (P = (none, 1)) := by unfold Hid; rw [HP.out, hm]; rfl
    clear hm HP HF HM2 HG
    go_wp2
    rw [HE.out]
    exact bodyPost_ret (v := .tuple #[exV 0 0 [] none 0 0, .int .i64 1]) (by simp [results, Tryz.results18, go_sem, exV, x0, x1, x2, x3]) rfl (FiP.none_ (below_set4 hB1 (Nat.le_succ _) _ _ _ _))
  | true =>
    have HFF := Lib.hid (HF.out (HG.out hm) w1 hB1)
    have HP2 : Hid (P = if mayB (fillE env t) = true then (some (fillE env t), 0) else (none, 2)) := by unfold Hid; rw [HP.out, hm]; rfl
    clear hm HP HF HG
    generalize fillE env t = t1 at *
    go_wp2_with fail
    refine HFF.out.mono ?_
    rintro e w2 ⟨v2, rfl, hT2, hb2⟩
    obtain ⟨a2, cp2, rfl, -, -⟩ := hT2.open
    have hB2 := hB1.trans (hb2.mono hB1.size)
    have hx2 := hx1.below hb2 hxl
    have hxl2 := hx2.lt
    unfold exV at hT2 ⊢
    have hMM := Lib.hid (HM2.out _ _ (w2.alloc (.cells #[.int .i64 t1.op, .int .i64 t1.n, .string ⟨t1.name.toArray⟩, .slice a2 t1.kids.length cp2] 25)) (hB2.alloc hB2.size _) (hT2.alloc _))
    have hs1 : w.heap.size + 1 < w1.heap.size := hxl
    clear hx1 hy1 hb2 HFF x0 x1 x2 x3 fx0 fx1 fx2 fx3 y0 y1 y2 y3 HM2
    go_wp2_with fail
    refine hMM.out.mono ?_
    rintro e w3 ⟨rfl, hb3⟩
    have hx3 := (hx2.alloc (.cells #[.int .i64 t1.op, .int .i64 t1.n, .string ⟨t1.name.toArray⟩, .slice a2 t1.kids.length cp2] 25)).below hb3 (by simp; omega)
    have hq3 := (Box.new w2 25 #[.int .i64 t1.op, .int .i64 t1.n, .string ⟨t1.name.toArray⟩, .slice a2 t1.kids.length cp2]).below hb3 (by simp)
    have hB3 : Below w.heap.size w w3 := (hB2.alloc hB2.size (.cells #[.int .i64 t1.op, .int .i64 t1.n, .string ⟨t1.name.toArray⟩, .slice a2 t1.kids.length cp2] 25)).trans (hb3.mono (by have := hB2.size; simp; omega))
    have hT3 := (hT2.alloc (.cells #[.int .i64 t1.op, .int .i64 t1.n, .string ⟨t1.name.toArray⟩, .slice a2 t1.kids.length cp2] 25)).below hb3 (Nat.le_refl _)
    obtain ⟨x0, x1, x2, x3, fx0, fx1, fx2, fx3⟩ := hx3.four
    obtain ⟨q0, q1, q2, q3, -, -, -, -⟩ := hq3.four
    have hxl3 := hx3.lt
    have hql3 := hq3.lt
    have hne : w.heap.size + 1 < w2.heap.size := hxl2
    clear hx2 hx3 hq3 hb3 hMM hT2
    cases hm2 : mayB t1 with
    | false =>
      have HE : Hid (P = (none, 2)) := by unfold Hid; rw [HP2.out, hm2]; rfl
      clear hm2 HP2
      go_wp2
      rw [HE.out]
      exact bodyPost_ret (v := .tuple #[exV 0 0 [] none 0 0, .int .i64 2]) (by simp [results, Tryz.results18, go_sem, exV, x0, x1, x2, x3]) rfl (FiP.none_ (below_set4 hB3 (Nat.le_succ _) _ _ _ _))
    | true =>
      have HE : Hid (P = (some t1, 0)) := by unfold Hid; rw [HP2.out, hm2]; rfl
      clear hm2 HP2
      go_wp2
      rw [HE.out]
      refine bodyPost_ret (v := .tuple #[exV t1.op t1.n t1.name a2 t1.kids.length cp2, .int .i64 0]) (by simp [results, Tryz.results18, go_sem, exV, x0, x1, x2, x3]) rfl (FiP.some_ ?_ (below_set4 hB3 (Nat.le_succ _) _ _ _ _))
      exact TreeV.low (fun q hq => by have : w1.heap.size ≤ q := hq; omega) _ _ (TreeV.keep (by rw [size4]; exact Nat.le_refl _) (fun q hq _ => block4 _ _ _ _ _ _ _ (by have : w1.heap.size ≤ q := hq; omega)) _ _ hT3)
set_option maxRecDepth 100000 in
set_option maxHeartbeats 4000000 in
theorem refFill_any (env : List (List UInt8 × Int)) (t : Ex) (lo : Nat → Prop) (v ve : Value) (w : World) (hT : TreeV lo w t v) (hE : EnvV w env ve) (hO : Ops w) (hN : numsE t) (hsh : shortE t) :
    Calls Tryz.prog 19 #[v, ve] w (FiP (fillP env t) w) := by
  obtain ⟨a, cap, rfl, -, -⟩ := hT.open
  have hb0 := ((Below.refl w.heap.size w).alloc (Nat.le_refl _) (.cells #[.int .i64 t.op, .int .i64 t.n, .string ⟨t.name.toArray⟩, .slice a t.kids.length cap] 25)).alloc (by simp) (.cells #[.int .i64 0, .int .i64 0, .string ⟨#[]⟩, .slice none 0 0] 25)
  have hx := box_b w (.cells #[.int .i64 t.op, .int .i64 t.n, .string ⟨t.name.toArray⟩, .slice a t.kids.length cap] 25) 25 #[.int .i64 0, .int .i64 0, .string ⟨#[]⟩, .slice none 0 0]
  have hy := box_a w (.cells #[.int .i64 0, .int .i64 0, .string ⟨#[]⟩, .slice none 0 0] 25) 25 #[.int .i64 t.op, .int .i64 t.n, .string ⟨t.name.toArray⟩, .slice a t.kids.length cap]
  have HM : Hid (∀ wx, Below w.heap.size w wx → Calls Tryz.prog 15 #[exV t.op t.n t.name a t.kids.length cap] wx (BoB (mayB t) wx)) := fun wx h => refMay_any t lo _ wx (hT.below h (Nat.le_refl _)) hsh
  have HF : Hid (goodE t → ∀ wx, Below w.heap.size w wx → Calls Tryz.prog 37 #[exV t.op t.n t.name a t.kids.length cap, ve] wx (FlP (fillE env t) wx)) := fun hg wx h => rfill_any env t hg lo _ ve wx (hT.below h (Nat.le_refl _)) (hE.below h (Nat.le_refl _)) (hO.below h hO.lt)
  have HM2 : Hid (∀ (S : Nat → Prop) (x : Value) (wx : World), Below w.heap.size w wx → TreeV S wx (fillE env t) x → Calls Tryz.prog 15 #[x] wx (BoB (mayB (fillE env t)) wx)) := fun S x wx h hx => refMay_any _ S _ wx hx (fill_short env t hsh)
  have HP : Hid (fillP env t = if mayB t = true then (if mayB (fillE env t) = true then (some (fillE env t), 0) else (none, 2)) else (none, 1)) := rfl
  have HG : Hid (mayB t = true → goodE t) := fun h => may_good h hN
  unfold exV at HM HF ⊢
  obtain ⟨ea, ecap, rfl, -, -⟩ := hE.form
  clear hT hE hO hsh
  generalize hP : fillP env t = P at HP ⊢
  clear hP
  generalize env.length = el at *
  go_enter Tryz.func19, Tryz.ntmps19
  go_wp2_with fail
  generalize ((w.alloc (.cells #[.int .i64 t.op, .int .i64 t.n, .string ⟨t.name.toArray⟩, .slice a t.kids.length cap] 25)).alloc (.cells #[.int .i64 0, .int .i64 0, .string ⟨#[]⟩, .slice none 0 0] 25)) = w0 at *
  refine (HM.out w0 hb0).mono ?_
  rintro e w1 ⟨rfl, hb1⟩
  have hs0 : w.heap.size + 1 < w0.heap.size := hx.lt
  have hB1 : Below w.heap.size w w1 := hb0.trans (hb1.mono (by omega))
  have hx1 := hx.below hb1 hx.lt
  have hy1 := hy.below hb1 hy.lt
  obtain ⟨x0, x1, x2, x3, fx0, fx1, fx2, fx3⟩ := hx1.four
  obtain ⟨y0, y1, y2, y3, -, -, -, -⟩ := hy1.four
  have hxl := hx1.lt
  have hyl := hy1.lt
  clear hx hy hb1 HM hb0
  cases hm : mayB t with
  | false =>
    have HE : Hid (P = (none, 1)) := by unfold Hid; rw [HP.out, hm]; rfl
    clear hm HP HF HM2 HG
    go_wp2
    rw [HE.out]
    exact bodyPost_ret (v := .tuple #[exV 0 0 [] none 0 0, .int .i64 1]) (by simp [results, Tryz.results19, go_sem, exV, x0, x1, x2, x3]) rfl (FiP.none_ (below_set4 hB1 (Nat.le_succ _) _ _ _ _))
  | true =>
    have HFF := Lib.hid (HF.out (HG.out hm) w1 hB1)
    have HP2 : Hid (P = if mayB (fillE env t) = true then (some (fillE env t), 0) else (none, 2)) := by unfold Hid; rw [HP.out, hm]; rfl
    clear hm HP HF HG
    generalize fillE env t = t1 at *
    go_wp2_with fail
    refine HFF.out.mono ?_
    rintro e w2 ⟨v2, rfl, hT2, hb2⟩
    obtain ⟨a2, cp2, rfl, -, -⟩ := hT2.open
    have hB2 := hB1.trans (hb2.mono hB1.size)
    have hx2 := hx1.below hb2 hxl
    have hxl2 := hx2.lt
    unfold exV at hT2 ⊢
    have hMM := Lib.hid (HM2.out _ _ (w2.alloc (.cells #[.int .i64 t1.op, .int .i64 t1.n, .string ⟨t1.name.toArray⟩, .slice a2 t1.kids.length cp2] 25)) (hB2.alloc hB2.size _) (hT2.alloc _))
    have hs1 : w.heap.size + 1 < w1.heap.size := hxl
    clear hx1 hy1 hb2 HFF x0 x1 x2 x3 fx0 fx1 fx2 fx3 y0 y1 y2 y3 HM2
    go_wp2_with fail
    refine hMM.out.mono ?_
    rintro e w3 ⟨rfl, hb3⟩
    have hx3 := (hx2.alloc (.cells #[.int .i64 t1.op, .int .i64 t1.n, .string ⟨t1.name.toArray⟩, .slice a2 t1.kids.length cp2] 25)).below hb3 (by simp; omega)
    have hq3 := (Box.new w2 25 #[.int .i64 t1.op, .int .i64 t1.n, .string ⟨t1.name.toArray⟩, .slice a2 t1.kids.length cp2]).below hb3 (by simp)
    have hB3 : Below w.heap.size w w3 := (hB2.alloc hB2.size (.cells #[.int .i64 t1.op, .int .i64 t1.n, .string ⟨t1.name.toArray⟩, .slice a2 t1.kids.length cp2] 25)).trans (hb3.mono (by have := hB2.size; simp; omega))
    have hT3 := (hT2.alloc (.cells #[.int .i64 t1.op, .int .i64 t1.n, .string ⟨t1.name.toArray⟩, .slice a2 t1.kids.length cp2] 25)).below hb3 (Nat.le_refl _)
    obtain ⟨x0, x1, x2, x3, fx0, fx1, fx2, fx3⟩ := hx3.four
    obtain ⟨q0, q1, q2, q3, -, -, -, -⟩ := hq3.four
    have hxl3 := hx3.lt
    have hql3 := hq3.lt
    have hne : w.heap.size + 1 < w2.heap.size := hxl2
    clear hx2 hx3 hq3 hb3 hMM hT2
    cases hm2 : mayB t1 with
    | false =>
      have HE : Hid (P = (none, 2)) := by unfold Hid; rw [HP2.out, hm2]; rfl
      clear hm2 HP2
      go_wp2
      rw [HE.out]
      exact bodyPost_ret (v := .tuple #[exV 0 0 [] none 0 0, .int .i64 2]) (by simp [results, Tryz.results19, go_sem, exV, x0, x1, x2, x3]) rfl (FiP.none_ (below_set4 hB3 (Nat.le_succ _) _ _ _ _))
    | true =>
      have HE : Hid (P = (some t1, 0)) := by unfold Hid; rw [HP2.out, hm2]; rfl
      clear hm2 HP2
      go_wp2
      rw [HE.out]
      refine bodyPost_ret (v := .tuple #[exV t1.op t1.n t1.name a2 t1.kids.length cp2, .int .i64 0]) (by simp [results, Tryz.results19, go_sem, exV, x0, x1, x2, x3]) rfl (FiP.some_ ?_ (below_set4 hB3 (Nat.le_succ _) _ _ _ _))
      exact TreeV.low (fun q hq => by have : w1.heap.size ≤ q := hq; omega) _ _ (TreeV.keep (by rw [size4]; exact Nat.le_refl _) (fun q hq _ => block4 _ _ _ _ _ _ _ (by have : w1.heap.size ≤ q := hq; omega)) _ _ hT3)
end Go.Proofs.YtinocaggponpmaaGreatDoor.Ep

namespace Go.Proofs.YtinocaggponpmaaGreatDoor.Ep
open Go.RowKit Lx

def EvP2 (p : Int × Int) (w : World) (e : Ending) (w' : World) : Prop := e = .returned (.tuple #[.int .i64 p.1, .int .i64 p.2]) ∧ Below w.heap.size w w'
def FsPost (w : World) (e : Ending) (w' : World) : Prop := e = .returned (.bool true) ∧ Below w.heap.size w w'
theorem fillP_cases (env : List (List UInt8 × Int)) (hN : numsC env) (t : Ex) (ht : numsE t) (_hs : shortE t) :
    k2E ((fillP env t).1.getD (.mk 0 0 [] [])) ∧ ((fillP env t).2 = 0 → numsE ((fillP env t).1.getD (.mk 0 0 [] [])) ∧ evalE env ((fillP env t).1.getD (.mk 0 0 [] [])) = evalE env t ∧ ∀ nm ∈ namesP ((fillP env t).1.getD (.mk 0 0 [] [])), findC env nm = none) := by
  unfold fillP
  by_cases h : mayB t = true
  · rw [if_pos h]
    have hg := fill_good env hN t (may_good h ht)
    by_cases h2 : mayB (fillE env t) = true
    · rw [if_pos h2]
      exact ⟨good_k2 _ hg, fun _ => ⟨good_nums _ hg, fill_eval env hN t ht h h2, free_namesP env _ (fill_free env t)⟩⟩
    · rw [if_neg h2]
      exact ⟨by simp [k2E, k2L], fun h => by cases h⟩
  · rw [if_neg h]
    exact ⟨by simp [k2E, k2L], fun h => by cases h⟩
theorem insN_len2 (l : List (List UInt8)) (nm : List UInt8) : (insN l nm).length ≤ l.length + 1 := by
  unfold insN
  split
  · omega
  · have : ∀ l, (putN nm l).length = l.length + 1 := by
      intro l
      induction l with
      | nil => rfl
      | cons x l ih => rw [putN]; split <;> simp [ih]
    rw [this]; exact Nat.le_refl _
theorem fold_len2 : ∀ (ns l : List (List UInt8)), (ns.foldl insN l).length ≤ l.length + ns.length
  | [], l => by simp
  | n :: ns, l => by
    rw [List.foldl_cons, List.length_cons]
    have h1 := fold_len2 ns (insN l n)
    have h2 := insN_len2 l n
    omega
theorem namesP_len {t : Ex} (hN : numsE t) : (namesP t).length ≤ 1000000 := by
  unfold namesP
  split
  · rename_i hm
    have h1 := fold_len2 (namesE t) []
    have h2 := may_names hm hN
    simp at h1
    omega
  · simp

def FlRel (len : Nat) (w : World) (i : Value) (wr : World) : Prop := ∃ k : Nat, i = .int .i64 (k : Int) ∧ k ≤ len ∧ w = wr
set_option maxRecDepth 100000 in
set_option maxHeartbeats 8000000 in
theorem fills_walk (v ve : Value) (t : Ex) (env : List (List UInt8 × Int)) (w : World) (hT : TreeV (fun _ => True) w t v) (hN : numsE t) (hE : EnvA w env ve) (hTab : Tab w) (hO : Ops w) :
    Calls Tryz.prog 5 #[v, ve] w (FsPost w) := by
  obtain ⟨va, vcap, rfl, hvc, hvk⟩ := hT.open
  unfold exV at hT ⊢
  have hx0 := Box.new w 25 #[.int .i64 t.op, .int .i64 t.n, .string ⟨t.name.toArray⟩, .slice va t.kids.length vcap]
  have hbA : Below w.heap.size w (w.alloc (.cells #[.int .i64 t.op, .int .i64 t.n, .string ⟨t.name.toArray⟩, .slice va t.kids.length vcap] 25)) := (Below.refl _ _).alloc (Nat.le_refl _) _
  have hO0 := hO.below hbA hO.lt
  have hTab0 := Tab.belowB hTab hbA (Tab.lt hTab)
  have HS0 : Hid (env.length ≤ 1000 → EnvV w env ve) := fun h => hE.short (by omega)
  have HFA : Hid (env.length ≤ 1000 → ∀ wx, Below w.heap.size w wx → Calls Tryz.prog 18 #[.agg #[.int .i64 t.op, .int .i64 t.n, .string ⟨t.name.toArray⟩, .slice va t.kids.length vcap], ve] wx (FiP (fillP env t) wx)) := fun hl wx hb => Fill_any env t _ _ ve wx (hT.below hb (Nat.le_refl _)) ((HS0.out hl).below hb (Nat.le_refl _)) (hO.below hb hO.lt) hN
  have HFB : Hid (env.length ≤ 1000 → shortE t → ∀ wx, Below w.heap.size w wx → Calls Tryz.prog 19 #[.agg #[.int .i64 t.op, .int .i64 t.n, .string ⟨t.name.toArray⟩, .slice va t.kids.length vcap], ve] wx (FiP (fillP env t) wx)) := fun hl hs wx hb => refFill_any env t _ _ ve wx (hT.below hb (Nat.le_refl _)) ((HS0.out hl).below hb (Nat.le_refl _)) (hO.below hb hO.lt) hN hs
  have HEV : Hid (env.length ≤ 1000 → ∀ wx, Below w.heap.size w wx → Calls Tryz.prog 20 #[.agg #[.int .i64 t.op, .int .i64 t.n, .string ⟨t.name.toArray⟩, .slice va t.kids.length vcap], ve] wx (EvP2 (evalE env t) wx)) := fun hl wx hb => Eval_any t _ _ ve env wx (hO.below hb hO.lt) (hT.below hb (Nat.le_refl _)) ((HS0.out hl).below hb (Nat.le_refl _)) hN
  have HEX : Hid (env.length ≤ 1000 → ∀ (S : Nat → Prop) (T : Ex) (x : Value) (wx : World), Below w.heap.size w wx → TreeV S wx T x → numsE T → Calls Tryz.prog 20 #[x, ve] wx (EvP2 (evalE env T) wx)) := fun hl S T x wx hb hx hn => Eval_any T S x ve env wx (hO.below hb hO.lt) hx ((HS0.out hl).below hb (Nat.le_refl _)) hn
  have HNX : Hid (∀ (S : Nat → Prop) (T : Ex) (x : Value) (wx : World), Below w.heap.size w wx → TreeV S wx T x → numsE T → Calls Tryz.prog 12 #[x] wx (NsPost (namesP T) wx)) := fun S T x wx hb hx hn => Names_any T S x wx (hO.below hb hO.lt) hx hn
  have HCE : Hid (env.length ≤ 1000 → ∀ (s : List UInt8) (wx : World), Below w.heap.size w wx → Calls Tryz.prog 21 #[ve, .string ⟨s.toArray⟩] wx fun e w' => e = .returned (.tuple #[.int .i64 ((findC env s).getD 0), .bool (findC env s).isSome]) ∧ wx = w') := fun hl s wx hb => refCell_any env s ve wx ((HS0.out hl).below hb (Nat.le_refl _))
  have HLt : Hid (∀ w' : World, Below w.heap.size w w' → Calls Tryz.prog 10 #[.agg #[.int .i64 t.op, .int .i64 t.n, .string ⟨t.name.toArray⟩, .slice va t.kids.length vcap], .int .i64 400] w' (LsPost t w')) := fun w' hb => light_short t _ _ w' (hT.below hb (Nat.le_refl _))
  have HNC : Hid (numsC env) := hE.2
  have HNT := Lib.hid hN
  obtain ⟨⟨ea, ecap, rfl, hec, hem, -⟩, -⟩ := hE
  clear hvk hT hO hTab hN HS0
  generalize hel : env.length = el at *
  clear hel
  go_enter Tryz.func5, Tryz.ntmps5
  go_wp2_with fail
  generalize w.alloc (.cells #[.int .i64 t.op, .int .i64 t.n, .string ⟨t.name.toArray⟩, .slice va t.kids.length vcap] 25) = w0 at *
  refine (awake_any w0 hO0 hTab0).mono ?_
  rintro e w1 ⟨rfl, hb1⟩
  have hx1 := hx0.below hb1 hx0.lt
  have hB1 := hbA.trans (hb1.mono hbA.size)
  clear hx0 hO0 hTab0 hb1 hbA
  obtain ⟨a0, a1, a2, a3, _, _, _, _⟩ := hx1.four
  go_wp2_with fail
  refine (HLt.out w1 hB1).mono ?_
  rintro e w2 ⟨lb, rfl, HS, hb2⟩
  have hx2 := hx1.below hb2 hx1.lt
  have hB2 := hB1.trans (hb2.mono hB1.size)
  clear hx1 hb2 hB1 a0 a1 a2 a3 HLt
  obtain ⟨a0, a1, a2, a3, _, _, _, _⟩ := hx2.four
  cases lb
  · clear HFA HFB HEV HEX HNX HCE HS
    go_wp2
    go_ret
    exact ⟨rfl, hB2⟩
  · by_cases hel : el ≤ 1000
    · have d0 : decide ((1000 : Int) < el) = false := decide_eq_false (by omega)
      have hsh := HS.out rfl
      have HA := Lib.hid (HFA.out hel)
      have HBB := Lib.hid (HFB.out hel hsh)
      have HV := Lib.hid (HEV.out hel)
      have HX := Lib.hid (HEX.out hel)
      have HCC := Lib.hid (HCE.out hel)
      have hcs := fillP_cases env HNC.out t HNT.out hsh
      have HK2 := Lib.hid hcs.1
      have HZ := Lib.hid hcs.2
      clear HFA HFB HEV HEX HCE HS hsh hcs HNC HNT
      have hxl2 := hx2.lt
      go_wp2_with fail
      refine (HA.out w2 hB2).mono ?_
      rintro e w3 ⟨xa, xc, rfl, hT3, hb3⟩
      have hB3 := hB2.trans (hb3.mono hB2.size)
      have hx3 := hx2.below hb3 hxl2
      have HGB : Hid (∀ wx wy e, FiP (fillP env t) wx e wy → ∃ a cp, e = .returned (.tuple #[exV (((fillP env t).1.getD (.mk 0 0 [] [])).op) (((fillP env t).1.getD (.mk 0 0 [] [])).n) (((fillP env t).1.getD (.mk 0 0 [] [])).name) a ((fillP env t).1.getD (.mk 0 0 [] [])).kids.length cp, .int .i64 (fillP env t).2]) ∧ TreeV (fun k => wx.heap.size ≤ k) wy ((fillP env t).1.getD (.mk 0 0 [] [])) (exV (((fillP env t).1.getD (.mk 0 0 [] [])).op) (((fillP env t).1.getD (.mk 0 0 [] [])).n) (((fillP env t).1.getD (.mk 0 0 [] [])).name) a ((fillP env t).1.getD (.mk 0 0 [] [])).kids.length cp) ∧ Below wx.heap.size wx wy) := fun _ _ _ h => h
      have HB0 : Hid (∀ wx, Below w.heap.size w wx → Calls Tryz.prog 19 #[.agg #[.int .i64 t.op, .int .i64 t.n, .string ⟨t.name.toArray⟩, .slice va t.kids.length vcap], .slice ea el ecap] wx fun e w' => ∃ a cp, e = .returned (.tuple #[exV (((fillP env t).1.getD (.mk 0 0 [] [])).op) (((fillP env t).1.getD (.mk 0 0 [] [])).n) (((fillP env t).1.getD (.mk 0 0 [] [])).name) a ((fillP env t).1.getD (.mk 0 0 [] [])).kids.length cp, .int .i64 (fillP env t).2]) ∧ TreeV (fun k => wx.heap.size ≤ k) w' ((fillP env t).1.getD (.mk 0 0 [] [])) (exV (((fillP env t).1.getD (.mk 0 0 [] [])).op) (((fillP env t).1.getD (.mk 0 0 [] [])).n) (((fillP env t).1.getD (.mk 0 0 [] [])).name) a ((fillP env t).1.getD (.mk 0 0 [] [])).kids.length cp) ∧ Below wx.heap.size wx w') := fun wx h => HBB.out wx h
      clear HGB HBB hb3 hx2 a0 a1 a2 a3 HA
      generalize (fillP env t).1.getD (.mk 0 0 [] []) = T at *
      generalize (fillP env t).2 = f at *
      obtain ⟨a0, a1, a2, a3, _, _, _, _⟩ := hx3.four
      have hxl3 := hx3.lt
      have hx3a := hx3.alloc (.cells #[.int .i64 T.op, .int .i64 T.n, .string ⟨T.name.toArray⟩, .slice xa T.kids.length xc] 25)
      have hq3 := Box.new w3 25 #[.int .i64 T.op, .int .i64 T.n, .string ⟨T.name.toArray⟩, .slice xa T.kids.length xc]
      have hB3a := hB3.alloc hB3.size (.cells #[.int .i64 T.op, .int .i64 T.n, .string ⟨T.name.toArray⟩, .slice xa T.kids.length xc] 25)
      have hT3a := hT3.alloc (.cells #[.int .i64 T.op, .int .i64 T.n, .string ⟨T.name.toArray⟩, .slice xa T.kids.length xc] 25)
      clear hT3 hx3
      unfold exV at hT3a ⊢
      go_wp2_with fail
      refine (HB0.out _ hB3a).mono ?_
      rintro e w4 ⟨ya, yc, rfl, hT4, hb4⟩
      have hB4 := hB3a.trans (hb4.mono hB3a.size)
      have hx4 := hx3a.below hb4 hx3a.lt
      have hq4 := hq3.below hb4 hq3.lt
      have hT34 := hT3a.below hb4 (Nat.le_refl _)
      clear hx3a hq3 hb4 hT3a HB0 hB3a a0 a1 a2 a3
      unfold exV at hT4 ⊢
      have hx5 := hx4.alloc (.cells #[.int .i64 T.op, .int .i64 T.n, .string ⟨T.name.toArray⟩, .slice ya T.kids.length yc] 25)
      have hq5 := hq4.alloc (.cells #[.int .i64 T.op, .int .i64 T.n, .string ⟨T.name.toArray⟩, .slice ya T.kids.length yc] 25)
      have hr5 := Box.new w4 25 #[.int .i64 T.op, .int .i64 T.n, .string ⟨T.name.toArray⟩, .slice ya T.kids.length yc]
      have hT5 := hT34.alloc (.cells #[.int .i64 T.op, .int .i64 T.n, .string ⟨T.name.toArray⟩, .slice ya T.kids.length yc] 25)
      have hT5' := hT4.alloc (.cells #[.int .i64 T.op, .int .i64 T.n, .string ⟨T.name.toArray⟩, .slice ya T.kids.length yc] 25)
      have hB5 := hB4.alloc hB4.size (.cells #[.int .i64 T.op, .int .i64 T.n, .string ⟨T.name.toArray⟩, .slice ya T.kids.length yc] 25)
      have HSM := Lib.hid (same_any T _ _ _ _ _ HK2.out hT5 hT5')
      clear hx4 hq4 hT34 hT4 hT5'
      obtain ⟨q0, q1, q2, q3, -, -, -, -⟩ := hq5.four
      obtain ⟨r0, r1, r2, r3, -, -, -, -⟩ := hr5.four
      have hql := hq5.lt
      go_wp2_with fail
      refine HSM.out.mono ?_
      rintro e w6 ⟨rfl, hb6⟩
      have hx6 := hx5.below hb6 hx5.lt
      have hq6 := hq5.below hb6 hq5.lt
      have hT6 := hT5.below hb6 (Nat.le_refl _)
      have hB6 := hB5.trans (hb6.mono hB5.size)
      clear HSM hx5 hq5 hr5 hT5 hB5 hb6 q0 q1 q2 q3 r0 r1 r2 r3 hql
      obtain ⟨a0, a1, a2, a3, _, _, _, _⟩ := hx6.four
      obtain ⟨q0, q1, q2, q3, -, -, -, -⟩ := hq6.four
      have hxl6 := hx6.lt
      have hql6 := hq6.lt
      have dff : (f != f) = false := by simp
      by_cases hf : f = 0
      · obtain ⟨hnT, hevT, hfree⟩ := HZ.out hf
        have df : (f != 0) = false := by simp [hf]
        have HFREE := Lib.hid hfree
        have HNL := Lib.hid (namesP_len hnT)
        have HEQ := Lib.hid hevT
        clear hf hevT hfree HZ
        go_wp2_with fail
        refine (HV.out w6 hB6).mono ?_
        rintro e w7 ⟨rfl, hb7⟩
        have hx7 := hx6.below hb7 hxl6
        have hq7 := hq6.below hb7 hql6
        have hT7 := hT6.below hb7 (Nat.le_refl _)
        have hB7 := hB6.trans (hb7.mono hB6.size)
        have HX7 := Lib.hid (HX.out _ T _ w7 hB7 hT7 hnT)
        rw [HEQ.out] at HX7
        clear hx6 hq6 hT6 hb7 HV HX a0 a1 a2 a3 q0 q1 q2 q3
        obtain ⟨q0, q1, q2, q3, -, -, -, -⟩ := hq7.four
        have hql7 := hq7.lt
        generalize evalE env t = p at *
        go_wp2_with fail
        refine HX7.out.mono ?_
        rintro e w8 ⟨rfl, hb8⟩
        have hq8 := hq7.below hb8 hql7
        have hT8 := hT7.below hb8 (Nat.le_refl _)
        have hB8 := hB7.trans (hb8.mono hB7.size)
        have HN8 := Lib.hid (HNX.out _ T _ w8 hB8 hT8 hnT)
        clear hq7 hT7 hb8 HX7 HNX q0 q1 q2 q3 hx7
        obtain ⟨q0, q1, q2, q3, -, -, -, -⟩ := hq8.four
        have hql8 := hq8.lt
        have dp1 : (p.1 != p.1) = false := by simp
        have dp2 : (p.2 != p.2) = false := by simp
        generalize namesP T = R at *
        go_wp2_with fail
        refine HN8.out.mono ?_
        rintro e w9 ⟨v9, rfl, hr9, hb9⟩
        have hB9 := hB8.trans (hb9.mono hB8.size)
        obtain ⟨ra, rc, rfl, hrc, hrk⟩ := hr9
        have HRK := Lib.hid hrk
        have hRl := HNL.out
        clear hrk HN8 hq8 hT8 hb9 q0 q1 q2 q3 HNL
        generalize hRL : R.length = rl at *
        have HRL := Lib.hid hRL
        clear hRL
        go_wp2_with fail
        go_loopw [17] (FlRel rl w9) (fun i _ => rl - (intOf i).toNat)
        case atStart => exact ⟨0, rfl, Nat.zero_le _, rfl⟩
        case round =>
          obtain ⟨k, rfl, hk, rfl⟩ := hrel
          by_cases hlt : k < rl
          · have hkR : k < R.length := by rw [HRL.out]; exact hlt
            have hne : R ≠ [] := by intro e; rw [e] at hkR; simp at hkR
            obtain ⟨g, rfl, hg, hcs⟩ := HRK.out hne
            have c1 : w9.cell? ⟨g, k, none⟩ = some (.string ⟨(R.getD k []).toArray⟩) := hcs k hlt
            have hki : (k : Int) < (rl : Int) := by omega
            have hfr : findC env (R.getD k []) = none := HFREE.out _ (by rw [List.getD_eq_getElem?_getD, List.getElem?_eq_getElem hkR]; exact List.getElem_mem hkR)
            have HC9 := HCC.out (R.getD k []) w9 hB9
            rw [hfr] at HC9
            have HC10 := Lib.hid HC9
            clear hcs HRK hfr HC9 HFREE HCC
            generalize R.getD k [] = x at *
            go_wp2_with fail
            refine HC10.out.mono ?_
            rintro e w10 ⟨rfl, rfl⟩
            go_wp2
            go_roundw
            case rel => exact ⟨k + 1, by go_num, by omega, rfl⟩
            case measure => simp [intOf]; omega
          · clear HRK HFREE HCC
            go_wp2
            go_ret
            exact ⟨rfl, hB9⟩
      · have df : (f != 0) = true := by simpa using hf
        clear hf HZ HV HX HNX HCC
        go_wp2
        go_ret
        exact ⟨rfl, hB6⟩
    · have d0 : decide ((1000 : Int) < el) = true := decide_eq_true (by omega)
      clear HFA HFB HEV HEX HNX HCE HS
      go_wp2
      go_ret
      exact ⟨rfl, hB2⟩
end Go.Proofs.YtinocaggponpmaaGreatDoor.Ep

namespace Go.Proofs.YtinocaggponpmaaGreatDoor.ExprFills
open Go.ChangeShapes Go.WideShapes Go.ChangeAt Go.RowKit Ep

theorem laidOut : laidOutB Tryz.prog = true := by kernel_rfl
theorem readable_e : Tryz.prog.readableRec 25 = true := by kernel_rfl
theorem readable_c : Tryz.prog.readableRec 37 = true := by kernel_rfl
theorem row_c : 37 < Tryz.prog.types.size := of_decide_eq_true (by kernel_rfl)
theorem row_e : 25 < Tryz.prog.types.size := of_decide_eq_true (by kernel_rfl)

set_option maxRecDepth 100000 in
theorem contract (H : Type) (enc : TypeId × Value → H) (W : World) (base : Nat) (args : Array Value) (ds gs : List (DataW H)) (before : List MemPlace)
    (hval : ∀ (j : Nat) t v, Tryz.f5.params[j]? = some t → args[j]? = some v → Value.okWide Tryz.prog W .any base t v)
    (hW : DataW.Whole enc Tryz.prog Tryz.f5.params.toList Rows.exprFillsSpec.vars false W args.toList ds gs before) (hL : laidMetH Tryz.prog Rows.exprFillsRow.laid W) :
    Calls Tryz.prog 5 args W fun e W' => ∃ v, e = .returned v ∧ Rows.exprFillsSpec.post enc Tryz.prog Tryz.f5 false true false false W args v W' := by
  have hW' := hW
  obtain ⟨p, q, hA0, hV, rfl, hfz, hnd⟩ := hW
  have hA : DataW.TrodAll enc Tryz.prog W 0 (fun _ => true) true Tryz.f5.params.toList args.toList ds p := hA0
  rw [Tryz.params5] at hA hval
  obtain ⟨v0, vs0, d0, ds0, p0, q0, hargs, rfl, rfl, h0, r0⟩ := trodAll_cons hA
  obtain ⟨v1, vs1, d1, ds1, p1, q1, rfl, rfl, rfl, h1, r1⟩ := trodAll_cons r0
  obtain ⟨rfl, rfl, rfl⟩ := trodAll_nil r1
  obtain rfl : args = #[v0, v1] := by cases args; simp_all
  obtain ⟨rfl, rfl⟩ := trodVars_none hV
  have hlt := hW'.lt
  have k0 := h0
  have k1 := h1
  obtain ⟨t0, hT0, hN0⟩ := open_tree (hval 0 25 v0 rfl rfl) k0
  obtain ⟨env, hE0⟩ := open_env (hval 1 37 v1 rfl rfl) k1
  clear hA0
  refine (fills_walk v0 v1 t0 env W hT0 hN0 hE0 (table hL) (opsTable hL)).mono fun e W' h => ?_
  obtain ⟨rfl, hb⟩ := h
  exact ⟨_, rfl, _, _, _, [], _, [], hW', trodAll_cons_mk (shut_bool Tryz.underlying4 _) trodAll_mk0, (trodAll_cons_mk (Below.trod laidOut readable_e row_e h0 hb (fun x hx => hlt x (by simp [hx]))) (trodAll_cons_mk (Below.trod laidOut readable_c row_c h1 hb (fun x hx => hlt x (by simp [hx]))) trodAll_mk0)), rfl, hb.frame _, fun h => by cases h⟩

set_option maxRecDepth 100000 in
theorem laid_met (os : Os) : laidMet Tryz.prog Rows.exprFillsRow.laid ((laidWorld os).forCall (fun _ _ => 0) ⟨#[], #[.agg #[.int .i64 0, .int .i64 0, .string ⟨#[]⟩, .slice none 0 0], .slice none 0 0], []⟩).memory :=
  laidMet_of_run' 8 (by kernel_rfl) (by kernel_rfl)
set_option maxRecDepth 100000 in
theorem reads (os : Os) {H : Type} (enc : TypeId × Value → H) : ∃ places, DataW.whole enc Tryz.prog ((laidWorld os).forCall (fun _ _ => 0) ⟨#[], #[.agg #[.int .i64 0, .int .i64 0, .string ⟨#[]⟩, .slice none 0 0], .slice none 0 0], []⟩).memory Tryz.f5.params.toList Rows.exprFillsSpec.vars false #[Value.agg #[.int .i64 0, .int .i64 0, .string ⟨#[]⟩, .slice none 0 0], .slice none 0 0].toList 8 = some ([.agg [.lit (.int .i64 0), .lit (.int .i64 0), .lit (.string []), .nil], .nil], [], places) :=
  ⟨[], by kernel_rfl⟩

set_option maxRecDepth 100000 in
theorem lifted (os : Os) (started : os.Started) (H : Type) (enc : TypeId × Value → H) (F : Stop.Interp) :
    ReturnsInHanded {} Tryz.checked os 5 .any ((OpenSpec.ofChange Rows.exprFillsSpec).preRow enc Tryz.prog Tryz.f5 Rows.exprFillsRow.domain false Rows.exprFillsRow.laid) (((OpenSpec.ofChange Rows.exprFillsSpec).at F).post enc Tryz.prog Tryz.f5 false true false false) := by
  obtain ⟨places, hx⟩ := reads os enc
  refine returnsInHanded_of_row (C := Tryz.checked) (s := OpenSpec.ofChange Rows.exprFillsSpec) own started (by kernel_rfl) Tryz.func5
    (witness_row_at (enc := enc) (C := Tryz.checked) false (laidWorld os) #[.agg #[.int .i64 0, .int .i64 0, .string ⟨#[]⟩, .slice none 0 0], .slice none 0 0] rfl (by kernel_rfl) (by kernel_rfl) (by kernel_rfl)
      (OpenSpec.preRow_of_cond 8 hx (by kernel_rfl) (fun k hk => by cases hk) (by kernel_rfl) (laid_met os))) ?_
  intro W base args ds gs before hval hW _ _ _ hL _ _
  exact contract H enc W base args ds gs before hval hW hL

theorem said : Rows.ExprFillsSaid :=
  OpenClaim.holds_of_cond 5 Tryz.f5 rfl rfl rfl rfl rfl rfl rfl ⟨rfl, rfl, rfl, rfl, rfl⟩ rfl rfl rfl rfl rfl (by kernel_rfl) Tryz.func5 (by kernel_rfl)
    (of_decide_eq_true (by kernel_rfl)) (by unfold Func.isWrapper; first | (rw [if_pos (by decide +kernel)]; kernel_rfl) | (rw [if_neg (by decide +kernel)]; exact ⟨rfl, rfl⟩))
    (fun os started H enc _ F => by rw [OpenClaim.pre_eq_preRow]; exact lifted os started H enc F)

theorem plain (f : FuncId) (fn : Func) (hf : Tryz.pinned.checked.prog.funcNamed "malthouse/malthouselaw02.ExprFills" = some f) (hfn : Tryz.pinned.checked.prog.funcs[f]? = some fn) :
    false = Tryz.pinned.checked.prog.looks [] ∧ ∀ (j : Nat) t, fn.params[j]? = some t → Tryz.pinned.checked.prog.wantsStandIn t = false := by
  obtain rfl : f = 5 := Option.some.inj ((show Tryz.prog.funcNamed "malthouse/malthouselaw02.ExprFills" = some 5 by kernel_rfl).symm.trans hf) |>.symm
  obtain rfl : fn = Tryz.f5 := (Option.some.inj (Tryz.func5.symm.trans hfn)).symm
  refine ⟨by kernel_rfl, fun j t ht => ?_⟩
  rw [Tryz.params5] at ht
  have hm : t ∈ [25, 37] := by simpa using Array.mem_of_getElem? ht
  have h0 : Tryz.prog.wantsStandIn 25 = false := by kernel_rfl
  have h1 : Tryz.prog.wantsStandIn 37 = false := by kernel_rfl
  simp only [List.mem_cons, List.not_mem_nil, or_false] at hm
  rcases hm with rfl | rfl
  · exact h0
  · exact h1

theorem card : Rows.ExprFillsCardSaid :=
  Claim7.holds_tied_plain_at .later [] _ _ _ _ said (fun _ h => by cases h) (by kernel_rfl) (fun _ h => by cases h) exprFills_row_tie rfl ⟨rfl, rfl⟩ (by kernel_rfl) rfl plain (by kernel_rfl)
end Go.Proofs.YtinocaggponpmaaGreatDoor.ExprFills
namespace Go.Proofs.YtinocaggponpmaaGreatDoor
theorem exprFills_holds : Rows.ExprFillsCardSaid := ExprFills.card
end Go.Proofs.YtinocaggponpmaaGreatDoor
