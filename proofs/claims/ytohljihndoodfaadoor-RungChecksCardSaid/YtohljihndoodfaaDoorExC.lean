/-
  Contracts of expr.value, May, Eval.
-/
import Derived.Test.YtohljihndoodfaaDoorExB
namespace Go.Proofs.YtohljihndoodfaaDoor.Ep
open Go.RowKit Lx

mutual
/-- Each node is well formed, each number a machine's. -/
def goodE : Ex → Prop
  | .mk op n nm ks => formedB op n nm ks.length = true ∧ (-9223372036854775808 ≤ n ∧ n ≤ 9223372036854775807) ∧ goodL ks
def goodL : List Ex → Prop
  | [] => True
  | k :: ks => goodE k ∧ goodL ks
end
mutual
/-- Each number is a machine's. -/
def numsE : Ex → Prop
  | .mk _ n _ ks => (-9223372036854775808 ≤ n ∧ n ≤ 9223372036854775807) ∧ numsL ks
def numsL : List Ex → Prop
  | [] => True
  | k :: ks => numsE k ∧ numsL ks
end
theorem goodL_all : ∀ (ks : List Ex), goodL ks ↔ ∀ k ∈ ks, goodE k
  | [] => by simp [goodL]
  | k :: ks => by rw [goodL, goodL_all ks]; simp
theorem numsL_all : ∀ (ks : List Ex), numsL ks ↔ ∀ k ∈ ks, numsE k
  | [] => by simp [numsL]
  | k :: ks => by rw [numsL, numsL_all ks]; simp

theorem spareE_nonpos (t : Ex) (m : Int) (h : m ≤ 0) : spareE t m = -1 := by
  cases t; unfold spareE; rw [if_pos (Or.inl h)]
theorem spareL_neg (op : Int) : ∀ (ks : List Ex) (i : Nat) (m : Int), m < 0 → spareL op ks i m < 0
  | [], i, m, h => by rw [spareL_nil]; exact h
  | k :: ks, i, m, h => by
    rw [spareL_cons, spareE_nonpos k _ (by split <;> omega)]
    exact spareL_neg op ks (i + 1) (-1) (by omega)
theorem spareL_good (op : Int) : ∀ (ks : List Ex), (∀ k ∈ ks, ∀ m, 0 ≤ spareE k m → numsE k → goodE k) → ∀ (i : Nat) (m : Int), 0 ≤ spareL op ks i m → numsL ks → goodL ks
  | [], _, _, _, _, _ => by simp [goodL]
  | k :: ks, ih, i, m, h, hn => by
    rw [spareL_cons] at h
    rw [numsL] at hn
    rw [goodL]
    by_cases h0 : spareE k (if enclB op k.op i = true then m - 2 else m) < 0
    · have := spareL_neg op ks (i + 1) _ h0
      omega
    · exact ⟨ih k (by simp) _ (Int.not_lt.1 h0) hn.1, spareL_good op ks (fun k' hk' => ih k' (by simp [hk'])) (i + 1) _ h hn.2⟩
theorem spare_good (t : Ex) : ∀ m, 0 ≤ spareE t m → numsE t → goodE t := by
  induction t using Ex.ind with
  | h op n nm ks ih =>
    intro m h hn
    unfold spareE at h
    rw [numsE] at hn
    split at h
    · omega
    · rename_i hc
      rw [goodE]
      refine ⟨?_, hn.1, spareL_good op ks ih 0 (m - 1) h hn.2⟩
      cases hf : formedB op n nm ks.length
      · exact absurd (Or.inr hf) hc
      · rfl
theorem may_good {t : Ex} (h : mayB t = true) (hn : numsE t) : goodE t := spare_good t 64 (by simpa [mayB] using h) hn

theorem valE_0 (env : List (List UInt8 × Int)) (op n : Int) (nm : List UInt8) (ks : List Ex) (h : opK op = 0) : valE env (.mk op n nm ks) = leafZ env op n nm := by
  rw [valE, if_pos h]; rfl
theorem valE_1 (env : List (List UInt8 × Int)) (op n : Int) (nm : List UInt8) (k : Ex) (h : opK op = 1) :
    valE env (.mk op n nm [k]) = if (valE env k).2 = 0 then oneZ op (valE env k).1 else (0, (valE env k).2) := by
  rw [valE, if_neg (by omega)]
  simp only [valL]
  by_cases h2 : (valE env k).2 = 0
  · simp [h2, h]
  · simp [h2]
theorem valE_2 (env : List (List UInt8 × Int)) (op n : Int) (nm : List UInt8) (k l : Ex) (h : opK op = 2) :
    valE env (.mk op n nm [k, l]) = if (valE env k).2 = 0 then (if (valE env l).2 = 0 then twoZ op (valE env k).1 (valE env l).1 else (0, (valE env l).2)) else (0, (valE env k).2) := by
  rw [valE, if_neg (by omega)]
  simp only [valL]
  by_cases h2 : (valE env k).2 = 0
  · by_cases h3 : (valE env l).2 = 0
    · simp [h2, h3]
    · simp [h2, h3]
  · simp [h2]

theorem chk_bd (z : Int) : -9223372036854775808 ≤ (chk z).1 ∧ (chk z).1 ≤ 9223372036854775807 := by
  unfold chk in64
  split
  · rename_i h; simpa using h
  · simp
theorem tru_bd (b : Bool) : -9223372036854775808 ≤ tru b ∧ tru b ≤ 9223372036854775807 := by cases b <;> decide
theorem oneZ_bd (op a : Int) : -9223372036854775808 ≤ (oneZ op a).1 ∧ (oneZ op a).1 ≤ 9223372036854775807 := by
  unfold oneZ; split
  · exact chk_bd _
  · exact tru_bd _
theorem tmod_bd (a b : Int) (h0 : -9223372036854775808 ≤ a) (h1 : a ≤ 9223372036854775807) : -9223372036854775808 ≤ Int.tmod a b ∧ Int.tmod a b ≤ 9223372036854775807 := by
  have e : (Int.tmod a b).natAbs = a.natAbs % b.natAbs := Int.natAbs_tmod a b
  have h2 : a.natAbs % b.natAbs ≤ a.natAbs := Nat.mod_le _ _
  have h3 : a < 0 → Int.tmod a b ≤ 0 := fun h => by
    have h4 : (-a).tmod b = -(a.tmod b) := Int.neg_tmod ..
    have h5 := Int.tmod_nonneg (a := -a) b (by omega)
    omega
  generalize a.natAbs % b.natAbs = q at e h2
  generalize Int.tmod a b = f at *
  omega
theorem twoZ_bd (op a b : Int) (h0 : -9223372036854775808 ≤ a) (h1 : a ≤ 9223372036854775807) : -9223372036854775808 ≤ (twoZ op a b).1 ∧ (twoZ op a b).1 ≤ 9223372036854775807 := by
  unfold twoZ
  repeat' split
  all_goals first | exact chk_bd _ | exact tru_bd _ | exact tmod_bd a b h0 h1 | decide
theorem findC_mem (env : List (List UInt8 × Int)) (s : List UInt8) (z : Int) (h : findC env s = some z) : ∃ c ∈ env, c.2 = z := by
  induction env with
  | nil => simp [findC] at h
  | cons c env ih =>
    obtain ⟨a, b⟩ := c
    rw [findC] at h
    split at h
    · simp at h; exact ⟨(a, b), by simp, h⟩
    · obtain ⟨c, hc, e⟩ := ih h; exact ⟨c, by simp [hc], e⟩

theorem kids_0 {op n : Int} {nm : List UInt8} {ks : List Ex} (h : formedB op n nm ks.length = true) (h0 : opK op = 0) : ks = [] := by
  have := (formed_true h).2
  cases ks with
  | nil => rfl
  | cons a b => simp at this; omega
theorem kids_1 {op n : Int} {nm : List UInt8} {ks : List Ex} (h : formedB op n nm ks.length = true) (h0 : opK op = 1) : ∃ k, ks = [k] := by
  have := (formed_true h).2
  cases ks with
  | nil => simp at this; omega
  | cons a b => cases b with
    | nil => exact ⟨a, rfl⟩
    | cons c d => simp at this; omega
theorem kids_2 {op n : Int} {nm : List UInt8} {ks : List Ex} (h : formedB op n nm ks.length = true) (h0 : opK op = 2) : ∃ k l, ks = [k, l] := by
  have := (formed_true h).2
  cases ks with
  | nil => simp at this; omega
  | cons a b => cases b with
    | nil => simp at this; omega
    | cons c d => cases d with
      | nil => exact ⟨a, c, rfl⟩
      | cons x y => simp at this; omega
theorem opK_012 {op : Int} (h : inT op = true) : opK op = 0 ∨ opK op = 1 ∨ opK op = 2 := by
  have hh := (inT_iff _).1 h
  have := opK_bd op.toNat (by omega)
  rw [Int.toNat_of_nonneg hh.1] at this
  omega

theorem valE_bd (env : List (List UInt8 × Int)) (hN : ∀ c ∈ env, -9223372036854775808 ≤ c.2 ∧ c.2 ≤ 9223372036854775807) (t : Ex) : goodE t → -9223372036854775808 ≤ (valE env t).1 ∧ (valE env t).1 ≤ 9223372036854775807 := by
  induction t using Ex.ind with
  | h op n nm ks ih =>
    intro hg
    rw [goodE] at hg
    obtain ⟨hf, hn, hl⟩ := hg
    rcases opK_012 (formed_true hf).1 with h | h | h
    · rw [valE_0 _ _ _ _ _ h]
      unfold leafZ
      split
      · exact hn
      · split
        · rename_i hz
          obtain ⟨c, hc, rfl⟩ := findC_mem env nm _ hz
          exact hN c hc
        · simp
    · obtain ⟨k, rfl⟩ := kids_1 hf h
      rw [valE_1 _ _ _ _ _ h]
      split
      · exact oneZ_bd _ _
      · simp
    · obtain ⟨k, l, rfl⟩ := kids_2 hf h
      rw [valE_2 _ _ _ _ _ _ h]
      rw [goodL, goodL] at hl
      have hk := ih k (by simp) hl.1
      split
      · split
        · exact twoZ_bd _ _ _ hk.1 hk.2
        · simp
      · simp

set_option maxHeartbeats 4000000 in
theorem value_any (t : Ex) : ∀ (lo : Nat → Prop) (v ve : Value) (env : List (List UInt8 × Int)) (w : World), Ops w → TreeV lo w t v → EnvV w env ve → goodE t →
    Calls Tryd.prog 30 #[v, ve] w fun e w' => e = .returned (.tuple #[.int .i64 (valE env t).1, .int .i64 (valE env t).2]) ∧ Below w.heap.size w w' := by
  induction t using Ex.ind with
  | h op n nm ks ih =>
    intro lo v ve env w hO hT hE hg
    have IH := Lib.hid ih
    clear ih
    rw [goodE] at hg
    obtain ⟨hf, hn, hgl⟩ := hg
    have HG := Lib.hid hgl
    obtain ⟨hin, hkl⟩ := formed_true hf
    obtain ⟨hi1, hi2⟩ := (inT_iff _).1 hin
    obtain ⟨o, rfl⟩ := Int.eq_ofNat_of_zero_le hi1
    have ho : o < 17 := by omega
    have hG := hO.lt
    have hK := hO.k o ho
    have HF := Lib.hid hf
    have HVB := Lib.hid (valE_bd env hE.nums)
    unfold TreeV at hT
    obtain ⟨a, cap, rfl, hcap, hk⟩ := hT
    obtain ⟨ea, ecap, rfl, hecap, hek⟩ := hE.form
    clear hecap hek hgl hf hkl hin hi1 hi2 hn
    have hb0 : ∀ x, Below w.heap.size w (w.alloc x) := fun x => (Below.refl _ _).alloc (Nat.le_refl _) _
    rcases opK_012 (formed_true HF.out).1 with h | h | h
    · rw [h] at hK
      have HX := Lib.hid (valE_0 env o n nm ks h)
      clear h hk
      generalize ks.length = len at *
      unfold exV
      go_enter Tryd.func30, Tryd.ntmps30
      go_wp2_with fail
      refine (leafValue_any o n nm a len cap env _ _ (hE.below (hb0 _) (Nat.le_refl _))).mono ?_
      rintro e w1 ⟨rfl, hb⟩
      rw [← HX.out]
      go_wp2
      go_ret2
      exact ⟨rfl, (hb0 _).trans (hb.mono (by simp))⟩
    · obtain ⟨k, rfl⟩ := kids_1 HF.out h
      rw [h] at hK
      have HX := Lib.hid (valE_1 env o n nm k h)
      clear h
      obtain ⟨g, off, rfl, hg1, hg2, hTL⟩ := hk (by simp)
      rw [TreeL] at hTL
      obtain ⟨⟨ka, kcap, c0, c1, c2, c3, hkt⟩, -⟩ := hTL
      have hgk := HG.out
      rw [goodL] at hgk
      have hIH := Lib.hid (IH.out k (by simp))
      unfold exV
      go_enter Tryd.func30, Tryd.ntmps30
      go_wp2_with fail
      refine (hIH.out lo _ _ env _ (hO.alloc _) (hkt.alloc _) (hE.below (hb0 _) (Nat.le_refl _)) hgk.1).mono ?_
      rintro e w1 ⟨rfl, hb⟩
      have hvb := HVB.out k hgk.1
      have HX2 := HX
      clear HX hk IH hIH hkt c0 c1 c2 c3 hgk
      have hb1 : Below w.heap.size w w1 := (hb0 _).trans (hb.mono (by simp))
      have d0 : w1.cell? ⟨w.heap.size, 0, none⟩ = some (.int .i64 o) := by rw [hb.cell (by simp)]; simp
      clear hb
      generalize valE env k = p at *
      obtain ⟨z, f⟩ := p
      by_cases hz : f = 0
      · have HY : Hid (oneZ o z = valE env (.mk o n nm [k])) := by unfold Hid; rw [HX2.out]; simp [hz]
        have d : (f != 0) = false := by simp [hz]
        clear hz HX2
        go_wp2_with fail
        refine (one_any _ _ _ hvb.1 hvb.2).mono ?_
        rintro e w2 ⟨rfl, rfl⟩
        go_wp2
        go_ret2
        exact ⟨ret_two HY.out, hb1⟩
      · have HY : Hid ((0, f) = valE env (.mk o n nm [k])) := by unfold Hid; rw [HX2.out]; simp [hz]
        have d : (f != 0) = true := by simp [hz]
        clear hz HX2
        go_wp2
        go_ret2
        exact ⟨ret_two HY.out, hb1⟩
    · obtain ⟨k, l, rfl⟩ := kids_2 HF.out h
      rw [h] at hK
      have HX := Lib.hid (valE_2 env o n nm k l h)
      clear h
      obtain ⟨g, off, rfl, hg1, hg2, hTL⟩ := hk (by simp)
      rw [TreeL, TreeL] at hTL
      obtain ⟨⟨ka, kcap, c0, c1, c2, c3, hkt⟩, ⟨la, lcap, e0, e1, e2, e3, hlt⟩, -⟩ := hTL
      have hgk := HG.out
      rw [goodL, goodL] at hgk
      have hIH := Lib.hid (IH.out k (by simp))
      have hJH := Lib.hid (IH.out l (by simp))
      have hvb := HVB.out k hgk.1
      have hvl := HVB.out l hgk.2.1
      clear hk IH
      unfold exV
      go_enter Tryd.func30, Tryd.ntmps30
      go_wp2_with fail
      refine (hIH.out lo _ _ env _ (hO.alloc _) (hkt.alloc _) (hE.below (hb0 _) (Nat.le_refl _)) hgk.1).mono ?_
      rintro e w1 ⟨rfl, hb⟩
      have hb1 : Below w.heap.size w w1 := (hb0 _).trans (hb.mono (by simp))
      have d0 : w1.cell? ⟨w.heap.size, 0, none⟩ = some (.int .i64 o) := by rw [hb.cell (by simp)]; simp
      have d3 : w1.cell? ⟨w.heap.size, 3, none⟩ = some (.slice (some ⟨g, off, none⟩) 2 cap) := by rw [hb.cell (by simp)]; simp
      have hsz : w.heap.size < w1.heap.size := by have := hb.size; simp at this; omega
      rw [← hb1.cell (p := ⟨g, _, none⟩) hg2] at e0 e1 e2 e3
      have hO1 := hO.below hb1 hG
      have hE1 := hE.below hb1 (Nat.le_refl _)
      have hl1 := hlt.below hb1 (Nat.le_refl _)
      clear hb hkt c0 c1 c2 c3 hIH hlt
      generalize valE env k = p at *
      obtain ⟨z, f⟩ := p
      by_cases hz : f = 0
      · have d : (f != 0) = false := by simp [hz]
        have HX2 : Hid (valE env (.mk o n nm [k, l]) = if (valE env l).2 = 0 then twoZ o z (valE env l).1 else (0, (valE env l).2)) := by unfold Hid; rw [HX.out]; simp [hz]
        clear hz HX
        go_wp2_with fail
        refine (hJH.out lo _ _ env _ hO1 hl1 hE1 hgk.2.1).mono ?_
        rintro e w2 ⟨rfl, hb2⟩
        have hb3 : Below w.heap.size w w2 := hb1.trans (hb2.mono hb1.size)
        rw [← hb2.cell (p := ⟨w.heap.size, _, none⟩) hsz] at d0
        clear hb2 hJH e0 e1 e2 e3 d3 hl1 hE1 hO1 hb1
        generalize valE env l = q at *
        obtain ⟨y, f2⟩ := q
        by_cases hy : f2 = 0
        · have HY : Hid (twoZ o z y = valE env (.mk o n nm [k, l])) := by unfold Hid; rw [HX2.out]; simp [hy]
          have d2 : (f2 != 0) = false := by simp [hy]
          clear hy HX2
          go_wp2_with fail
          refine (two_any _ _ _ _ hvb.1 hvb.2 hvl.1 hvl.2).mono ?_
          rintro e w3 ⟨rfl, rfl⟩
          go_wp2
          go_ret2
          exact ⟨ret_two HY.out, hb3⟩
        · have HY : Hid ((0, f2) = valE env (.mk o n nm [k, l])) := by unfold Hid; rw [HX2.out]; simp [hy]
          have d2 : (f2 != 0) = true := by simp [hy]
          clear hy HX2
          go_wp2
          go_ret2
          exact ⟨ret_two HY.out, hb3⟩
      · have HY : Hid ((0, f) = valE env (.mk o n nm [k, l])) := by unfold Hid; rw [HX.out]; simp [hz]
        have d : (f != 0) = true := by simp [hz]
        clear hz HX
        go_wp2
        go_ret2
        exact ⟨ret_two HY.out, hb1⟩

set_option maxHeartbeats 400000 in
theorem May_any (t : Ex) (lo : Nat → Prop) (v : Value) (w : World) (hO : Ops w) (hT : TreeV lo w t v) :
    Calls Tryd.prog 18 #[v] w fun e w' => e = .returned (.bool (mayB t)) ∧ Below w.heap.size w w' := by
  obtain ⟨a, cap, rfl, hc, hk⟩ := hT.open
  clear hc hk
  have HB := Lib.hid (spareE_bd t 64 (by omega))
  have HX : Hid (mayB t = decide (0 ≤ spareE t 64)) := rfl
  unfold exV
  go_enter Tryd.func18, Tryd.ntmps18
  go_wp2_with fail
  refine (spare_any t lo _ 64 _ (hO.alloc _) (hT.alloc _) (by omega) (by omega)).mono ?_
  rintro e w1 ⟨rfl, hb⟩
  generalize spareE t 64 = z at *
  go_wp2
  go_ret
  exact ⟨ret_bool HX.out.symm, ((Below.refl _ _).alloc (Nat.le_refl _) _).trans (hb.mono (by simp))⟩

set_option maxHeartbeats 400000 in
theorem Eval_any (t : Ex) (lo : Nat → Prop) (v ve : Value) (env : List (List UInt8 × Int)) (w : World) (hO : Ops w) (hT : TreeV lo w t v) (hE : EnvV w env ve) (hN : numsE t) :
    Calls Tryd.prog 19 #[v, ve] w fun e w' => e = .returned (.tuple #[.int .i64 (evalE env t).1, .int .i64 (evalE env t).2]) ∧ Below w.heap.size w w' := by
  obtain ⟨a, cap, rfl, hc, hk⟩ := hT.open
  obtain ⟨ea, ecap, rfl, hecap, hek⟩ := hE.form
  clear hc hk hecap hek
  have hb0 : ∀ x, Below w.heap.size w (w.alloc x) := fun x => (Below.refl _ _).alloc (Nat.le_refl _) _
  unfold exV
  go_enter Tryd.func19, Tryd.ntmps19
  go_wp2_with fail
  refine (May_any t lo _ _ (hO.alloc _) (hT.alloc _)).mono ?_
  rintro e w1 ⟨rfl, hb⟩
  have hb1 : Below w.heap.size w w1 := (hb0 _).trans (hb.mono (by simp))
  have d0 : w1.cell? ⟨w.heap.size, 0, none⟩ = some (.int .i64 t.op) := by rw [hb.cell (by simp)]; simp
  have d1 : w1.cell? ⟨w.heap.size, 1, none⟩ = some (.int .i64 t.n) := by rw [hb.cell (by simp)]; simp
  have d2 : w1.cell? ⟨w.heap.size, 2, none⟩ = some (.string ⟨t.name.toArray⟩) := by rw [hb.cell (by simp)]; simp
  have d3 : w1.cell? ⟨w.heap.size, 3, none⟩ = some (.slice a t.kids.length cap) := by rw [hb.cell (by simp)]; simp
  clear hb
  by_cases hm : mayB t = true
  · have HX : Hid (valE env t = evalE env t) := by unfold Hid evalE; rw [if_pos hm]
    have HG := Lib.hid (may_good hm hN)
    rw [hm]
    clear hm
    go_wp2_with fail
    refine (value_any t lo _ _ env _ (hO.below hb1 hO.lt) (hT.below hb1 (Nat.le_refl _)) (hE.below hb1 (Nat.le_refl _)) HG.out).mono ?_
    rintro e w2 ⟨rfl, hb2⟩
    go_wp2
    go_ret2
    exact ⟨ret_two HX.out, hb1.trans (hb2.mono hb1.size)⟩
  · have HX : Hid ((0, 1) = evalE env t) := by unfold Hid evalE; rw [if_neg hm]
    have hm' : mayB t = false := by simpa using hm
    rw [hm']
    clear hm hm'
    go_wp2
    go_ret2
    exact ⟨ret_two HX.out, hb1⟩
end Go.Proofs.YtohljihndoodfaaDoor.Ep
