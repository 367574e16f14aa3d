/-
  The document's left and May.
-/
import Derived.Test.YtlbmojflinkfcaaDoorExV3
namespace Go.Proofs.YtlbmojflinkfcaaDoor.Ep
open Go.RowKit Lx

/-! ### fewer tokens -/
theorem spareL_le (op : Int) : ∀ (ks : List Ex), (∀ k ∈ ks, ∀ m : Int, spareE k m ≤ max m (-1)) → ∀ (i : Nat) (m : Int), spareL op ks i m ≤ max m (-1)
  | [], _, i, m => by rw [spareL_nil]; omega
  | k :: ks, h, i, m => by
    rw [spareL_cons]
    have a := h k (by simp) (if enclB op k.op i = true then m - 2 else m)
    have b := spareL_le op ks (fun k' hk' => h k' (by simp [hk'])) (i + 1) (spareE k (if enclB op k.op i = true then m - 2 else m))
    have c : (if enclB op k.op i = true then m - 2 else m) ≤ m := by split <;> omega
    generalize (if enclB op k.op i = true then m - 2 else m) = q at *
    omega
theorem spareE_le (t : Ex) : ∀ m : Int, spareE t m ≤ max m (-1) := by
  induction t using Ex.ind with
  | h op n nm ks ih =>
    intro m
    unfold spareE
    split
    · omega
    · have := spareL_le op ks ih 0 (m - 1)
      omega
def ShE (t : Ex) : Prop := ∀ m d : Int, 0 ≤ d → (d ≤ spareE t m → spareE t (m - d) = spareE t m - d) ∧ (spareE t m < d → spareE t (m - d) < 0)
theorem shiftL (op : Int) : ∀ (ks : List Ex), (∀ k ∈ ks, ShE k) → ∀ (i : Nat) (m d : Int), 0 ≤ d → (d ≤ spareL op ks i m → spareL op ks i (m - d) = spareL op ks i m - d) ∧ (spareL op ks i m < d → spareL op ks i (m - d) < 0)
  | [], _, i, m, d, hd => by rw [spareL_nil, spareL_nil]; omega
  | k :: ks, h, i, m, d, hd => by
    rw [spareL_cons, spareL_cons]
    have e : (if enclB op k.op i = true then m - d - 2 else m - d) = (if enclB op k.op i = true then m - 2 else m) - d := by split <;> omega
    rw [e]
    generalize (if enclB op k.op i = true then m - 2 else m) = q
    obtain ⟨a, b⟩ := h k (by simp) q d hd
    by_cases hq : d ≤ spareE k q
    · rw [a hq]
      exact shiftL op ks (fun k' hk' => h k' (by simp [hk'])) (i + 1) _ d hd
    · have b' := b (by omega)
      have c := spareL_le op ks (fun k' _ => spareE_le k') (i + 1) (spareE k q)
      have f := spareL_neg op ks (i + 1) _ b'
      omega
theorem shiftE (t : Ex) : ShE t := by
  induction t using Ex.ind with
  | h op n nm ks ih =>
    intro m d hd
    unfold spareE
    by_cases hf : formedB op n nm ks.length = false
    · rw [if_pos (Or.inr hf), if_pos (Or.inr hf)]; omega
    · by_cases hm : m ≤ 0
      · rw [if_pos (Or.inl hm), if_pos (Or.inl (by omega))]; omega
      · rw [if_neg (by rintro (h | h); exact hm h; exact hf h)]
        by_cases hmd : m - d ≤ 0
        · rw [if_pos (Or.inl hmd)]
          have := spareL_le op ks (fun k' _ => spareE_le k') 0 (m - 1)
          omega
        · rw [if_neg (by rintro (h | h); exact hmd h; exact hf h), show m - d - 1 = m - 1 - d by omega]
          exact shiftL op ks ih 0 (m - 1) d hd

/-- What the document's left answers, against what is spare. -/
def LeftOk (z s : Int) : Prop := (0 ≤ z → z = s) ∧ (z < 0 → s < 0)
def LfPost (s : Int) (w : World) (e : Ending) (w' : World) : Prop := ∃ z : Int, e = .returned (.int .i64 z) ∧ -2 ≤ z ∧ z ≤ 64 ∧ Hid (LeftOk z s) ∧ Below w.heap.size w w'
/-- What is left so far, in the midst of the operands. -/
def Mid (op : Int) (ks : List Ex) (k : Nat) (z S : Int) : Prop := (0 ≤ z → spareL op (ks.drop k) k z = S) ∧ (z < 0 → S < 0)
theorem Mid.end_ {op : Int} {ks : List Ex} {k : Nat} {z S : Int} (h : Mid op ks k z S) (hk : ks.length ≤ k) : LeftOk z S := by
  refine ⟨fun h0 => ?_, h.2⟩
  have := h.1 h0
  rwa [List.drop_eq_nil_of_le hk, spareL_nil] at this
theorem Mid.neg {op : Int} {ks : List Ex} {k : Nat} {z S y : Int} (h : Mid op ks k z S) (hk : k < ks.length) (hy : LeftOk y (spareE ks[k] z)) (h0 : y < 0) : S < 0 := by
  by_cases hz : z < 0
  · exact h.2 hz
  · have := h.1 (by omega)
    rw [List.drop_eq_getElem_cons hk, spareL_cons] at this
    rw [← this]
    apply spareL_neg
    have hs := hy.2 h0
    split
    · exact (shiftE ks[k] z 2 (by omega)).2 (by omega)
    · exact hs
theorem Mid.next {op : Int} {ks : List Ex} {k : Nat} {z S y : Int} (h : Mid op ks k z S) (hk : k < ks.length) (hy : LeftOk y (spareE ks[k] z)) (h0 : 0 ≤ y) : Mid op ks (k + 1) (if enclB op (ks[k]).op k = true then y - 2 else y) S := by
  have hs := hy.1 h0
  by_cases hz : z < 0
  · rw [spareE_nonpos _ _ (by omega)] at hs; omega
  · have e := h.1 (by omega)
    rw [List.drop_eq_getElem_cons hk, spareL_cons] at e
    by_cases hc : enclB op (ks[k]).op k = true
    · rw [if_pos hc] at e ⊢
      obtain ⟨a, b⟩ := shiftE ks[k] z 2 (by omega)
      constructor
      · intro hq
        rw [a (by omega), ← hs] at e
        exact e
      · intro hq
        rw [← e]
        exact spareL_neg _ _ _ _ (b (by omega))
    · rw [if_neg hc] at e ⊢
      exact ⟨fun _ => by rw [hs]; exact e, fun hq => absurd h0 (by omega)⟩
theorem LeftOk.in_ {k : Ex} {y z : Int} (h : LeftOk y (spareE k z)) (h0 : 0 ≤ y) : inT k.op = true := by
  have := h.1 h0
  cases k with
  | mk op n nm ks =>
    unfold spareE at this
    split at this
    · omega
    · rename_i hc
      cases hf : formedB op n nm ks.length
      · exact absurd (Or.inr hf) hc
      · exact (formed_true hf).1

theorem opL_ge (op : Int) (h1 : 4 ≤ op) (h2 : op ≤ 16) : opL op ≠ 5 := by
  have : op = 4 ∨ op = 5 ∨ op = 6 ∨ op = 7 ∨ op = 8 ∨ op = 9 ∨ op = 10 ∨ op = 11 ∨ op = 12 ∨ op = 13 ∨ op = 14 ∨ op = 15 ∨ op = 16 := by omega
  rcases this with rfl | rfl | rfl | rfl | rfl | rfl | rfl | rfl | rfl | rfl | rfl | rfl | rfl <;> decide
def LfRel (op : Int) (ks : List Ex) (p : Nat) (S : Int) (w0 : World) (B : Nat) (m i : Value) (wr : World) : Prop := ∃ (z : Int) (k : Nat), k ≤ p ∧ i = .int .i64 (k : Int) ∧ m = .int .i64 z ∧ -2 ≤ z ∧ z ≤ 64 ∧ Hid (Mid op ks k z S) ∧ Below B w0 wr

set_option maxRecDepth 100000 in
set_option maxHeartbeats 4000000 in
theorem left_2 (n : Int) (nm : List UInt8) (ks : List Ex) (IH : Hid (∀ k ∈ ks, ∀ (lo : Nat → Prop) (v : Value) (m : Int) (w : World), TreeV lo w k v → shortE k → -1000 ≤ m → m ≤ 64 → Calls Tryd.prog 28 #[v, .int .i64 m] w (LfPost (spareE k m) w)))
    (lo : Nat → Prop) (g off cap : Nat) (m : Int) (w : World) (hL : ks.length = 1) (hcap : 1 ≤ cap) (hg1 : lo g) (hg2 : g < w.heap.size) (hTL : TreeL lo w g off ks) (hsh : Hid (∀ k ∈ ks, shortE k)) (hm1 : 1 ≤ m) (hm2 : m ≤ 64) (hn : n = 0) (hnm : nm = []) :
    Calls Tryd.prog 28 #[.agg #[.int .i64 2, .int .i64 n, .string ⟨nm.toArray⟩, .slice (some ⟨g, off, none⟩) 1 cap], .int .i64 m] w (LfPost (spareL 2 ks 0 (m - 1)) w) := by
  subst hn hnm
  have HL := Lib.hid hL
  have HTL := Lib.hid hTL
  clear hL hTL
  generalize hS : spareL 2 ks 0 (m - 1) = S
  have HM0 : Hid (Mid 2 ks 0 (m - 1) S) := ⟨fun _ => by simpa using hS, fun h => absurd h (by omega)⟩
  clear hS
  have hb0 : Below (w.heap.size + 1) (w.alloc (.cells #[.int .i64 2, .int .i64 0, .string ⟨([] : List UInt8).toArray⟩, .slice (some ⟨g, off, none⟩) 1 cap] 24)) (w.alloc (.cells #[.int .i64 2, .int .i64 0, .string ⟨([] : List UInt8).toArray⟩, .slice (some ⟨g, off, none⟩) 1 cap] 24)) := Below.refl _ _
  go_enter Tryd.func28, Tryd.ntmps28
  go_wp2
  all_goals first | (exfalso; omega) | skip
  go_loopw [1, 7] (LfRel 2 ks 1 S (w.alloc (.cells #[.int .i64 2, .int .i64 0, .string ⟨([] : List UInt8).toArray⟩, .slice (some ⟨g, off, none⟩) 1 cap] 24)) (w.heap.size + 1)) (fun _ i _ => 1 - (intOf i).toNat)
  case atStart => exact ⟨m - 1, 0, by omega, rfl, rfl, by omega, by omega, HM0, hb0⟩
  case round =>
    obtain ⟨z, k, hkl, rfl, rfl, hz1, hz2, HM, hbr⟩ := hrel
    clear hb0 HM0
    have b0 : wr.cell? ⟨w.heap.size, 0, none⟩ = some (.int .i64 2) := by rw [hbr.cell (by simp)]; simp
    have b1 : wr.cell? ⟨w.heap.size, 1, none⟩ = some (.int .i64 0) := by rw [hbr.cell (by simp)]; simp
    have b2 : wr.cell? ⟨w.heap.size, 2, none⟩ = some (.string ⟨([] : List UInt8).toArray⟩) := by rw [hbr.cell (by simp)]; simp
    have b3 : wr.cell? ⟨w.heap.size, 3, none⟩ = some (.slice (some ⟨g, off, none⟩) 1 cap) := by rw [hbr.cell (by simp)]; simp
    have hsz : w.heap.size < wr.heap.size := by have := hbr.size; simp at this; omega
    have hbw : Below w.heap.size w wr := (((Below.refl _ _).alloc (Nat.le_refl _) _).trans (hbr.mono (by simp)))
    by_cases hlt : k < 1
    · have hTr := TreeL.keep (w' := wr) hbw.size (fun b _ hb => hbw.block b hb) g hg1 hg2 off ks HTL.out
      have hki : k < ks.length := by rw [HL.out]; exact hlt
      obtain ⟨ka, kcap, c0, c1, c2, c3, hkt⟩ := TreeL.at_ ks off k hki hTr
      have hIH := Lib.hid (IH.out (ks[k]) (List.getElem_mem hki) lo _ z wr hkt (hsh.out _ (List.getElem_mem hki)) (by omega) (by omega))
      have HNeg : Hid (∀ y, LeftOk y (spareE ks[k] z) → y < 0 → LeftOk (-1) S) := fun y hy h0 => ⟨fun h => absurd h (by omega), fun _ => HM.out.neg hki hy h0⟩
      have HNext : Hid (∀ y, LeftOk y (spareE ks[k] z) → 0 ≤ y → Mid 2 ks (k + 1) (if enclB 2 (ks[k]).op k = true then y - 2 else y) S) := fun y hy h0 => HM.out.next hki hy h0
      have hk0 : (0 : Int) ≤ (k : Int) := Int.natCast_nonneg _
      have hkl2 : (k : Int) < 1 := by omega
      unfold exV at hIH
      generalize ks[k] = kid at *
      clear hTr hkt HM HTL IH
      go_wp2_with fail
      refine hIH.out.mono ?_
      rintro e w2 ⟨y, rfl, q1, q2, HQ, hb2⟩
      have hb3 := hbr.trans (hb2.mono (by omega))
      have hb4 : Below w.heap.size w w2 := hbw.trans (hb2.mono hbw.size)
      have c0' : w2.cell? ⟨g, off + k * 4, none⟩ = some (.int .i64 kid.op) := by rw [hb2.cell (p := ⟨g, _, none⟩) (Nat.lt_of_lt_of_le hg2 hbw.size)]; exact c0
      rw [← hb2.cell (p := ⟨w.heap.size, _, none⟩) hsz] at b0 b1 b2 b3
      have hsz2 : w.heap.size < w2.heap.size := by have := hb2.size; omega
      clear hIH hb2 hbr hbw c0 c1 c2 c3
      by_cases hy : y < 0
      · have HR : Hid (LeftOk (-1) S) := HNeg.out y HQ.out hy
        have by1 : decide (y < 0) = true := by simpa using hy
        clear hy
        go_wp2
        all_goals first | (exfalso; omega) | skip
        go_ret
        exact ⟨-1, rfl, by omega, by omega, HR, hb4⟩
      · have by1 : decide (y < 0) = false := by simpa using hy
        have HR := Lib.hid (HNext.out y HQ.out (by omega))
        have HW := Lib.hid (wrapped_all 2 0 kid.op ⟨([] : List UInt8).toArray⟩ g off 1 cap k w2 (by decide) (HQ.out.in_ (by omega)) c0' hlt (by omega) (fun _ => by omega) hcap (by omega))
        clear HNeg HNext HQ c0'
        go_wp2_with fail
        refine HW.out.mono ?_
        rintro e w3 ⟨rfl, hb5⟩
        have hb6 := hb3.trans (hb5.mono (by omega))
        clear HW hb3 hb5 hb4 b0 b1 b2 b3
        generalize enclB 2 kid.op k = en at *
        cases en
        · have HR2 : Hid (Mid 2 ks (k + 1) y S) := by unfold Hid; have := HR.out; simpa using this
          clear HR
          go_wp2
          go_roundw
          case rel => exact ⟨y, k + 1, by omega, by go_num, rfl, by omega, by omega, HR2, hb6⟩
          case measure => simp [intOf]; omega
        · have HR2 : Hid (Mid 2 ks (k + 1) (y - 2) S) := by unfold Hid; have := HR.out; simpa using this
          clear HR
          go_wp2
          go_roundw
          case rel => exact ⟨y - 2, k + 1, by omega, by go_num, rfl, by omega, by omega, HR2, hb6⟩
          case measure => simp [intOf]; omega
    · have HE : Hid (LeftOk z S) := HM.out.end_ (by rw [HL.out]; omega)
      have hkl2 : ¬ (k : Int) < 1 := by omega
      clear HM
      go_wp2
      all_goals first | (exfalso; omega) | skip
      go_ret
      exact ⟨z, rfl, by omega, by omega, HE, hbw⟩

set_option maxRecDepth 100000 in
set_option maxHeartbeats 4000000 in
theorem left_3 (n : Int) (nm : List UInt8) (ks : List Ex) (IH : Hid (∀ k ∈ ks, ∀ (lo : Nat → Prop) (v : Value) (m : Int) (w : World), TreeV lo w k v → shortE k → -1000 ≤ m → m ≤ 64 → Calls Tryd.prog 28 #[v, .int .i64 m] w (LfPost (spareE k m) w)))
    (lo : Nat → Prop) (g off cap : Nat) (m : Int) (w : World) (hL : ks.length = 1) (hcap : 1 ≤ cap) (hg1 : lo g) (hg2 : g < w.heap.size) (hTL : TreeL lo w g off ks) (hsh : Hid (∀ k ∈ ks, shortE k)) (hm1 : 1 ≤ m) (hm2 : m ≤ 64) (hn : n = 0) (hnm : nm = []) :
    Calls Tryd.prog 28 #[.agg #[.int .i64 3, .int .i64 n, .string ⟨nm.toArray⟩, .slice (some ⟨g, off, none⟩) 1 cap], .int .i64 m] w (LfPost (spareL 3 ks 0 (m - 1)) w) := by
  subst hn hnm
  have HL := Lib.hid hL
  have HTL := Lib.hid hTL
  clear hL hTL
  generalize hS : spareL 3 ks 0 (m - 1) = S
  have HM0 : Hid (Mid 3 ks 0 (m - 1) S) := ⟨fun _ => by simpa using hS, fun h => absurd h (by omega)⟩
  clear hS
  have hb0 : Below (w.heap.size + 1) (w.alloc (.cells #[.int .i64 3, .int .i64 0, .string ⟨([] : List UInt8).toArray⟩, .slice (some ⟨g, off, none⟩) 1 cap] 24)) (w.alloc (.cells #[.int .i64 3, .int .i64 0, .string ⟨([] : List UInt8).toArray⟩, .slice (some ⟨g, off, none⟩) 1 cap] 24)) := Below.refl _ _
  go_enter Tryd.func28, Tryd.ntmps28
  go_wp2
  all_goals first | (exfalso; omega) | skip
  go_loopw [1, 7] (LfRel 3 ks 1 S (w.alloc (.cells #[.int .i64 3, .int .i64 0, .string ⟨([] : List UInt8).toArray⟩, .slice (some ⟨g, off, none⟩) 1 cap] 24)) (w.heap.size + 1)) (fun _ i _ => 1 - (intOf i).toNat)
  case atStart => exact ⟨m - 1, 0, by omega, rfl, rfl, by omega, by omega, HM0, hb0⟩
  case round =>
    obtain ⟨z, k, hkl, rfl, rfl, hz1, hz2, HM, hbr⟩ := hrel
    clear hb0 HM0
    have b0 : wr.cell? ⟨w.heap.size, 0, none⟩ = some (.int .i64 3) := by rw [hbr.cell (by simp)]; simp
    have b1 : wr.cell? ⟨w.heap.size, 1, none⟩ = some (.int .i64 0) := by rw [hbr.cell (by simp)]; simp
    have b2 : wr.cell? ⟨w.heap.size, 2, none⟩ = some (.string ⟨([] : List UInt8).toArray⟩) := by rw [hbr.cell (by simp)]; simp
    have b3 : wr.cell? ⟨w.heap.size, 3, none⟩ = some (.slice (some ⟨g, off, none⟩) 1 cap) := by rw [hbr.cell (by simp)]; simp
    have hsz : w.heap.size < wr.heap.size := by have := hbr.size; simp at this; omega
    have hbw : Below w.heap.size w wr := (((Below.refl _ _).alloc (Nat.le_refl _) _).trans (hbr.mono (by simp)))
    by_cases hlt : k < 1
    · have hTr := TreeL.keep (w' := wr) hbw.size (fun b _ hb => hbw.block b hb) g hg1 hg2 off ks HTL.out
      have hki : k < ks.length := by rw [HL.out]; exact hlt
      obtain ⟨ka, kcap, c0, c1, c2, c3, hkt⟩ := TreeL.at_ ks off k hki hTr
      have hIH := Lib.hid (IH.out (ks[k]) (List.getElem_mem hki) lo _ z wr hkt (hsh.out _ (List.getElem_mem hki)) (by omega) (by omega))
      have HNeg : Hid (∀ y, LeftOk y (spareE ks[k] z) → y < 0 → LeftOk (-1) S) := fun y hy h0 => ⟨fun h => absurd h (by omega), fun _ => HM.out.neg hki hy h0⟩
      have HNext : Hid (∀ y, LeftOk y (spareE ks[k] z) → 0 ≤ y → Mid 3 ks (k + 1) (if enclB 3 (ks[k]).op k = true then y - 2 else y) S) := fun y hy h0 => HM.out.next hki hy h0
      have hk0 : (0 : Int) ≤ (k : Int) := Int.natCast_nonneg _
      have hkl2 : (k : Int) < 1 := by omega
      unfold exV at hIH
      generalize ks[k] = kid at *
      clear hTr hkt HM HTL IH
      go_wp2_with fail
      refine hIH.out.mono ?_
      rintro e w2 ⟨y, rfl, q1, q2, HQ, hb2⟩
      have hb3 := hbr.trans (hb2.mono (by omega))
      have hb4 : Below w.heap.size w w2 := hbw.trans (hb2.mono hbw.size)
      have c0' : w2.cell? ⟨g, off + k * 4, none⟩ = some (.int .i64 kid.op) := by rw [hb2.cell (p := ⟨g, _, none⟩) (Nat.lt_of_lt_of_le hg2 hbw.size)]; exact c0
      rw [← hb2.cell (p := ⟨w.heap.size, _, none⟩) hsz] at b0 b1 b2 b3
      have hsz2 : w.heap.size < w2.heap.size := by have := hb2.size; omega
      clear hIH hb2 hbr hbw c0 c1 c2 c3
      by_cases hy : y < 0
      · have HR : Hid (LeftOk (-1) S) := HNeg.out y HQ.out hy
        have by1 : decide (y < 0) = true := by simpa using hy
        clear hy
        go_wp2
        all_goals first | (exfalso; omega) | skip
        go_ret
        exact ⟨-1, rfl, by omega, by omega, HR, hb4⟩
      · have by1 : decide (y < 0) = false := by simpa using hy
        have HR := Lib.hid (HNext.out y HQ.out (by omega))
        have HW := Lib.hid (wrapped_all 3 0 kid.op ⟨([] : List UInt8).toArray⟩ g off 1 cap k w2 (by decide) (HQ.out.in_ (by omega)) c0' hlt (by omega) (fun _ => by omega) hcap (by omega))
        clear HNeg HNext HQ c0'
        go_wp2_with fail
        refine HW.out.mono ?_
        rintro e w3 ⟨rfl, hb5⟩
        have hb6 := hb3.trans (hb5.mono (by omega))
        clear HW hb3 hb5 hb4 b0 b1 b2 b3
        generalize enclB 3 kid.op k = en at *
        cases en
        · have HR2 : Hid (Mid 3 ks (k + 1) y S) := by unfold Hid; have := HR.out; simpa using this
          clear HR
          go_wp2
          go_roundw
          case rel => exact ⟨y, k + 1, by omega, by go_num, rfl, by omega, by omega, HR2, hb6⟩
          case measure => simp [intOf]; omega
        · have HR2 : Hid (Mid 3 ks (k + 1) (y - 2) S) := by unfold Hid; have := HR.out; simpa using this
          clear HR
          go_wp2
          go_roundw
          case rel => exact ⟨y - 2, k + 1, by omega, by go_num, rfl, by omega, by omega, HR2, hb6⟩
          case measure => simp [intOf]; omega
    · have HE : Hid (LeftOk z S) := HM.out.end_ (by rw [HL.out]; omega)
      have hkl2 : ¬ (k : Int) < 1 := by omega
      clear HM
      go_wp2
      all_goals first | (exfalso; omega) | skip
      go_ret
      exact ⟨z, rfl, by omega, by omega, HE, hbw⟩

set_option maxRecDepth 100000 in
set_option maxHeartbeats 4000000 in
theorem left_4 (op : Int) (n : Int) (nm : List UInt8) (ks : List Ex) (IH : Hid (∀ k ∈ ks, ∀ (lo : Nat → Prop) (v : Value) (m : Int) (w : World), TreeV lo w k v → shortE k → -1000 ≤ m → m ≤ 64 → Calls Tryd.prog 28 #[v, .int .i64 m] w (LfPost (spareE k m) w)))
    (lo : Nat → Prop) (g off cap : Nat) (m : Int) (w : World) (hL : ks.length = 2) (hcap : 2 ≤ cap) (hg1 : lo g) (hg2 : g < w.heap.size) (hTL : TreeL lo w g off ks) (hsh : Hid (∀ k ∈ ks, shortE k)) (hm1 : 1 ≤ m) (hm2 : m ≤ 64) (hn : n = 0) (hnm : nm = []) (ho1 : 4 ≤ op) (ho2 : op ≤ 16) :
    Calls Tryd.prog 28 #[.agg #[.int .i64 op, .int .i64 n, .string ⟨nm.toArray⟩, .slice (some ⟨g, off, none⟩) 2 cap], .int .i64 m] w (LfPost (spareL op ks 0 (m - 1)) w) := by
  subst hn hnm
  have HL := Lib.hid hL
  have HTL := Lib.hid hTL
  clear hL hTL
  generalize hS : spareL op ks 0 (m - 1) = S
  have HM0 : Hid (Mid op ks 0 (m - 1) S) := ⟨fun _ => by simpa using hS, fun h => absurd h (by omega)⟩
  clear hS
  have HOL : Hid (opL op ≠ 5) := opL_ge op ho1 ho2
  have n0 : ¬ op < 0 := by omega
  have n1 : ¬ 16 < op := by omega
  have n2 : (op == 0) = false := by simp; omega
  have n3 : (op == 1) = false := by simp; omega
  have n4 : (op == 2) = false := by simp; omega
  have n5 : (op == 3) = false := by simp; omega
  have hb0 : Below (w.heap.size + 1) (w.alloc (.cells #[.int .i64 op, .int .i64 0, .string ⟨([] : List UInt8).toArray⟩, .slice (some ⟨g, off, none⟩) 2 cap] 24)) (w.alloc (.cells #[.int .i64 op, .int .i64 0, .string ⟨([] : List UInt8).toArray⟩, .slice (some ⟨g, off, none⟩) 2 cap] 24)) := Below.refl _ _
  go_enter Tryd.func28, Tryd.ntmps28
  go_wp2
  all_goals first | (exfalso; omega) | skip
  go_loopw [1, 7] (LfRel op ks 2 S (w.alloc (.cells #[.int .i64 op, .int .i64 0, .string ⟨([] : List UInt8).toArray⟩, .slice (some ⟨g, off, none⟩) 2 cap] 24)) (w.heap.size + 1)) (fun _ i _ => 2 - (intOf i).toNat)
  case atStart => exact ⟨m - 1, 0, by omega, rfl, rfl, by omega, by omega, HM0, hb0⟩
  case round =>
    obtain ⟨z, k, hkl, rfl, rfl, hz1, hz2, HM, hbr⟩ := hrel
    clear hb0 HM0
    have b0 : wr.cell? ⟨w.heap.size, 0, none⟩ = some (.int .i64 op) := by rw [hbr.cell (by simp)]; simp
    have b1 : wr.cell? ⟨w.heap.size, 1, none⟩ = some (.int .i64 0) := by rw [hbr.cell (by simp)]; simp
    have b2 : wr.cell? ⟨w.heap.size, 2, none⟩ = some (.string ⟨([] : List UInt8).toArray⟩) := by rw [hbr.cell (by simp)]; simp
    have b3 : wr.cell? ⟨w.heap.size, 3, none⟩ = some (.slice (some ⟨g, off, none⟩) 2 cap) := by rw [hbr.cell (by simp)]; simp
    have hsz : w.heap.size < wr.heap.size := by have := hbr.size; simp at this; omega
    have hbw : Below w.heap.size w wr := (((Below.refl _ _).alloc (Nat.le_refl _) _).trans (hbr.mono (by simp)))
    by_cases hlt : k < 2
    · have hTr := TreeL.keep (w' := wr) hbw.size (fun b _ hb => hbw.block b hb) g hg1 hg2 off ks HTL.out
      have hki : k < ks.length := by rw [HL.out]; exact hlt
      obtain ⟨ka, kcap, c0, c1, c2, c3, hkt⟩ := TreeL.at_ ks off k hki hTr
      have hIH := Lib.hid (IH.out (ks[k]) (List.getElem_mem hki) lo _ z wr hkt (hsh.out _ (List.getElem_mem hki)) (by omega) (by omega))
      have HNeg : Hid (∀ y, LeftOk y (spareE ks[k] z) → y < 0 → LeftOk (-1) S) := fun y hy h0 => ⟨fun h => absurd h (by omega), fun _ => HM.out.neg hki hy h0⟩
      have HNext : Hid (∀ y, LeftOk y (spareE ks[k] z) → 0 ≤ y → Mid op ks (k + 1) (if enclB op (ks[k]).op k = true then y - 2 else y) S) := fun y hy h0 => HM.out.next hki hy h0
      have hk0 : (0 : Int) ≤ (k : Int) := Int.natCast_nonneg _
      have hkl2 : (k : Int) < 2 := by omega
      unfold exV at hIH
      generalize ks[k] = kid at *
      clear hTr hkt HM HTL IH
      go_wp2_with fail
      refine hIH.out.mono ?_
      rintro e w2 ⟨y, rfl, q1, q2, HQ, hb2⟩
      have hb3 := hbr.trans (hb2.mono (by omega))
      have hb4 : Below w.heap.size w w2 := hbw.trans (hb2.mono hbw.size)
      have c0' : w2.cell? ⟨g, off + k * 4, none⟩ = some (.int .i64 kid.op) := by rw [hb2.cell (p := ⟨g, _, none⟩) (Nat.lt_of_lt_of_le hg2 hbw.size)]; exact c0
      rw [← hb2.cell (p := ⟨w.heap.size, _, none⟩) hsz] at b0 b1 b2 b3
      have hsz2 : w.heap.size < w2.heap.size := by have := hb2.size; omega
      clear hIH hb2 hbr hbw c0 c1 c2 c3
      by_cases hy : y < 0
      · have HR : Hid (LeftOk (-1) S) := HNeg.out y HQ.out hy
        have by1 : decide (y < 0) = true := by simpa using hy
        clear hy
        go_wp2
        all_goals first | (exfalso; omega) | skip
        go_ret
        exact ⟨-1, rfl, by omega, by omega, HR, hb4⟩
      · have by1 : decide (y < 0) = false := by simpa using hy
        have HR := Lib.hid (HNext.out y HQ.out (by omega))
        have HW := Lib.hid (wrapped_all op 0 kid.op ⟨([] : List UInt8).toArray⟩ g off 2 cap k w2 ((inT_iff _).2 ⟨by omega, by omega⟩) (HQ.out.in_ (by omega)) c0' hlt (by omega) (fun h => absurd h HOL.out) hcap (by omega))
        clear HNeg HNext HQ c0'
        go_wp2_with fail
        refine HW.out.mono ?_
        rintro e w3 ⟨rfl, hb5⟩
        have hb6 := hb3.trans (hb5.mono (by omega))
        clear HW hb3 hb5 hb4 b0 b1 b2 b3
        generalize enclB op kid.op k = en at *
        cases en
        · have HR2 : Hid (Mid op ks (k + 1) y S) := by unfold Hid; have := HR.out; simpa using this
          clear HR
          go_wp2
          go_roundw
          case rel => exact ⟨y, k + 1, by omega, by go_num, rfl, by omega, by omega, HR2, hb6⟩
          case measure => simp [intOf]; omega
        · have HR2 : Hid (Mid op ks (k + 1) (y - 2) S) := by unfold Hid; have := HR.out; simpa using this
          clear HR
          go_wp2
          go_roundw
          case rel => exact ⟨y - 2, k + 1, by omega, by go_num, rfl, by omega, by omega, HR2, hb6⟩
          case measure => simp [intOf]; omega
    · have HE : Hid (LeftOk z S) := HM.out.end_ (by rw [HL.out]; omega)
      have hkl2 : ¬ (k : Int) < 2 := by omega
      clear HM
      go_wp2
      all_goals first | (exfalso; omega) | skip
      go_ret
      exact ⟨z, rfl, by omega, by omega, HE, hbw⟩
end Go.Proofs.YtlbmojflinkfcaaDoor.Ep
