/-
  The document's Line and Wrapped; the document's Weight, and what it says of names.
  The document's Weight and the laws' Light: where they say yes, names are short. The document's Cell.
  The document's left and May.
  The document's left at leaves and at what is no tree; left at any tree, and May.
-/
import Derived.Test.YtohljihndoodfaaDoorExBk
import Derived.Test.YtohljihndoodfaaDoorNmB
namespace Go.Proofs.YtohljihndoodfaaDoor.Ep
open Go.RowKit Lx

def KeepP (v : Value) (w : World) (e : Ending) (w' : World) : Prop := e = .returned v ∧ w = w'
def BelowP (v : Value) (w : World) (e : Ending) (w' : World) : Prop := e = .returned v ∧ Below w.heap.size w w'

set_option maxRecDepth 100000 in
set_option maxHeartbeats 2000000 in
theorem line_all (op : Int) (h : inT op = true) (w : World) : Calls Tryd.prog 79 #[.int .i64 op] w (KeepP (.int .i64 (opL op + 1)) w) := by
  have h' := (inT_iff op).1 h
  have : op = 0 ∨ op = 1 ∨ op = 2 ∨ op = 3 ∨ op = 4 ∨ op = 5 ∨ op = 6 ∨ op = 7 ∨ op = 8 ∨ op = 9 ∨ op = 10 ∨ op = 11 ∨ op = 12 ∨ op = 13 ∨ op = 14 ∨ op = 15 ∨ op = 16 := by omega
  clear h h'
  rcases this with rfl | rfl | rfl | rfl | rfl | rfl | rfl | rfl | rfl | rfl | rfl | rfl | rfl | rfl | rfl | rfl | rfl
  all_goals (go_enter Tryd.func79, Tryd.ntmps79; go_wp2; go_ret; exact ⟨ret_int (by decide), rfl⟩)

set_option maxRecDepth 100000 in
set_option maxHeartbeats 4000000 in
theorem wrapped_all (op n kid : Int) (nm : ByteArray) (g off len cap i : Nat) (w : World) (ho : inT op = true) (hk : inT kid = true) (hc : w.cell? ⟨g, off + i * 4, none⟩ = some (.int .i64 kid)) (hi : i < len) (_hi1 : i ≤ 1) (h5 : opL op = 5 → i = 0) (_hlc : len ≤ cap) (_hl2 : len ≤ 2) :
    Calls Tryd.prog 76 #[.agg #[.int .i64 op, .int .i64 n, .string nm, .slice (some ⟨g, off, none⟩) len cap], .int .i64 (i : Int)] w (BelowP (.bool (enclB op kid i)) w) := by
  have hlg : g < w.heap.size := by
    rcases Nat.lt_or_ge g w.heap.size with h1 | h1
    · exact h1
    · simp [World.cell?, Array.getElem?_eq_none h1] at hc
  have HL1 := Lib.hid (fun w => line_all op ho w)
  have HL2 := Lib.hid (fun w => line_all kid hk w)
  have hc2 : (w.alloc (.cells #[.int .i64 op, .int .i64 n, .string nm, .slice (some ⟨g, off, none⟩) len cap] 34)).cell? ⟨g, off + i * 4, none⟩ = some (.int .i64 kid) := by
    rw [Below.cell ((Below.refl _ w).alloc (Nat.le_refl _) _) hlg]
    exact hc
  have HE : Hid (enclB op kid i = (decide (opL kid < opL op) || (decide (opL kid = opL op) && (decide (i = 1) || decide (opL op = 2))))) := by
    unfold Hid enclB
    rw [hk]
    rfl
  have hb := opL_bd op.toNat (by have := (inT_iff _).1 ho; omega)
  rw [Int.toNat_of_nonneg ((inT_iff _).1 ho).1] at hb
  have hi0 : (0 : Int) ≤ (i : Int) := Int.natCast_nonneg _
  have hil : (i : Int) < (len : Int) := by omega
  clear ho hk hc
  generalize opL op = a at *
  generalize opL kid = b at *
  go_enter Tryd.func76, Tryd.ntmps76
  go_wp2_with fail
  refine (HL1.out _).mono ?_
  rintro e w' ⟨rfl, rfl⟩
  go_wp2_with fail
  refine (HL2.out _).mono ?_
  rintro e w' ⟨rfl, rfl⟩
  clear HL1 HL2 hc2
  by_cases hlt : b < a
  · have d1 : decide (b + 1 < a + 1) = true := by simp; omega
    have HR : Hid (enclB op kid i = true) := by rw [HE.out]; simp [hlt]; exact Lib.hid trivial
    go_wp2
    all_goals first | (exfalso; omega) | skip
    go_ret
    exact ⟨ret_bool HR.out.symm, (Below.refl _ _).alloc (Nat.le_refl _) _⟩
  · have d1 : decide (b + 1 < a + 1) = false := by simp; omega
    by_cases heq : b = a
    · subst heq
      have d2 : (b + 1 == b + 1) = true := by simp
      by_cases h6 : b = 5
      · have d3 : (b + 1 != 6) = false := by simp; omega
        have hi2 := h5 h6
        have HR : Hid (enclB op kid i = false) := by rw [HE.out]; simp [hi2, h6]; exact Lib.hid trivial
        go_wp2
        all_goals first | (exfalso; omega) | skip
        go_ret
        exact ⟨ret_bool HR.out.symm, (Below.refl _ _).alloc (Nat.le_refl _) _⟩
      · have d3 : (b + 1 != 6) = true := by simp; omega
        by_cases hi2 : i = 1
        · have d4 : ((i : Int) == 1) = true := by simp; omega
          have HR : Hid (enclB op kid i = true) := by rw [HE.out]; simp [hi2]; exact Lib.hid trivial
          go_wp2
          all_goals first | (exfalso; omega) | skip
          go_ret
          exact ⟨ret_bool HR.out.symm, (Below.refl _ _).alloc (Nat.le_refl _) _⟩
        · have d4 : ((i : Int) == 1) = false := beq_eq_false_iff_ne.2 (by omega)
          have d5 : (i == 1) = false := beq_eq_false_iff_ne.2 hi2
          by_cases h3 : b = 2
          · have d6 : (b + 1 == 3) = true := by simp; omega
            have HR : Hid (enclB op kid i = true) := by rw [HE.out]; simp [h3]; exact Lib.hid trivial
            go_wp2
            all_goals first | (exfalso; omega) | skip
            go_ret
            exact ⟨ret_bool HR.out.symm, (Below.refl _ _).alloc (Nat.le_refl _) _⟩
          · have d6 : (b + 1 == 3) = false := beq_eq_false_iff_ne.2 (by omega)
            have HR : Hid (enclB op kid i = false) := by rw [HE.out]; simp [hi2, h3]; exact Lib.hid trivial
            go_wp2
            all_goals first | (exfalso; omega) | skip
            go_ret
            exact ⟨ret_bool HR.out.symm, (Below.refl _ _).alloc (Nat.le_refl _) _⟩
    · have d2 : (b + 1 == a + 1) = false := beq_eq_false_iff_ne.2 (by omega)
      have HR : Hid (enclB op kid i = false) := by rw [HE.out]; simp [heq]; exact Lib.hid (by omega)
      go_wp2
      all_goals first | (exfalso; omega) | skip
      go_ret
      exact ⟨ret_bool HR.out.symm, (Below.refl _ _).alloc (Nat.le_refl _) _⟩

/-! ### names that are short -/
mutual
def shortE : Ex → Prop
  | .mk _ _ nm ks => nm.length ≤ 200 ∧ shortL ks
def shortL : List Ex → Prop
  | [] => True
  | k :: ks => shortE k ∧ shortL ks
end
theorem shortL_all : ∀ (ks : List Ex), shortL ks ↔ ∀ k ∈ ks, shortE k
  | [] => by simp [shortL]
  | k :: ks => by rw [shortL, shortL_all ks]; simp
end Go.Proofs.YtohljihndoodfaaDoor.Ep

namespace Go.Proofs.YtohljihndoodfaaDoor.Ep
open Go.RowKit Lx

def WsPost (t : Ex) (w : World) (e : Ending) (w' : World) : Prop := ∃ z : Int, e = .returned (.int .i64 z) ∧ 0 ≤ z ∧ z ≤ 400 ∧ Hid (0 < z → shortE t) ∧ Below w.heap.size w w'
def WsRel (ks : List Ex) (len : Nat) (w0 : World) (B : Nat) (m i : Value) (wr : World) : Prop := ∃ (z : Int) (k : Nat), k ≤ len ∧ i = .int .i64 (k : Int) ∧ m = .int .i64 z ∧ -1 ≤ z ∧ z ≤ 400 ∧ Hid (0 < z → ∀ x ∈ ks.take k, shortE x) ∧ Below B w0 wr

set_option maxRecDepth 100000 in
set_option maxHeartbeats 4000000 in
theorem weight_short (t : Ex) : ∀ (lo : Nat → Prop) (v : Value) (m : Int) (w : World), TreeV lo w t v → -1 ≤ m → m ≤ 400 → Calls Tryd.prog 17 #[v, .int .i64 m] w (WsPost t w) := by
  induction t using Ex.ind with
  | h op n nm ks ih =>
    intro lo v m w hT hm1 hm2
    have IH := Lib.hid ih
    clear ih
    unfold TreeV at hT
    obtain ⟨a, cap, rfl, hcap, hk⟩ := hT
    have HK := Lib.hid hk
    clear hk
    generalize hL : ks.length = len at *
    have HL := Lib.hid hL
    clear hL
    unfold exV
    have HZ : Hid ((⟨nm.toArray⟩ : ByteArray).size = nm.length) := by simp [Hid, ByteArray.size]
    generalize (⟨nm.toArray⟩ : ByteArray) = nb at *
    by_cases h1 : m < (len : Int)
    · have b1 : decide (m < (len : Int)) = true := by simpa using h1
      clear IH HK
      go_enter Tryd.func17, Tryd.ntmps17
      go_wp2
      all_goals first | (exfalso; omega) | skip
      go_ret
      exact ⟨0, rfl, by omega, by omega, Lib.hid (fun h => absurd h (by omega)), (Below.refl _ _).alloc (Nat.le_refl _) _⟩
    · have b1 : decide (m < (len : Int)) = false := by simpa using h1
      by_cases h2 : (200 : Int) < (nb.size : Int)
      · have b2 : decide ((200 : Int) < (nb.size : Int)) = true := by simpa using h2
        clear IH HK
        go_enter Tryd.func17, Tryd.ntmps17
        go_wp2
        all_goals first | (exfalso; omega) | skip
        go_ret
        exact ⟨0, rfl, by omega, by omega, Lib.hid (fun h => absurd h (by omega)), (Below.refl _ _).alloc (Nat.le_refl _) _⟩
      · have b2 : decide ((200 : Int) < (nb.size : Int)) = false := by simpa using h2
        have HNM : Hid (nm.length ≤ 200) := by unfold Hid; have := HZ.out; omega
        have hb0 : Below (w.heap.size + 1) (w.alloc (.cells #[.int .i64 op, .int .i64 n, .string nb, .slice a len cap] 34)) (w.alloc (.cells #[.int .i64 op, .int .i64 n, .string nb, .slice a len cap] 34)) := Below.refl _ _
        have HEnd : Hid (∀ z : Int, (0 < z → ∀ x ∈ ks.take len, shortE x) → 0 < z → shortE (.mk op n nm ks)) := by
          intro z hz h0
          rw [shortE, shortL_all]
          refine ⟨HNM.out, fun x hx => hz h0 x ?_⟩
          rw [List.take_of_length_le (by rw [HL.out]; exact Nat.le_refl _)]
          exact hx
        go_enter Tryd.func17, Tryd.ntmps17
        go_wp2
        all_goals first | (exfalso; omega) | skip
        go_loopw [1, 5] (WsRel ks len (w.alloc (.cells #[.int .i64 op, .int .i64 n, .string nb, .slice a len cap] 34)) (w.heap.size + 1)) (fun _ i _ => len - (intOf i).toNat)
        case atStart => exact ⟨m - 1, 0, by omega, rfl, rfl, by omega, by omega, Lib.hid (fun _ => by simp), hb0⟩
        case round =>
          obtain ⟨z, k, hkl, rfl, rfl, hz1, hz2, HS, hbr⟩ := hrel
          clear hb0
          have b3 : wr.cell? ⟨w.heap.size, 3, none⟩ = some (.slice a len cap) := by rw [hbr.cell (by simp)]; simp
          have hsz : w.heap.size < wr.heap.size := by have := hbr.size; simp at this; omega
          have hbw : Below w.heap.size w wr := (((Below.refl _ _).alloc (Nat.le_refl _) _).trans (hbr.mono (by simp)))
          by_cases hlt : k < len
          · by_cases hz : 0 < z
            · have bz : decide (0 < z) = true := by simpa using hz
              have hne : ks ≠ [] := by intro e; have := HL.out; rw [e] at this; simp at this; omega
              obtain ⟨g, off, rfl, hg1, hg2, hTL⟩ := HK.out hne
              have hTr := TreeL.keep (w' := wr) hbw.size (fun b _ hb => hbw.block b hb) g hg1 hg2 off ks hTL
              have hki : k < ks.length := by rw [HL.out]; exact hlt
              obtain ⟨ka, kcap, c0, c1, c2, c3, hkt⟩ := TreeL.at_ ks off k hki hTr
              have hIH := Lib.hid (IH.out (ks[k]) (List.getElem_mem hki) lo _ z wr hkt hz1 hz2)
              have HT : Hid (ks.take (k + 1) = ks.take k ++ [ks[k]]) := List.take_succ_eq_append_getElem hki
              have hk0 : (0 : Int) ≤ (k : Int) := Int.natCast_nonneg _
              have hkl2 : (k : Int) < (len : Int) := by omega
              unfold exV at hIH
              generalize ks[k] = kid at *
              have HS2 : Hid (shortE kid → ∀ x ∈ ks.take (k + 1), shortE x) := by
                intro hs x hx
                rw [HT.out] at hx
                rcases List.mem_append.1 hx with hx | hx
                · exact HS.out hz x hx
                · rw [List.mem_singleton.1 hx]; exact hs
              clear hTr hTL hkt HT HS
              go_wp2_with fail
              refine hIH.out.mono ?_
              rintro e w2 ⟨z2, rfl, q1, q2, HQ, hb2⟩
              have hb3 := hbr.trans (hb2.mono (by omega))
              clear hIH hb2 hbr hbw
              go_wp2
              go_roundw
              case rel => exact ⟨z2, k + 1, by omega, by go_num, rfl, by omega, by omega, Lib.hid (fun h => HS2.out (HQ.out h)), hb3⟩
              case measure => simp [intOf]; omega
            · have bz : decide (0 < z) = false := by simpa using hz
              have hkl2 : (k : Int) < (len : Int) := by omega
              have HZ0 : Hid (0 < z → shortE (.mk op n nm ks)) := fun h => absurd h hz
              by_cases hneg : z < 0
              · have bn : decide (z < 0) = true := by simpa using hneg
                go_wp2
                all_goals first | (exfalso; omega) | skip
                go_ret
                exact ⟨0, rfl, by omega, by omega, Lib.hid (fun h => absurd h (by omega)), hbw⟩
              · have bn : decide (z < 0) = false := by simpa using hneg
                go_wp2
                all_goals first | (exfalso; omega) | skip
                go_ret
                exact ⟨z, rfl, by omega, by omega, HZ0, hbw⟩
          · obtain rfl : k = len := by omega
            have HZ0 : Hid (0 < z → shortE (.mk op n nm ks)) := HEnd.out z HS.out
            by_cases hneg : z < 0
            · have bn : decide (z < 0) = true := by simpa using hneg
              go_wp2
              all_goals first | (exfalso; omega) | skip
              go_ret
              exact ⟨0, rfl, by omega, by omega, Lib.hid (fun h => absurd h (by omega)), hbw⟩
            · have bn : decide (z < 0) = false := by simpa using hneg
              go_wp2
              all_goals first | (exfalso; omega) | skip
              go_ret
              exact ⟨z, rfl, by omega, by omega, HZ0, hbw⟩
end Go.Proofs.YtohljihndoodfaaDoor.Ep

namespace Go.Proofs.YtohljihndoodfaaDoor.Ep
open Go.RowKit Lx

/-! ### fewer tokens -/
theorem spareL_le (op : Int) : ∀ (ks : List Ex), (∀ k ∈ ks, ∀ m : Int, spareE k m ≤ max m (-1)) → ∀ (i : Nat) (m : Int), spareL op ks i m ≤ max m (-1)
  | [], _, i, m => by rw [spareL_nil]; omega
  | k :: ks, h, i, m => by
    rw [spareL_cons]
    have a := h k (by simp) (if enclB op k.op i = true then m - 2 else m)
    have b := spareL_le op ks (fun k' hk' => h k' (by simp [hk'])) (i + 1) (spareE k (if enclB op k.op i = true then m - 2 else m))
    have c : (if enclB op k.op i = true then m - 2 else m) ≤ m := by split <;> omega
    generalize (if enclB op k.op i = true then m - 2 else m) = q at *
    omega
theorem spareE_le (t : Ex) : ∀ m : Int, spareE t m ≤ max m (-1) := by
  induction t using Ex.ind with
  | h op n nm ks ih =>
    intro m
    unfold spareE
    split
    · omega
    · have := spareL_le op ks ih 0 (m - 1)
      omega
def ShE (t : Ex) : Prop := ∀ m d : Int, 0 ≤ d → (d ≤ spareE t m → spareE t (m - d) = spareE t m - d) ∧ (spareE t m < d → spareE t (m - d) < 0)
theorem shiftL (op : Int) : ∀ (ks : List Ex), (∀ k ∈ ks, ShE k) → ∀ (i : Nat) (m d : Int), 0 ≤ d → (d ≤ spareL op ks i m → spareL op ks i (m - d) = spareL op ks i m - d) ∧ (spareL op ks i m < d → spareL op ks i (m - d) < 0)
  | [], _, i, m, d, hd => by rw [spareL_nil, spareL_nil]; omega
  | k :: ks, h, i, m, d, hd => by
    rw [spareL_cons, spareL_cons]
    have e : (if enclB op k.op i = true then m - d - 2 else m - d) = (if enclB op k.op i = true then m - 2 else m) - d := by split <;> omega
    rw [e]
    generalize (if enclB op k.op i = true then m - 2 else m) = q
    obtain ⟨a, b⟩ := h k (by simp) q d hd
    by_cases hq : d ≤ spareE k q
    · rw [a hq]
      exact shiftL op ks (fun k' hk' => h k' (by simp [hk'])) (i + 1) _ d hd
    · have b' := b (by omega)
      have c := spareL_le op ks (fun k' _ => spareE_le k') (i + 1) (spareE k q)
      have f := spareL_neg op ks (i + 1) _ b'
      omega
theorem shiftE (t : Ex) : ShE t := by
  induction t using Ex.ind with
  | h op n nm ks ih =>
    intro m d hd
    unfold spareE
    by_cases hf : formedB op n nm ks.length = false
    · rw [if_pos (Or.inr hf), if_pos (Or.inr hf)]; omega
    · by_cases hm : m ≤ 0
      · rw [if_pos (Or.inl hm), if_pos (Or.inl (by omega))]; omega
      · rw [if_neg (by rintro (h | h); exact hm h; exact hf h)]
        by_cases hmd : m - d ≤ 0
        · rw [if_pos (Or.inl hmd)]
          have := spareL_le op ks (fun k' _ => spareE_le k') 0 (m - 1)
          omega
        · rw [if_neg (by rintro (h | h); exact hmd h; exact hf h), show m - d - 1 = m - 1 - d by omega]
          exact shiftL op ks ih 0 (m - 1) d hd

/-- What the document's left answers, against what is spare. -/
def LeftOk (z s : Int) : Prop := (0 ≤ z → z = s) ∧ (z < 0 → s < 0)
def LfPost (s : Int) (w : World) (e : Ending) (w' : World) : Prop := ∃ z : Int, e = .returned (.int .i64 z) ∧ -2 ≤ z ∧ z ≤ 64 ∧ Hid (LeftOk z s) ∧ Below w.heap.size w w'
/-- What is left so far, in the midst of the operands. -/
def Mid (op : Int) (ks : List Ex) (k : Nat) (z S : Int) : Prop := (0 ≤ z → spareL op (ks.drop k) k z = S) ∧ (z < 0 → S < 0)
theorem Mid.end_ {op : Int} {ks : List Ex} {k : Nat} {z S : Int} (h : Mid op ks k z S) (hk : ks.length ≤ k) : LeftOk z S := by
  refine ⟨fun h0 => ?_, h.2⟩
  have := h.1 h0
  rwa [List.drop_eq_nil_of_le hk, spareL_nil] at this
theorem Mid.neg {op : Int} {ks : List Ex} {k : Nat} {z S y : Int} (h : Mid op ks k z S) (hk : k < ks.length) (hy : LeftOk y (spareE ks[k] z)) (h0 : y < 0) : S < 0 := by
  by_cases hz : z < 0
  · exact h.2 hz
  · have := h.1 (by omega)
    rw [List.drop_eq_getElem_cons hk, spareL_cons] at this
    rw [← this]
    apply spareL_neg
    have hs := hy.2 h0
    split
    · exact (shiftE ks[k] z 2 (by omega)).2 (by omega)
    · exact hs
theorem Mid.next {op : Int} {ks : List Ex} {k : Nat} {z S y : Int} (h : Mid op ks k z S) (hk : k < ks.length) (hy : LeftOk y (spareE ks[k] z)) (h0 : 0 ≤ y) : Mid op ks (k + 1) (if enclB op (ks[k]).op k = true then y - 2 else y) S := by
  have hs := hy.1 h0
  by_cases hz : z < 0
  · rw [spareE_nonpos _ _ (by omega)] at hs; omega
  · have e := h.1 (by omega)
    rw [List.drop_eq_getElem_cons hk, spareL_cons] at e
    by_cases hc : enclB op (ks[k]).op k = true
    · rw [if_pos hc] at e ⊢
      obtain ⟨a, b⟩ := shiftE ks[k] z 2 (by omega)
      constructor
      · intro hq
        rw [a (by omega), ← hs] at e
        exact e
      · intro hq
        rw [← e]
        exact spareL_neg _ _ _ _ (b (by omega))
    · rw [if_neg hc] at e ⊢
      exact ⟨fun _ => by rw [hs]; exact e, fun hq => absurd h0 (by omega)⟩
theorem LeftOk.in_ {k : Ex} {y z : Int} (h : LeftOk y (spareE k z)) (h0 : 0 ≤ y) : inT k.op = true := by
  have := h.1 h0
  cases k with
  | mk op n nm ks =>
    unfold spareE at this
    split at this
    · omega
    · rename_i hc
      cases hf : formedB op n nm ks.length
      · exact absurd (Or.inr hf) hc
      · exact (formed_true hf).1

theorem opL_ge (op : Int) (h1 : 4 ≤ op) (h2 : op ≤ 16) : opL op ≠ 5 := by
  have : op = 4 ∨ op = 5 ∨ op = 6 ∨ op = 7 ∨ op = 8 ∨ op = 9 ∨ op = 10 ∨ op = 11 ∨ op = 12 ∨ op = 13 ∨ op = 14 ∨ op = 15 ∨ op = 16 := by omega
  rcases this with rfl | rfl | rfl | rfl | rfl | rfl | rfl | rfl | rfl | rfl | rfl | rfl | rfl <;> decide
def LfRel (op : Int) (ks : List Ex) (p : Nat) (S : Int) (w0 : World) (B : Nat) (m i : Value) (wr : World) : Prop := ∃ (z : Int) (k : Nat), k ≤ p ∧ i = .int .i64 (k : Int) ∧ m = .int .i64 z ∧ -2 ≤ z ∧ z ≤ 64 ∧ Hid (Mid op ks k z S) ∧ Below B w0 wr

set_option maxRecDepth 100000 in
set_option maxHeartbeats 4000000 in
theorem left_2 (n : Int) (nm : List UInt8) (ks : List Ex) (IH : Hid (∀ k ∈ ks, ∀ (lo : Nat → Prop) (v : Value) (m : Int) (w : World), TreeV lo w k v → shortE k → -1000 ≤ m → m ≤ 64 → Calls Tryd.prog 73 #[v, .int .i64 m] w (LfPost (spareE k m) w)))
    (lo : Nat → Prop) (g off cap : Nat) (m : Int) (w : World) (hL : ks.length = 1) (hcap : 1 ≤ cap) (hg1 : lo g) (hg2 : g < w.heap.size) (hTL : TreeL lo w g off ks) (hsh : Hid (∀ k ∈ ks, shortE k)) (hm1 : 1 ≤ m) (hm2 : m ≤ 64) (hn : n = 0) (hnm : nm = []) :
    Calls Tryd.prog 73 #[.agg #[.int .i64 2, .int .i64 n, .string ⟨nm.toArray⟩, .slice (some ⟨g, off, none⟩) 1 cap], .int .i64 m] w (LfPost (spareL 2 ks 0 (m - 1)) w) := by
  subst hn hnm
  have HL := Lib.hid hL
  have HTL := Lib.hid hTL
  clear hL hTL
  generalize hS : spareL 2 ks 0 (m - 1) = S
  have HM0 : Hid (Mid 2 ks 0 (m - 1) S) := ⟨fun _ => by simpa using hS, fun h => absurd h (by omega)⟩
  clear hS
  have hb0 : Below (w.heap.size + 1) (w.alloc (.cells #[.int .i64 2, .int .i64 0, .string ⟨([] : List UInt8).toArray⟩, .slice (some ⟨g, off, none⟩) 1 cap] 34)) (w.alloc (.cells #[.int .i64 2, .int .i64 0, .string ⟨([] : List UInt8).toArray⟩, .slice (some ⟨g, off, none⟩) 1 cap] 34)) := Below.refl _ _
  go_enter Tryd.func73, Tryd.ntmps73
  go_wp2
  all_goals first | (exfalso; omega) | skip
  go_loopw [1, 7] (LfRel 2 ks 1 S (w.alloc (.cells #[.int .i64 2, .int .i64 0, .string ⟨([] : List UInt8).toArray⟩, .slice (some ⟨g, off, none⟩) 1 cap] 34)) (w.heap.size + 1)) (fun _ i _ => 1 - (intOf i).toNat)
  case atStart => exact ⟨m - 1, 0, by omega, rfl, rfl, by omega, by omega, HM0, hb0⟩
  case round =>
    obtain ⟨z, k, hkl, rfl, rfl, hz1, hz2, HM, hbr⟩ := hrel
    clear hb0 HM0
    have b0 : wr.cell? ⟨w.heap.size, 0, none⟩ = some (.int .i64 2) := by rw [hbr.cell (by simp)]; simp
    have b1 : wr.cell? ⟨w.heap.size, 1, none⟩ = some (.int .i64 0) := by rw [hbr.cell (by simp)]; simp
    have b2 : wr.cell? ⟨w.heap.size, 2, none⟩ = some (.string ⟨([] : List UInt8).toArray⟩) := by rw [hbr.cell (by simp)]; simp
    have b3 : wr.cell? ⟨w.heap.size, 3, none⟩ = some (.slice (some ⟨g, off, none⟩) 1 cap) := by rw [hbr.cell (by simp)]; simp
    have hsz : w.heap.size < wr.heap.size := by have := hbr.size; simp at this; omega
    have hbw : Below w.heap.size w wr := (((Below.refl _ _).alloc (Nat.le_refl _) _).trans (hbr.mono (by simp)))
    by_cases hlt : k < 1
    · have hTr := TreeL.keep (w' := wr) hbw.size (fun b _ hb => hbw.block b hb) g hg1 hg2 off ks HTL.out
      have hki : k < ks.length := by rw [HL.out]; exact hlt
      obtain ⟨ka, kcap, c0, c1, c2, c3, hkt⟩ := TreeL.at_ ks off k hki hTr
      have hIH := Lib.hid (IH.out (ks[k]) (List.getElem_mem hki) lo _ z wr hkt (hsh.out _ (List.getElem_mem hki)) (by omega) (by omega))
      have HNeg : Hid (∀ y, LeftOk y (spareE ks[k] z) → y < 0 → LeftOk (-1) S) := fun y hy h0 => ⟨fun h => absurd h (by omega), fun _ => HM.out.neg hki hy h0⟩
      have HNext : Hid (∀ y, LeftOk y (spareE ks[k] z) → 0 ≤ y → Mid 2 ks (k + 1) (if enclB 2 (ks[k]).op k = true then y - 2 else y) S) := fun y hy h0 => HM.out.next hki hy h0
      have hk0 : (0 : Int) ≤ (k : Int) := Int.natCast_nonneg _
      have hkl2 : (k : Int) < 1 := by omega
      unfold exV at hIH
      generalize ks[k] = kid at *
      clear hTr hkt HM HTL IH
      go_wp2_with fail
      refine hIH.out.mono ?_
      rintro e w2 ⟨y, rfl, q1, q2, HQ, hb2⟩
      have hb3 := hbr.trans (hb2.mono (by omega))
      have hb4 : Below w.heap.size w w2 := hbw.trans (hb2.mono hbw.size)
      have c0' : w2.cell? ⟨g, off + k * 4, none⟩ = some (.int .i64 kid.op) := by rw [hb2.cell (p := ⟨g, _, none⟩) (Nat.lt_of_lt_of_le hg2 hbw.size)]; exact c0
      rw [← hb2.cell (p := ⟨w.heap.size, _, none⟩) hsz] at b0 b1 b2 b3
      have hsz2 : w.heap.size < w2.heap.size := by have := hb2.size; omega
      clear hIH hb2 hbr hbw c0 c1 c2 c3
      by_cases hy : y < 0
      · have HR : Hid (LeftOk (-1) S) := HNeg.out y HQ.out hy
        have by1 : decide (y < 0) = true := by simpa using hy
        clear hy
        go_wp2
        all_goals first | (exfalso; omega) | skip
        go_ret
        exact ⟨-1, rfl, by omega, by omega, HR, hb4⟩
      · have by1 : decide (y < 0) = false := by simpa using hy
        have HR := Lib.hid (HNext.out y HQ.out (by omega))
        have HW := Lib.hid (wrapped_all 2 0 kid.op ⟨([] : List UInt8).toArray⟩ g off 1 cap k w2 (by decide) (HQ.out.in_ (by omega)) c0' hlt (by omega) (fun _ => by omega) hcap (by omega))
        clear HNeg HNext HQ c0'
        go_wp2_with fail
        refine HW.out.mono ?_
        rintro e w3 ⟨rfl, hb5⟩
        have hb6 := hb3.trans (hb5.mono (by omega))
        clear HW hb3 hb5 hb4 b0 b1 b2 b3
        generalize enclB 2 kid.op k = en at *
        cases en
        · have HR2 : Hid (Mid 2 ks (k + 1) y S) := by unfold Hid; have := HR.out; simpa using this
          clear HR
          go_wp2
          go_roundw
          case rel => exact ⟨y, k + 1, by omega, by go_num, rfl, by omega, by omega, HR2, hb6⟩
          case measure => simp [intOf]; omega
        · have HR2 : Hid (Mid 2 ks (k + 1) (y - 2) S) := by unfold Hid; have := HR.out; simpa using this
          clear HR
          go_wp2
          go_roundw
          case rel => exact ⟨y - 2, k + 1, by omega, by go_num, rfl, by omega, by omega, HR2, hb6⟩
          case measure => simp [intOf]; omega
    · have HE : Hid (LeftOk z S) := HM.out.end_ (by rw [HL.out]; omega)
      have hkl2 : ¬ (k : Int) < 1 := by omega
      clear HM
      go_wp2
      all_goals first | (exfalso; omega) | skip
      go_ret
      exact ⟨z, rfl, by omega, by omega, HE, hbw⟩

set_option maxRecDepth 100000 in
set_option maxHeartbeats 4000000 in
theorem left_3 (n : Int) (nm : List UInt8) (ks : List Ex) (IH : Hid (∀ k ∈ ks, ∀ (lo : Nat → Prop) (v : Value) (m : Int) (w : World), TreeV lo w k v → shortE k → -1000 ≤ m → m ≤ 64 → Calls Tryd.prog 73 #[v, .int .i64 m] w (LfPost (spareE k m) w)))
    (lo : Nat → Prop) (g off cap : Nat) (m : Int) (w : World) (hL : ks.length = 1) (hcap : 1 ≤ cap) (hg1 : lo g) (hg2 : g < w.heap.size) (hTL : TreeL lo w g off ks) (hsh : Hid (∀ k ∈ ks, shortE k)) (hm1 : 1 ≤ m) (hm2 : m ≤ 64) (hn : n = 0) (hnm : nm = []) :
    Calls Tryd.prog 73 #[.agg #[.int .i64 3, .int .i64 n, .string ⟨nm.toArray⟩, .slice (some ⟨g, off, none⟩) 1 cap], .int .i64 m] w (LfPost (spareL 3 ks 0 (m - 1)) w) := by
  subst hn hnm
  have HL := Lib.hid hL
  have HTL := Lib.hid hTL
  clear hL hTL
  generalize hS : spareL 3 ks 0 (m - 1) = S
  have HM0 : Hid (Mid 3 ks 0 (m - 1) S) := ⟨fun _ => by simpa using hS, fun h => absurd h (by omega)⟩
  clear hS
  have hb0 : Below (w.heap.size + 1) (w.alloc (.cells #[.int .i64 3, .int .i64 0, .string ⟨([] : List UInt8).toArray⟩, .slice (some ⟨g, off, none⟩) 1 cap] 34)) (w.alloc (.cells #[.int .i64 3, .int .i64 0, .string ⟨([] : List UInt8).toArray⟩, .slice (some ⟨g, off, none⟩) 1 cap] 34)) := Below.refl _ _
  go_enter Tryd.func73, Tryd.ntmps73
  go_wp2
  all_goals first | (exfalso; omega) | skip
  go_loopw [1, 7] (LfRel 3 ks 1 S (w.alloc (.cells #[.int .i64 3, .int .i64 0, .string ⟨([] : List UInt8).toArray⟩, .slice (some ⟨g, off, none⟩) 1 cap] 34)) (w.heap.size + 1)) (fun _ i _ => 1 - (intOf i).toNat)
  case atStart => exact ⟨m - 1, 0, by omega, rfl, rfl, by omega, by omega, HM0, hb0⟩
  case round =>
    obtain ⟨z, k, hkl, rfl, rfl, hz1, hz2, HM, hbr⟩ := hrel
    clear hb0 HM0
    have b0 : wr.cell? ⟨w.heap.size, 0, none⟩ = some (.int .i64 3) := by rw [hbr.cell (by simp)]; simp
    have b1 : wr.cell? ⟨w.heap.size, 1, none⟩ = some (.int .i64 0) := by rw [hbr.cell (by simp)]; simp
    have b2 : wr.cell? ⟨w.heap.size, 2, none⟩ = some (.string ⟨([] : List UInt8).toArray⟩) := by rw [hbr.cell (by simp)]; simp
    have b3 : wr.cell? ⟨w.heap.size, 3, none⟩ = some (.slice (some ⟨g, off, none⟩) 1 cap) := by rw [hbr.cell (by simp)]; simp
    have hsz : w.heap.size < wr.heap.size := by have := hbr.size; simp at this; omega
    have hbw : Below w.heap.size w wr := (((Below.refl _ _).alloc (Nat.le_refl _) _).trans (hbr.mono (by simp)))
    by_cases hlt : k < 1
    · have hTr := TreeL.keep (w' := wr) hbw.size (fun b _ hb => hbw.block b hb) g hg1 hg2 off ks HTL.out
      have hki : k < ks.length := by rw [HL.out]; exact hlt
      obtain ⟨ka, kcap, c0, c1, c2, c3, hkt⟩ := TreeL.at_ ks off k hki hTr
      have hIH := Lib.hid (IH.out (ks[k]) (List.getElem_mem hki) lo _ z wr hkt (hsh.out _ (List.getElem_mem hki)) (by omega) (by omega))
      have HNeg : Hid (∀ y, LeftOk y (spareE ks[k] z) → y < 0 → LeftOk (-1) S) := fun y hy h0 => ⟨fun h => absurd h (by omega), fun _ => HM.out.neg hki hy h0⟩
      have HNext : Hid (∀ y, LeftOk y (spareE ks[k] z) → 0 ≤ y → Mid 3 ks (k + 1) (if enclB 3 (ks[k]).op k = true then y - 2 else y) S) := fun y hy h0 => HM.out.next hki hy h0
      have hk0 : (0 : Int) ≤ (k : Int) := Int.natCast_nonneg _
      have hkl2 : (k : Int) < 1 := by omega
      unfold exV at hIH
      generalize ks[k] = kid at *
      clear hTr hkt HM HTL IH
      go_wp2_with fail
      refine hIH.out.mono ?_
      rintro e w2 ⟨y, rfl, q1, q2, HQ, hb2⟩
      have hb3 := hbr.trans (hb2.mono (by omega))
      have hb4 : Below w.heap.size w w2 := hbw.trans (hb2.mono hbw.size)
      have c0' : w2.cell? ⟨g, off + k * 4, none⟩ = some (.int .i64 kid.op) := by rw [hb2.cell (p := ⟨g, _, none⟩) (Nat.lt_of_lt_of_le hg2 hbw.size)]; exact c0
      rw [← hb2.cell (p := ⟨w.heap.size, _, none⟩) hsz] at b0 b1 b2 b3
      have hsz2 : w.heap.size < w2.heap.size := by have := hb2.size; omega
      clear hIH hb2 hbr hbw c0 c1 c2 c3
      by_cases hy : y < 0
      · have HR : Hid (LeftOk (-1) S) := HNeg.out y HQ.out hy
        have by1 : decide (y < 0) = true := by simpa using hy
        clear hy
        go_wp2
        all_goals first | (exfalso; omega) | skip
        go_ret
        exact ⟨-1, rfl, by omega, by omega, HR, hb4⟩
      · have by1 : decide (y < 0) = false := by simpa using hy
        have HR := Lib.hid (HNext.out y HQ.out (by omega))
        have HW := Lib.hid (wrapped_all 3 0 kid.op ⟨([] : List UInt8).toArray⟩ g off 1 cap k w2 (by decide) (HQ.out.in_ (by omega)) c0' hlt (by omega) (fun _ => by omega) hcap (by omega))
        clear HNeg HNext HQ c0'
        go_wp2_with fail
        refine HW.out.mono ?_
        rintro e w3 ⟨rfl, hb5⟩
        have hb6 := hb3.trans (hb5.mono (by omega))
        clear HW hb3 hb5 hb4 b0 b1 b2 b3
        generalize enclB 3 kid.op k = en at *
        cases en
        · have HR2 : Hid (Mid 3 ks (k + 1) y S) := by unfold Hid; have := HR.out; simpa using this
          clear HR
          go_wp2
          go_roundw
          case rel => exact ⟨y, k + 1, by omega, by go_num, rfl, by omega, by omega, HR2, hb6⟩
          case measure => simp [intOf]; omega
        · have HR2 : Hid (Mid 3 ks (k + 1) (y - 2) S) := by unfold Hid; have := HR.out; simpa using this
          clear HR
          go_wp2
          go_roundw
          case rel => exact ⟨y - 2, k + 1, by omega, by go_num, rfl, by omega, by omega, HR2, hb6⟩
          case measure => simp [intOf]; omega
    · have HE : Hid (LeftOk z S) := HM.out.end_ (by rw [HL.out]; omega)
      have hkl2 : ¬ (k : Int) < 1 := by omega
      clear HM
      go_wp2
      all_goals first | (exfalso; omega) | skip
      go_ret
      exact ⟨z, rfl, by omega, by omega, HE, hbw⟩

set_option maxRecDepth 100000 in
set_option maxHeartbeats 4000000 in
theorem left_4 (op : Int) (n : Int) (nm : List UInt8) (ks : List Ex) (IH : Hid (∀ k ∈ ks, ∀ (lo : Nat → Prop) (v : Value) (m : Int) (w : World), TreeV lo w k v → shortE k → -1000 ≤ m → m ≤ 64 → Calls Tryd.prog 73 #[v, .int .i64 m] w (LfPost (spareE k m) w)))
    (lo : Nat → Prop) (g off cap : Nat) (m : Int) (w : World) (hL : ks.length = 2) (hcap : 2 ≤ cap) (hg1 : lo g) (hg2 : g < w.heap.size) (hTL : TreeL lo w g off ks) (hsh : Hid (∀ k ∈ ks, shortE k)) (hm1 : 1 ≤ m) (hm2 : m ≤ 64) (hn : n = 0) (hnm : nm = []) (ho1 : 4 ≤ op) (ho2 : op ≤ 16) :
    Calls Tryd.prog 73 #[.agg #[.int .i64 op, .int .i64 n, .string ⟨nm.toArray⟩, .slice (some ⟨g, off, none⟩) 2 cap], .int .i64 m] w (LfPost (spareL op ks 0 (m - 1)) w) := by
  subst hn hnm
  have HL := Lib.hid hL
  have HTL := Lib.hid hTL
  clear hL hTL
  generalize hS : spareL op ks 0 (m - 1) = S
  have HM0 : Hid (Mid op ks 0 (m - 1) S) := ⟨fun _ => by simpa using hS, fun h => absurd h (by omega)⟩
  clear hS
  have HOL : Hid (opL op ≠ 5) := opL_ge op ho1 ho2
  have n0 : ¬ op < 0 := by omega
  have n1 : ¬ 16 < op := by omega
  have n2 : (op == 0) = false := by simp; omega
  have n3 : (op == 1) = false := by simp; omega
  have n4 : (op == 2) = false := by simp; omega
  have n5 : (op == 3) = false := by simp; omega
  have hb0 : Below (w.heap.size + 1) (w.alloc (.cells #[.int .i64 op, .int .i64 0, .string ⟨([] : List UInt8).toArray⟩, .slice (some ⟨g, off, none⟩) 2 cap] 34)) (w.alloc (.cells #[.int .i64 op, .int .i64 0, .string ⟨([] : List UInt8).toArray⟩, .slice (some ⟨g, off, none⟩) 2 cap] 34)) := Below.refl _ _
  go_enter Tryd.func73, Tryd.ntmps73
  go_wp2
  all_goals first | (exfalso; omega) | skip
  go_loopw [1, 7] (LfRel op ks 2 S (w.alloc (.cells #[.int .i64 op, .int .i64 0, .string ⟨([] : List UInt8).toArray⟩, .slice (some ⟨g, off, none⟩) 2 cap] 34)) (w.heap.size + 1)) (fun _ i _ => 2 - (intOf i).toNat)
  case atStart => exact ⟨m - 1, 0, by omega, rfl, rfl, by omega, by omega, HM0, hb0⟩
  case round =>
    obtain ⟨z, k, hkl, rfl, rfl, hz1, hz2, HM, hbr⟩ := hrel
    clear hb0 HM0
    have b0 : wr.cell? ⟨w.heap.size, 0, none⟩ = some (.int .i64 op) := by rw [hbr.cell (by simp)]; simp
    have b1 : wr.cell? ⟨w.heap.size, 1, none⟩ = some (.int .i64 0) := by rw [hbr.cell (by simp)]; simp
    have b2 : wr.cell? ⟨w.heap.size, 2, none⟩ = some (.string ⟨([] : List UInt8).toArray⟩) := by rw [hbr.cell (by simp)]; simp
    have b3 : wr.cell? ⟨w.heap.size, 3, none⟩ = some (.slice (some ⟨g, off, none⟩) 2 cap) := by rw [hbr.cell (by simp)]; simp
    have hsz : w.heap.size < wr.heap.size := by have := hbr.size; simp at this; omega
    have hbw : Below w.heap.size w wr := (((Below.refl _ _).alloc (Nat.le_refl _) _).trans (hbr.mono (by simp)))
    by_cases hlt : k < 2
    · have hTr := TreeL.keep (w' := wr) hbw.size (fun b _ hb => hbw.block b hb) g hg1 hg2 off ks HTL.out
      have hki : k < ks.length := by rw [HL.out]; exact hlt
      obtain ⟨ka, kcap, c0, c1, c2, c3, hkt⟩ := TreeL.at_ ks off k hki hTr
      have hIH := Lib.hid (IH.out (ks[k]) (List.getElem_mem hki) lo _ z wr hkt (hsh.out _ (List.getElem_mem hki)) (by omega) (by omega))
      have HNeg : Hid (∀ y, LeftOk y (spareE ks[k] z) → y < 0 → LeftOk (-1) S) := fun y hy h0 => ⟨fun h => absurd h (by omega), fun _ => HM.out.neg hki hy h0⟩
      have HNext : Hid (∀ y, LeftOk y (spareE ks[k] z) → 0 ≤ y → Mid op ks (k + 1) (if enclB op (ks[k]).op k = true then y - 2 else y) S) := fun y hy h0 => HM.out.next hki hy h0
      have hk0 : (0 : Int) ≤ (k : Int) := Int.natCast_nonneg _
      have hkl2 : (k : Int) < 2 := by omega
      unfold exV at hIH
      generalize ks[k] = kid at *
      clear hTr hkt HM HTL IH
      go_wp2_with fail
      refine hIH.out.mono ?_
      rintro e w2 ⟨y, rfl, q1, q2, HQ, hb2⟩
      have hb3 := hbr.trans (hb2.mono (by omega))
      have hb4 : Below w.heap.size w w2 := hbw.trans (hb2.mono hbw.size)
      have c0' : w2.cell? ⟨g, off + k * 4, none⟩ = some (.int .i64 kid.op) := by rw [hb2.cell (p := ⟨g, _, none⟩) (Nat.lt_of_lt_of_le hg2 hbw.size)]; exact c0
      rw [← hb2.cell (p := ⟨w.heap.size, _, none⟩) hsz] at b0 b1 b2 b3
      have hsz2 : w.heap.size < w2.heap.size := by have := hb2.size; omega
      clear hIH hb2 hbr hbw c0 c1 c2 c3
      by_cases hy : y < 0
      · have HR : Hid (LeftOk (-1) S) := HNeg.out y HQ.out hy
        have by1 : decide (y < 0) = true := by simpa using hy
        clear hy
        go_wp2
        all_goals first | (exfalso; omega) | skip
        go_ret
        exact ⟨-1, rfl, by omega, by omega, HR, hb4⟩
      · have by1 : decide (y < 0) = false := by simpa using hy
        have HR := Lib.hid (HNext.out y HQ.out (by omega))
        have HW := Lib.hid (wrapped_all op 0 kid.op ⟨([] : List UInt8).toArray⟩ g off 2 cap k w2 ((inT_iff _).2 ⟨by omega, by omega⟩) (HQ.out.in_ (by omega)) c0' hlt (by omega) (fun h => absurd h HOL.out) hcap (by omega))
        clear HNeg HNext HQ c0'
        go_wp2_with fail
        refine HW.out.mono ?_
        rintro e w3 ⟨rfl, hb5⟩
        have hb6 := hb3.trans (hb5.mono (by omega))
        clear HW hb3 hb5 hb4 b0 b1 b2 b3
        generalize enclB op kid.op k = en at *
        cases en
        · have HR2 : Hid (Mid op ks (k + 1) y S) := by unfold Hid; have := HR.out; simpa using this
          clear HR
          go_wp2
          go_roundw
          case rel => exact ⟨y, k + 1, by omega, by go_num, rfl, by omega, by omega, HR2, hb6⟩
          case measure => simp [intOf]; omega
        · have HR2 : Hid (Mid op ks (k + 1) (y - 2) S) := by unfold Hid; have := HR.out; simpa using this
          clear HR
          go_wp2
          go_roundw
          case rel => exact ⟨y - 2, k + 1, by omega, by go_num, rfl, by omega, by omega, HR2, hb6⟩
          case measure => simp [intOf]; omega
    · have HE : Hid (LeftOk z S) := HM.out.end_ (by rw [HL.out]; omega)
      have hkl2 : ¬ (k : Int) < 2 := by omega
      clear HM
      go_wp2
      all_goals first | (exfalso; omega) | skip
      go_ret
      exact ⟨z, rfl, by omega, by omega, HE, hbw⟩
end Go.Proofs.YtohljihndoodfaaDoor.Ep

namespace Go.Proofs.YtohljihndoodfaaDoor.Ep
open Go.RowKit Lx

theorem nb_nil (nm : List UInt8) : ((⟨nm.toArray⟩ : ByteArray).data.toList) = nm := by simp

set_option maxRecDepth 100000 in
set_option maxHeartbeats 4000000 in
theorem left_0 (n : Int) (nm : List UInt8) (a : Option Addr) (len cap : Nat) (m : Int) (w : World) (hm1 : 1 ≤ m) (hm2 : m ≤ 64) (hs : nm.length ≤ 200) (S : Int) (HS : Hid (S = if formedB 0 n nm len = true then m - 1 else -1)) :
    Calls Tryd.prog 73 #[.agg #[.int .i64 0, .int .i64 n, .string ⟨nm.toArray⟩, .slice a len cap], .int .i64 m] w (LfPost S w) := by
  have HN := Lib.hid (fun w => refName_any ⟨nm.toArray⟩ w (by simp [ByteArray.size]; omega))
  have HF : Hid (formedB 0 n nm len = (decide (len = 0) && (decide (0 ≤ n) && nm.isEmpty))) := by
    unfold Hid formedB; simp [inT, opK, opAt, opsT]
  rw [HF.out] at HS
  clear hs HF
  go_enter Tryd.func73, Tryd.ntmps73
  go_wp2_with fail
  refine (HN.out _).mono ?_
  rintro e w1 ⟨rfl, hb⟩
  have b0 : w1.cell? ⟨w.heap.size, 0, none⟩ = some (.int .i64 0) := by rw [hb.cell (by simp)]; simp
  have b1 : w1.cell? ⟨w.heap.size, 1, none⟩ = some (.int .i64 n) := by rw [hb.cell (by simp)]; simp
  have b2 : w1.cell? ⟨w.heap.size, 2, none⟩ = some (.string ⟨nm.toArray⟩) := by rw [hb.cell (by simp)]; simp
  have b3 : w1.cell? ⟨w.heap.size, 3, none⟩ = some (.slice a len cap) := by rw [hb.cell (by simp)]; simp
  have hb1 : Below w.heap.size w w1 := ((Below.refl _ w).alloc (Nat.le_refl _) _).trans (hb.mono (by simp))
  clear HN hb
  generalize nameB _ = nB
  go_wp2
  all_goals go_ret
  all_goals first | refine ⟨-1, rfl, by omega, by omega, ?_, hb1⟩ | refine ⟨m - 1, rfl, by omega, by omega, ?_, hb1⟩
  all_goals unfold Hid LeftOk
  all_goals rw [HS.out]
  all_goals clear HS hb1 b0 b1 b2 b3
  all_goals simp_all
  all_goals first | omega | trace_state

set_option maxRecDepth 100000 in
set_option maxHeartbeats 4000000 in
theorem left_1 (n : Int) (nm : List UInt8) (a : Option Addr) (len cap : Nat) (m : Int) (w : World) (hm1 : 1 ≤ m) (hm2 : m ≤ 64) (hs : nm.length ≤ 200) (S : Int) (HS : Hid (S = if formedB 1 n nm len = true then m - 1 else -1)) :
    Calls Tryd.prog 73 #[.agg #[.int .i64 1, .int .i64 n, .string ⟨nm.toArray⟩, .slice a len cap], .int .i64 m] w (LfPost S w) := by
  have HN := Lib.hid (fun w => refName_any ⟨nm.toArray⟩ w (by simp [ByteArray.size]; omega))
  rw [nb_nil] at HN
  have HF : Hid (formedB 1 n nm len = (decide (len = 0) && (decide (n = 0) && nameB nm))) := by
    unfold Hid formedB; simp [inT, opK, opAt, opsT]
  rw [HF.out] at HS
  clear hs HF
  go_enter Tryd.func73, Tryd.ntmps73
  go_wp2_with fail
  refine (HN.out _).mono ?_
  rintro e w1 ⟨rfl, hb⟩
  have b0 : w1.cell? ⟨w.heap.size, 0, none⟩ = some (.int .i64 1) := by rw [hb.cell (by simp)]; simp
  have b1 : w1.cell? ⟨w.heap.size, 1, none⟩ = some (.int .i64 n) := by rw [hb.cell (by simp)]; simp
  have b2 : w1.cell? ⟨w.heap.size, 2, none⟩ = some (.string ⟨nm.toArray⟩) := by rw [hb.cell (by simp)]; simp
  have b3 : w1.cell? ⟨w.heap.size, 3, none⟩ = some (.slice a len cap) := by rw [hb.cell (by simp)]; simp
  have hb1 : Below w.heap.size w w1 := ((Below.refl _ w).alloc (Nat.le_refl _) _).trans (hb.mono (by simp))
  clear HN hb
  generalize nameB _ = nB at *
  go_wp2
  all_goals go_ret
  all_goals first | refine ⟨-1, rfl, by omega, by omega, ?_, hb1⟩ | refine ⟨m - 1, rfl, by omega, by omega, ?_, hb1⟩
  all_goals unfold Hid LeftOk
  all_goals rw [HS.out]
  all_goals clear HS hb1 b0 b1 b2 b3
  all_goals simp_all
  all_goals first | omega | trace_state

set_option maxRecDepth 100000 in
set_option maxHeartbeats 4000000 in
theorem left_none (op n : Int) (nb : ByteArray) (a : Option Addr) (len cap : Nat) (m : Int) (w : World) (h : m < 1 ∨ op < 0 ∨ 16 < op) (hm1 : -1000 ≤ m) (hm2 : m ≤ 64) (s : Int) (hs : Hid (s < 0)) :
    Calls Tryd.prog 73 #[.agg #[.int .i64 op, .int .i64 n, .string nb, .slice a len cap], .int .i64 m] w (LfPost s w) := by
  have HR : Hid (LeftOk (-1) s) := ⟨fun h => absurd h (by omega), fun _ => hs.out⟩
  by_cases h1 : m < 1
  · have d1 : decide (m < 1) = true := by simpa using h1
    clear h h1
    go_enter Tryd.func73, Tryd.ntmps73
    go_wp2
    go_ret
    exact ⟨-1, rfl, by omega, by omega, HR, (Below.refl _ _).alloc (Nat.le_refl _) _⟩
  · have d1 : decide (m < 1) = false := by simpa using h1
    by_cases h2 : op < 0
    · have d2 : decide (op < 0) = true := by simpa using h2
      clear h
      go_enter Tryd.func73, Tryd.ntmps73
      go_wp2
      go_ret
      exact ⟨-1, rfl, by omega, by omega, HR, (Below.refl _ _).alloc (Nat.le_refl _) _⟩
    · have d2 : decide (op < 0) = false := by simpa using h2
      have d3 : decide (16 < op) = true := by simp; omega
      clear h
      go_enter Tryd.func73, Tryd.ntmps73
      go_wp2
      go_ret
      exact ⟨-1, rfl, by omega, by omega, HR, (Below.refl _ _).alloc (Nat.le_refl _) _⟩

theorem nb_ne {nm : List UInt8} (h : nm ≠ []) : (nm == []) = false := by simpa using h
set_option maxRecDepth 100000 in
set_option maxHeartbeats 4000000 in
theorem left_bad (op n : Int) (nm : List UInt8) (a : Option Addr) (len cap : Nat) (m : Int) (w : World) (hm1 : 1 ≤ m) (hm2 : m ≤ 64) (ho1 : 2 ≤ op) (ho2 : op ≤ 16) (s : Int) (hs : Hid (s < 0)) (h : Hid (formedB op n nm len = false)) :
    Calls Tryd.prog 73 #[.agg #[.int .i64 op, .int .i64 n, .string ⟨nm.toArray⟩, .slice a len cap], .int .i64 m] w (LfPost s w) := by
  have HR : Hid (LeftOk (-1) s) := ⟨fun h => absurd h (by omega), fun _ => hs.out⟩
  have HB : Hid (∀ p : Nat, (p : Int) = opK op → len = p → n = 0 → nm = [] → False) := by
    intro p hp hl hn hm
    have := h.out
    rw [formedB, (inT_iff op).2 ⟨by omega, by omega⟩, if_neg (by omega), if_neg (by omega)] at this
    simp [hl, hp, hn, hm] at this
  have n0 : decide (op < 0) = false := by simp; omega
  have n1 : decide (16 < op) = false := by simp; omega
  have n2 : (op == 0) = false := by simp; omega
  have n3 : (op == 1) = false := by simp; omega
  have HK : Hid ((op = 2 ∨ op = 3 → opK op = 1) ∧ (4 ≤ op → opK op = 2)) := by
    have : op = 2 ∨ op = 3 ∨ op = 4 ∨ op = 5 ∨ op = 6 ∨ op = 7 ∨ op = 8 ∨ op = 9 ∨ op = 10 ∨ op = 11 ∨ op = 12 ∨ op = 13 ∨ op = 14 ∨ op = 15 ∨ op = 16 := by omega
    rcases this with rfl | rfl | rfl | rfl | rfl | rfl | rfl | rfl | rfl | rfl | rfl | rfl | rfl | rfl | rfl <;> exact ⟨by decide, by decide⟩
  have HO : Hid (2 ≤ op) := ho1
  clear ho1 ho2 h hs
  go_enter Tryd.func73, Tryd.ntmps73
  go_wp2
  all_goals first | (go_ret; exact ⟨-1, rfl, by omega, by omega, HR, (Below.refl _ _).alloc (Nat.le_refl _) _⟩) | exfalso
  all_goals
    have ho : (2 : Int) ≤ op := HO.out
    have hnm := ‹(!nm.isEmpty) = false›
    simp only [beq_iff_eq, beq_eq_false_iff_ne, ne_eq] at *
    have e : (len : Int) = opK op := by
      have hk := HK.out
      by_cases h4 : 4 ≤ op
      · rw [hk.2 h4]; omega
      · rw [hk.1 (by omega)]; omega
    exact HB.out len e rfl (by omega) (by simpa using hnm)

theorem opK_ge {op : Int} (h1 : 4 ≤ op) (h2 : op ≤ 16) : opK op = 2 := by
  have : op = 4 ∨ op = 5 ∨ op = 6 ∨ op = 7 ∨ op = 8 ∨ op = 9 ∨ op = 10 ∨ op = 11 ∨ op = 12 ∨ op = 13 ∨ op = 14 ∨ op = 15 ∨ op = 16 := by omega
  rcases this with rfl | rfl | rfl | rfl | rfl | rfl | rfl | rfl | rfl | rfl | rfl | rfl | rfl <;> decide
theorem formed_rest {op n : Int} {nm : List UInt8} {k : Nat} (h : formedB op n nm k = true) (ho : 2 ≤ op) : n = 0 ∧ nm = [] := by
  unfold formedB at h
  rw [if_neg (by omega), if_neg (by omega)] at h
  simp at h
  exact h.2
theorem leaf_spare {op n : Int} {nm : List UInt8} {ks : List Ex} {m : Int} (hm : 1 ≤ m) (ho : opK op = 0) : spareE (.mk op n nm ks) m = if formedB op n nm ks.length = true then m - 1 else -1 := by
  unfold spareE
  cases hf : formedB op n nm ks.length
  · simp
  · have := kids_0 hf ho
    subst this
    rw [if_neg (by simp; omega), spareL_nil]
    simp

theorem left_any (t : Ex) : ∀ (lo : Nat → Prop) (v : Value) (m : Int) (w : World), TreeV lo w t v → shortE t → -1000 ≤ m → m ≤ 64 → Calls Tryd.prog 73 #[v, .int .i64 m] w (LfPost (spareE t m) w) := by
  induction t using Ex.ind with
  | h op n nm ks ih =>
    intro lo v m w hT hsh hm1 hm2
    unfold TreeV at hT
    obtain ⟨a, cap, rfl, hcap, hk⟩ := hT
    unfold exV
    rw [shortE, shortL_all] at hsh
    by_cases h1 : m < 1
    · exact left_none op n _ a _ cap m w (Or.inl h1) hm1 hm2 _ (Lib.hid (by rw [spareE_nonpos _ _ (by omega)]; omega))
    · by_cases h2 : op < 0 ∨ 16 < op
      · refine left_none op n _ a _ cap m w (Or.inr h2) hm1 hm2 _ (Lib.hid ?_)
        have : inT op = false := by simp [inT]; omega
        unfold spareE
        rw [if_pos (Or.inr (by unfold formedB; rw [this]; rfl))]
        omega
      · by_cases h0 : op = 0
        · subst h0
          exact left_0 n nm a _ cap m w (by omega) hm2 hsh.1 _ (Lib.hid (leaf_spare (by omega) (by decide)))
        · by_cases h01 : op = 1
          · subst h01
            exact left_1 n nm a _ cap m w (by omega) hm2 hsh.1 _ (Lib.hid (leaf_spare (by omega) (by decide)))
          · cases hf : formedB op n nm ks.length
            · refine left_bad op n nm a _ cap m w (by omega) hm2 (by omega) (by omega) _ (Lib.hid ?_) (Lib.hid hf)
              unfold spareE
              rw [if_pos (Or.inr hf)]
              omega
            · obtain ⟨hn, hnm⟩ := formed_rest hf (by omega)
              have hl := (formed_true hf).2
              have hS : spareE (.mk op n nm ks) m = spareL op ks 0 (m - 1) := by
                unfold spareE; rw [if_neg (by rw [hf]; simp; omega)]
              rw [hS]
              have hne : ks ≠ [] := by
                rintro rfl
                by_cases h4 : 4 ≤ op
                · rw [opK_ge h4 (by omega)] at hl; simp at hl
                · have : op = 2 ∨ op = 3 := by omega
                  rcases this with rfl | rfl <;> exact absurd hl (by decide)
              obtain ⟨g, off, rfl, hg1, hg2, hTL⟩ := hk hne
              by_cases h4 : 4 ≤ op
              · rw [opK_ge h4 (by omega)] at hl
                have hl2 : ks.length = 2 := by omega
                have := left_4 op n nm ks (Lib.hid ih) lo g off cap m w hl2 (by omega) hg1 hg2 hTL (Lib.hid hsh.2) (by omega) hm2 hn hnm h4 (by omega)
                rw [← hl2] at this
                exact this
              · have : op = 2 ∨ op = 3 := by omega
                rcases this with rfl | rfl
                · have hl2 : ks.length = 1 := by have : opK 2 = 1 := by decide
                                                 omega
                  have := left_2 n nm ks (Lib.hid ih) lo g off cap m w hl2 (by omega) hg1 hg2 hTL (Lib.hid hsh.2) (by omega) hm2 hn hnm
                  rw [← hl2] at this
                  exact this
                · have hl2 : ks.length = 1 := by have : opK 3 = 1 := by decide
                                                 omega
                  have := left_3 n nm ks (Lib.hid ih) lo g off cap m w hl2 (by omega) hg1 hg2 hTL (Lib.hid hsh.2) (by omega) hm2 hn hnm
                  rw [← hl2] at this
                  exact this

def BoB (b : Bool) (w : World) (e : Ending) (w' : World) : Prop := e = .returned (.bool b) ∧ Below w.heap.size w w'
set_option maxRecDepth 100000 in
set_option maxHeartbeats 1000000 in
theorem refMay_any (t : Ex) (lo : Nat → Prop) (v : Value) (w : World) (hT : TreeV lo w t v) (hs : shortE t) : Calls Tryd.prog 57 #[v] w (BoB (mayB t) w) := by
  obtain ⟨a, cap, rfl, -, -⟩ := hT.open
  have HW := Lib.hid (left_any t lo _ 64 _ (hT.alloc (.cells #[.int .i64 t.op, .int .i64 t.n, .string ⟨t.name.toArray⟩, .slice a t.kids.length cap] 34)) hs (by omega) (by omega))
  have HX : Hid (mayB t = decide (0 ≤ spareE t 64)) := rfl
  unfold exV at HW ⊢
  clear hT
  generalize mayB t = b at *
  generalize spareE t 64 = s at *
  go_enter Tryd.func57, Tryd.ntmps57
  go_wp2_with fail
  refine HW.out.mono ?_
  rintro e w2 ⟨z, rfl, q1, q2, HQ, hb2⟩
  have hb3 : Below w.heap.size w w2 := ((Below.refl _ w).alloc (Nat.le_refl _) _).trans (hb2.mono (by simp))
  have HQ2 : Hid (decide (0 ≤ z) = b) := by
    unfold Hid
    rw [HX.out, decide_eq_decide]
    have := HQ.out
    unfold LeftOk at this
    omega
  go_wp2
  go_ret
  exact ⟨ret_bool HQ2.out, hb3⟩
end Go.Proofs.YtohljihndoodfaaDoor.Ep
