/-
  Plain facts: how long a tree's text is.
-/
import Derived.Test.YtinocaggponpmaaGreatDoorExC
import Derived.Lib.ItoaLen
namespace Go.Proofs.YtinocaggponpmaaGreatDoor.Ep
open Lx

theorem dec_le4 (l : List UInt8) : (dec l).2 ≤ 4 := by
  unfold dec Utf8.decode
  simp only
  repeat' split
  all_goals simp
theorem rn_le4 (l : List UInt8) : ∀ c ∈ rn l, c.2.length ≤ 4 := by
  induction l using rn_ind with
  | h0 => intro c hc; cases hc
  | h1 l hl ih =>
    rw [rn_cons l hl]
    intro c hc
    simp only [List.mem_cons] at hc
    rcases hc with rfl | hc
    · have := dec_le4 l
      simp only [List.length_take]
      omega
    · exact ih c hc
theorem flat_le4 : ∀ (cs : List (Nat × List UInt8)), (∀ c ∈ cs, c.2.length ≤ 4) → (flat cs).length ≤ 4 * cs.length
  | [], _ => by simp [flat]
  | c :: cs, h => by
    have h1 := h c (by simp)
    have h2 := flat_le4 cs (fun d hd => h d (by simp [hd]))
    have e : flat (c :: cs) = c.2 ++ flat cs := by simp [flat]
    rw [e, List.length_append, List.length_cons]
    omega
theorem nameGo_len : ∀ (cs : List (Nat × List UInt8)) (n : Nat), n ≤ 12 → nameGo n cs = true → n + cs.length ≤ 12
  | [], n, hn, _ => by simpa using hn
  | c :: cs, n, hn, h => by
    rw [nameGo] at h
    split at h
    · cases h
    · rename_i hc
      have := nameGo_len cs (n + 1) (by omega) h
      simp only [List.length_cons]
      omega
theorem nameB_len (l : List UInt8) (h : nameB l = true) : l.length ≤ 48 := by
  have h1 := nameGo_len (rn l) 0 (by omega) h
  have h2 := flat_le4 (rn l) (rn_le4 l)
  rw [flat_rn] at h2
  omega

theorem tE0 (op n : Int) (nm : List UInt8) (ks : List Ex) (h : opK op = 0) : textE (.mk op n nm ks) = if op = 0 then Lib.itoa n else nm := by rw [textE, if_pos h]
theorem tE1 (op n : Int) (nm : List UInt8) (k : Ex) (h : opK op = 1) : textE (.mk op n nm [k]) = opS op ++ wrapT (enclB op k.op 0) (textE k) := by
  rw [textE, if_neg (by omega), textL, textL, if_pos h, if_pos rfl, List.append_nil]
theorem tE2 (op n : Int) (nm : List UInt8) (k l : Ex) (h : opK op = 2) : textE (.mk op n nm [k, l]) = wrapT (enclB op k.op 0) (textE k) ++ (32 :: (opS op ++ [32])) ++ wrapT (enclB op l.op 1) (textE l) := by
  rw [textE, if_neg (by omega), textL, textL, textL, if_neg (by omega), if_pos rfl, if_neg (by omega), if_neg (by omega), if_pos rfl, List.append_nil]
theorem opS_le2 (op : Int) (h : inT op = true) : (opS op).length ≤ 2 := by
  have hh := (inT_iff _).1 h
  have : ∀ k : Fin 17, (opS (k.val : Int)).length ≤ 2 := by decide
  have := this ⟨op.toNat, by omega⟩
  simpa [Int.toNat_of_nonneg hh.1] using this
theorem wrap_len (e : Bool) (s : List UInt8) : (wrapT e s).length = s.length + (if e = true then 2 else 0) := by
  cases e <;> simp [wrapT]

theorem spareE_eq (op n : Int) (nm : List UInt8) (ks : List Ex) (m : Int) (h : 0 ≤ spareE (.mk op n nm ks) m) : spareE (.mk op n nm ks) m = spareL op ks 0 (m - 1) ∧ 0 < m ∧ formedB op n nm ks.length = true := by
  unfold spareE at h ⊢
  split at h
  · omega
  · rename_i hc
    rw [if_neg hc]
    refine ⟨rfl, by omega, ?_⟩
    cases hf : formedB op n nm ks.length
    · exact absurd (Or.inr hf) hc
    · rfl
theorem text_len (t : Ex) : goodE t → ∀ m, 0 ≤ spareE t m → ((textE t).length : Int) + 60 * spareE t m ≤ 60 * m := by
  induction t using Ex.ind with
  | h op n nm ks ih =>
    intro hg m hs
    rw [goodE] at hg
    obtain ⟨hf, hn, hgl⟩ := hg
    obtain ⟨he, hm, -⟩ := spareE_eq op n nm ks m hs
    rw [he] at hs ⊢
    have hin := (formed_true hf).1
    rcases opK_012 hin with hz | hz | hz
    · have hk := kids_0 hf hz
      subst hk
      rw [spareL_nil, tE0 _ _ _ _ hz]
      have : ((if op = 0 then Lib.itoa n else nm).length : Int) ≤ 60 := by
        split
        · have := Lib.itoa_length_le n hn.1 hn.2; omega
        · rename_i h0
          have h1 : op = 1 := by
            have hb := (inT_iff _).1 hin
            have : ∀ k : Fin 17, opK (k.val : Int) = 0 → k.val = 0 ∨ k.val = 1 := by decide
            have := this ⟨op.toNat, by omega⟩ (by simpa [Int.toNat_of_nonneg hb.1] using hz)
            simp only at this
            omega
          have hnm : nameB nm = true := by
            unfold formedB at hf
            rw [h1] at hf
            simp at hf
            exact hf.2.2
          have := nameB_len nm hnm
          omega
      omega
    · obtain ⟨k, rfl⟩ := kids_1 hf hz
      rw [goodL] at hgl
      rw [spareL_cons, spareL_nil] at hs ⊢
      rw [tE1 _ _ _ _ hz, List.length_append, wrap_len]
      have h1 := ih k (by simp) hgl.1 _ hs
      have h2 := opS_le2 op hin
      split at h1 <;> rename_i hc <;> simp [hc] at * <;> omega
    · obtain ⟨k, l, rfl⟩ := kids_2 hf hz
      rw [goodL, goodL] at hgl
      rw [spareL_cons, spareL_cons, spareL_nil] at hs ⊢
      rw [tE2 _ _ _ _ _ hz, List.length_append, List.length_append, List.length_cons, List.length_append, wrap_len, wrap_len]
      have h3 := opS_le2 op hin
      have hs1 : 0 ≤ spareE k (if enclB op k.op 0 = true then m - 1 - 2 else m - 1) := by
        by_cases hneg : spareE k (if enclB op k.op 0 = true then m - 1 - 2 else m - 1) < 0
        · rw [spareE_nonpos l _ (by split <;> omega)] at hs; omega
        · omega
      have h1 := ih k (by simp) hgl.1 _ hs1
      have h2 := ih l (by simp) hgl.2.1 _ hs
      generalize spareE k (if enclB op k.op 0 = true then m - 1 - 2 else m - 1) = z at *
      by_cases ha : enclB op k.op 0 = true <;> by_cases hb : enclB op l.op 1 = true <;> simp [ha, hb] at * <;> omega
theorem may_len {t : Ex} (h : mayB t = true) (hn : numsE t) : (textE t).length ≤ 3840 := by
  have h1 : 0 ≤ spareE t 64 := by simpa [mayB] using h
  have := text_len t (may_good h hn) 64 h1
  omega
end Go.Proofs.YtinocaggponpmaaGreatDoor.Ep
