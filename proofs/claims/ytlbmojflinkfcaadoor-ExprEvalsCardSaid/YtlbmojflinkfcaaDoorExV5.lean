/-
  The document's left at leaves and at what is no tree; left at any tree, and May.
-/
import Derived.Test.YtlbmojflinkfcaaDoorExV4
namespace Go.Proofs.YtlbmojflinkfcaaDoor.Ep
open Go.RowKit Lx

theorem nb_nil (nm : List UInt8) : ((⟨nm.toArray⟩ : ByteArray).data.toList) = nm := by simp

set_option maxRecDepth 100000 in
set_option maxHeartbeats 4000000 in
theorem left_0 (n : Int) (nm : List UInt8) (a : Option Addr) (len cap : Nat) (m : Int) (w : World) (hm1 : 1 ≤ m) (hm2 : m ≤ 64) (hs : nm.length ≤ 200) (S : Int) (HS : Hid (S = if formedB 0 n nm len = true then m - 1 else -1)) :
    Calls Tryd.prog 28 #[.agg #[.int .i64 0, .int .i64 n, .string ⟨nm.toArray⟩, .slice a len cap], .int .i64 m] w (LfPost S w) := by
  have HN := Lib.hid (fun w => refName_any ⟨nm.toArray⟩ w (by simp [ByteArray.size]; omega))
  have HF : Hid (formedB 0 n nm len = (decide (len = 0) && (decide (0 ≤ n) && nm.isEmpty))) := by
    unfold Hid formedB; simp [inT, opK, opAt, opsT]
  rw [HF.out] at HS
  clear hs HF
  go_enter Tryd.func28, Tryd.ntmps28
  go_wp2_with fail
  refine (HN.out _).mono ?_
  rintro e w1 ⟨rfl, hb⟩
  have b0 : w1.cell? ⟨w.heap.size, 0, none⟩ = some (.int .i64 0) := by rw [hb.cell (by simp)]; simp
  have b1 : w1.cell? ⟨w.heap.size, 1, none⟩ = some (.int .i64 n) := by rw [hb.cell (by simp)]; simp
  have b2 : w1.cell? ⟨w.heap.size, 2, none⟩ = some (.string ⟨nm.toArray⟩) := by rw [hb.cell (by simp)]; simp
  have b3 : w1.cell? ⟨w.heap.size, 3, none⟩ = some (.slice a len cap) := by rw [hb.cell (by simp)]; simp
  have hb1 : Below w.heap.size w w1 := ((Below.refl _ w).alloc (Nat.le_refl _) _).trans (hb.mono (by simp))
  clear HN hb
  generalize nameB _ = nB
  go_wp2
  all_goals go_ret
  all_goals first | refine ⟨-1, rfl, by omega, by omega, ?_, hb1⟩ | refine ⟨m - 1, rfl, by omega, by omega, ?_, hb1⟩
  all_goals unfold Hid LeftOk
  all_goals rw [HS.out]
  all_goals clear HS hb1 b0 b1 b2 b3
  all_goals simp_all
  all_goals first | omega | trace_state

set_option maxRecDepth 100000 in
set_option maxHeartbeats 4000000 in
theorem left_1 (n : Int) (nm : List UInt8) (a : Option Addr) (len cap : Nat) (m : Int) (w : World) (hm1 : 1 ≤ m) (hm2 : m ≤ 64) (hs : nm.length ≤ 200) (S : Int) (HS : Hid (S = if formedB 1 n nm len = true then m - 1 else -1)) :
    Calls Tryd.prog 28 #[.agg #[.int .i64 1, .int .i64 n, .string ⟨nm.toArray⟩, .slice a len cap], .int .i64 m] w (LfPost S w) := by
  have HN := Lib.hid (fun w => refName_any ⟨nm.toArray⟩ w (by simp [ByteArray.size]; omega))
  rw [nb_nil] at HN
  have HF : Hid (formedB 1 n nm len = (decide (len = 0) && (decide (n = 0) && nameB nm))) := by
    unfold Hid formedB; simp [inT, opK, opAt, opsT]
  rw [HF.out] at HS
  clear hs HF
  go_enter Tryd.func28, Tryd.ntmps28
  go_wp2_with fail
  refine (HN.out _).mono ?_
  rintro e w1 ⟨rfl, hb⟩
  have b0 : w1.cell? ⟨w.heap.size, 0, none⟩ = some (.int .i64 1) := by rw [hb.cell (by simp)]; simp
  have b1 : w1.cell? ⟨w.heap.size, 1, none⟩ = some (.int .i64 n) := by rw [hb.cell (by simp)]; simp
  have b2 : w1.cell? ⟨w.heap.size, 2, none⟩ = some (.string ⟨nm.toArray⟩) := by rw [hb.cell (by simp)]; simp
  have b3 : w1.cell? ⟨w.heap.size, 3, none⟩ = some (.slice a len cap) := by rw [hb.cell (by simp)]; simp
  have hb1 : Below w.heap.size w w1 := ((Below.refl _ w).alloc (Nat.le_refl _) _).trans (hb.mono (by simp))
  clear HN hb
  generalize nameB _ = nB at *
  go_wp2
  all_goals go_ret
  all_goals first | refine ⟨-1, rfl, by omega, by omega, ?_, hb1⟩ | refine ⟨m - 1, rfl, by omega, by omega, ?_, hb1⟩
  all_goals unfold Hid LeftOk
  all_goals rw [HS.out]
  all_goals clear HS hb1 b0 b1 b2 b3
  all_goals simp_all
  all_goals first | omega | trace_state

set_option maxRecDepth 100000 in
set_option maxHeartbeats 4000000 in
theorem left_none (op n : Int) (nb : ByteArray) (a : Option Addr) (len cap : Nat) (m : Int) (w : World) (h : m < 1 ∨ op < 0 ∨ 16 < op) (hm1 : -1000 ≤ m) (hm2 : m ≤ 64) (s : Int) (hs : Hid (s < 0)) :
    Calls Tryd.prog 28 #[.agg #[.int .i64 op, .int .i64 n, .string nb, .slice a len cap], .int .i64 m] w (LfPost s w) := by
  have HR : Hid (LeftOk (-1) s) := ⟨fun h => absurd h (by omega), fun _ => hs.out⟩
  by_cases h1 : m < 1
  · have d1 : decide (m < 1) = true := by simpa using h1
    clear h h1
    go_enter Tryd.func28, Tryd.ntmps28
    go_wp2
    go_ret
    exact ⟨-1, rfl, by omega, by omega, HR, (Below.refl _ _).alloc (Nat.le_refl _) _⟩
  · have d1 : decide (m < 1) = false := by simpa using h1
    by_cases h2 : op < 0
    · have d2 : decide (op < 0) = true := by simpa using h2
      clear h
      go_enter Tryd.func28, Tryd.ntmps28
      go_wp2
      go_ret
      exact ⟨-1, rfl, by omega, by omega, HR, (Below.refl _ _).alloc (Nat.le_refl _) _⟩
    · have d2 : decide (op < 0) = false := by simpa using h2
      have d3 : decide (16 < op) = true := by simp; omega
      clear h
      go_enter Tryd.func28, Tryd.ntmps28
      go_wp2
      go_ret
      exact ⟨-1, rfl, by omega, by omega, HR, (Below.refl _ _).alloc (Nat.le_refl _) _⟩

theorem nb_ne {nm : List UInt8} (h : nm ≠ []) : (nm == []) = false := by simpa using h
set_option maxRecDepth 100000 in
set_option maxHeartbeats 4000000 in
theorem left_bad (op n : Int) (nm : List UInt8) (a : Option Addr) (len cap : Nat) (m : Int) (w : World) (hm1 : 1 ≤ m) (hm2 : m ≤ 64) (ho1 : 2 ≤ op) (ho2 : op ≤ 16) (s : Int) (hs : Hid (s < 0)) (h : Hid (formedB op n nm len = false)) :
    Calls Tryd.prog 28 #[.agg #[.int .i64 op, .int .i64 n, .string ⟨nm.toArray⟩, .slice a len cap], .int .i64 m] w (LfPost s w) := by
  have HR : Hid (LeftOk (-1) s) := ⟨fun h => absurd h (by omega), fun _ => hs.out⟩
  have HB : Hid (∀ p : Nat, (p : Int) = opK op → len = p → n = 0 → nm = [] → False) := by
    intro p hp hl hn hm
    have := h.out
    rw [formedB, (inT_iff op).2 ⟨by omega, by omega⟩, if_neg (by omega), if_neg (by omega)] at this
    simp [hl, hp, hn, hm] at this
  have n0 : decide (op < 0) = false := by simp; omega
  have n1 : decide (16 < op) = false := by simp; omega
  have n2 : (op == 0) = false := by simp; omega
  have n3 : (op == 1) = false := by simp; omega
  have HK : Hid ((op = 2 ∨ op = 3 → opK op = 1) ∧ (4 ≤ op → opK op = 2)) := by
    have : op = 2 ∨ op = 3 ∨ op = 4 ∨ op = 5 ∨ op = 6 ∨ op = 7 ∨ op = 8 ∨ op = 9 ∨ op = 10 ∨ op = 11 ∨ op = 12 ∨ op = 13 ∨ op = 14 ∨ op = 15 ∨ op = 16 := by omega
    rcases this with rfl | rfl | rfl | rfl | rfl | rfl | rfl | rfl | rfl | rfl | rfl | rfl | rfl | rfl | rfl <;> exact ⟨by decide, by decide⟩
  have HO : Hid (2 ≤ op) := ho1
  clear ho1 ho2 h hs
  go_enter Tryd.func28, Tryd.ntmps28
  go_wp2
  all_goals first | (go_ret; exact ⟨-1, rfl, by omega, by omega, HR, (Below.refl _ _).alloc (Nat.le_refl _) _⟩) | exfalso
  all_goals
    have ho : (2 : Int) ≤ op := HO.out
    have hnm := ‹(!nm.isEmpty) = false›
    simp only [beq_iff_eq, beq_eq_false_iff_ne, ne_eq] at *
    have e : (len : Int) = opK op := by
      have hk := HK.out
      by_cases h4 : 4 ≤ op
      · rw [hk.2 h4]; omega
      · rw [hk.1 (by omega)]; omega
    exact HB.out len e rfl (by omega) (by simpa using hnm)

theorem opK_ge {op : Int} (h1 : 4 ≤ op) (h2 : op ≤ 16) : opK op = 2 := by
  have : op = 4 ∨ op = 5 ∨ op = 6 ∨ op = 7 ∨ op = 8 ∨ op = 9 ∨ op = 10 ∨ op = 11 ∨ op = 12 ∨ op = 13 ∨ op = 14 ∨ op = 15 ∨ op = 16 := by omega
  rcases this with rfl | rfl | rfl | rfl | rfl | rfl | rfl | rfl | rfl | rfl | rfl | rfl | rfl <;> decide
theorem formed_rest {op n : Int} {nm : List UInt8} {k : Nat} (h : formedB op n nm k = true) (ho : 2 ≤ op) : n = 0 ∧ nm = [] := by
  unfold formedB at h
  rw [if_neg (by omega), if_neg (by omega)] at h
  simp at h
  exact h.2
theorem leaf_spare {op n : Int} {nm : List UInt8} {ks : List Ex} {m : Int} (hm : 1 ≤ m) (ho : opK op = 0) : spareE (.mk op n nm ks) m = if formedB op n nm ks.length = true then m - 1 else -1 := by
  unfold spareE
  cases hf : formedB op n nm ks.length
  · simp
  · have := kids_0 hf ho
    subst this
    rw [if_neg (by simp; omega), spareL_nil]
    simp

theorem left_any (t : Ex) : ∀ (lo : Nat → Prop) (v : Value) (m : Int) (w : World), TreeV lo w t v → shortE t → -1000 ≤ m → m ≤ 64 → Calls Tryd.prog 28 #[v, .int .i64 m] w (LfPost (spareE t m) w) := by
  induction t using Ex.ind with
  | h op n nm ks ih =>
    intro lo v m w hT hsh hm1 hm2
    unfold TreeV at hT
    obtain ⟨a, cap, rfl, hcap, hk⟩ := hT
    unfold exV
    rw [shortE, shortL_all] at hsh
    by_cases h1 : m < 1
    · exact left_none op n _ a _ cap m w (Or.inl h1) hm1 hm2 _ (Lib.hid (by rw [spareE_nonpos _ _ (by omega)]; omega))
    · by_cases h2 : op < 0 ∨ 16 < op
      · refine left_none op n _ a _ cap m w (Or.inr h2) hm1 hm2 _ (Lib.hid ?_)
        have : inT op = false := by simp [inT]; omega
        unfold spareE
        rw [if_pos (Or.inr (by unfold formedB; rw [this]; rfl))]
        omega
      · by_cases h0 : op = 0
        · subst h0
          exact left_0 n nm a _ cap m w (by omega) hm2 hsh.1 _ (Lib.hid (leaf_spare (by omega) (by decide)))
        · by_cases h01 : op = 1
          · subst h01
            exact left_1 n nm a _ cap m w (by omega) hm2 hsh.1 _ (Lib.hid (leaf_spare (by omega) (by decide)))
          · cases hf : formedB op n nm ks.length
            · refine left_bad op n nm a _ cap m w (by omega) hm2 (by omega) (by omega) _ (Lib.hid ?_) (Lib.hid hf)
              unfold spareE
              rw [if_pos (Or.inr hf)]
              omega
            · obtain ⟨hn, hnm⟩ := formed_rest hf (by omega)
              have hl := (formed_true hf).2
              have hS : spareE (.mk op n nm ks) m = spareL op ks 0 (m - 1) := by
                unfold spareE; rw [if_neg (by rw [hf]; simp; omega)]
              rw [hS]
              have hne : ks ≠ [] := by
                rintro rfl
                by_cases h4 : 4 ≤ op
                · rw [opK_ge h4 (by omega)] at hl; simp at hl
                · have : op = 2 ∨ op = 3 := by omega
                  rcases this with rfl | rfl <;> exact absurd hl (by decide)
              obtain ⟨g, off, rfl, hg1, hg2, hTL⟩ := hk hne
              by_cases h4 : 4 ≤ op
              · rw [opK_ge h4 (by omega)] at hl
                have hl2 : ks.length = 2 := by omega
                have := left_4 op n nm ks (Lib.hid ih) lo g off cap m w hl2 (by omega) hg1 hg2 hTL (Lib.hid hsh.2) (by omega) hm2 hn hnm h4 (by omega)
                rw [← hl2] at this
                exact this
              · have : op = 2 ∨ op = 3 := by omega
                rcases this with rfl | rfl
                · have hl2 : ks.length = 1 := by have : opK 2 = 1 := by decide
                                                 omega
                  have := left_2 n nm ks (Lib.hid ih) lo g off cap m w hl2 (by omega) hg1 hg2 hTL (Lib.hid hsh.2) (by omega) hm2 hn hnm
                  rw [← hl2] at this
                  exact this
                · have hl2 : ks.length = 1 := by have : opK 3 = 1 := by decide
                                                 omega
                  have := left_3 n nm ks (Lib.hid ih) lo g off cap m w hl2 (by omega) hg1 hg2 hTL (Lib.hid hsh.2) (by omega) hm2 hn hnm
                  rw [← hl2] at this
                  exact this

def BoB (b : Bool) (w : World) (e : Ending) (w' : World) : Prop := e = .returned (.bool b) ∧ Below w.heap.size w w'
set_option maxRecDepth 100000 in
set_option maxHeartbeats 1000000 in
theorem refMay_any (t : Ex) (lo : Nat → Prop) (v : Value) (w : World) (hT : TreeV lo w t v) (hs : shortE t) : Calls Tryd.prog 17 #[v] w (BoB (mayB t) w) := by
  obtain ⟨a, cap, rfl, -, -⟩ := hT.open
  have HW := Lib.hid (left_any t lo _ 64 _ (hT.alloc (.cells #[.int .i64 t.op, .int .i64 t.n, .string ⟨t.name.toArray⟩, .slice a t.kids.length cap] 24)) hs (by omega) (by omega))
  have HX : Hid (mayB t = decide (0 ≤ spareE t 64)) := rfl
  unfold exV at HW ⊢
  clear hT
  generalize mayB t = b at *
  generalize spareE t 64 = s at *
  go_enter Tryd.func17, Tryd.ntmps17
  go_wp2_with fail
  refine HW.out.mono ?_
  rintro e w2 ⟨z, rfl, q1, q2, HQ, hb2⟩
  have hb3 : Below w.heap.size w w2 := ((Below.refl _ w).alloc (Nat.le_refl _) _).trans (hb2.mono (by simp))
  have HQ2 : Hid (decide (0 ≤ z) = b) := by
    unfold Hid
    rw [HX.out, decide_eq_decide]
    have := HQ.out
    unfold LeftOk at this
    omega
  go_wp2
  go_ret
  exact ⟨ret_bool HQ2.out, hb3⟩
end Go.Proofs.YtlbmojflinkfcaaDoor.Ep
