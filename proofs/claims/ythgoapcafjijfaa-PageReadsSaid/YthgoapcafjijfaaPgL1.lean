/-
  The contracts of the laws' own small and awake.
-/
import Derived.Test.YthgoapcafjijfaaPgW4
namespace Go.Proofs.Ythgoapcafjijfaa.Pg
open Go.RowKit

def smallL (l : List Rec) : Prop := l.length ≤ 1000 ∧ ∀ p ∈ l, p.1.size ≤ 10000 ∧ p.2.length ≤ 10000
instance (l : List Rec) : Decidable (smallL l) := inferInstanceAs (Decidable (_ ∧ _))
theorem smallL.sm {l : List Rec} (h : smallL l) : smP l := ⟨by have := h.1; omega, fun p hp => by have := h.2 p hp; omega⟩
def SmlRel (l : List Rec) (w : World) (i : Value) (wr : World) : Prop := ∃ k : Nat, i = .int .i64 (k : Int) ∧ k ≤ l.length ∧ (∀ p ∈ l.take k, p.1.size ≤ 10000 ∧ p.2.length ≤ 10000) ∧ w = wr
set_option maxRecDepth 100000 in
set_option maxHeartbeats 1000000 in
theorem small_all (X : Nat → Prop) (A : Option Addr) (l : List Rec) (c : Nat) (w : World) (h : Recs X w A l) (_hc : l.length ≤ c) (_hm : c ≤ maxLen) :
    Calls Try.prog 10 #[.slice A l.length c] w (Same (.bool (decide (smallL l))) w) := by
  by_cases hgt : 1000 < l.length
  · have hd : decide (smallL l) = false := decide_eq_false fun h => by have := h.1; omega
    rw [hd]
    clear hd h
    go_enter Try.func10, Try.ntmps10
    go_wp2
    all_goals first | (exfalso; omega) | skip
    go_ret
    exact ⟨rfl, rfl⟩
  · go_enter Try.func10, Try.ntmps10
    go_wp2
    all_goals first | (exfalso; omega) | skip
    go_loopw [3] (SmlRel l w) (fun i _ => l.length - (intOf i).toNat)
    case atStart => exact ⟨0, rfl, by omega, by simp, rfl⟩
    case round =>
      obtain ⟨k, rfl, hk, hall, rfl⟩ := hrel
      by_cases hlt : k < l.length
      · obtain ⟨ad, B, c', rfl, _, g0, g1, g2, _⟩ := h.at_ hlt
        have hk0 : (0 : Int) ≤ (k : Int) := Int.natCast_nonneg _
        have hkl : (k : Int) < (l.length : Int) := by omega
        have hmem := List.getElem_mem hlt
        have htk := take_snoc hlt
        have HN : Hid (¬ (l[k].1.size ≤ 10000 ∧ l[k].2.length ≤ 10000) → decide (smallL l) = false) := fun hn => decide_eq_false fun h => hn (h.2 _ hmem)
        have HS : Hid (l[k].1.size ≤ 10000 ∧ l[k].2.length ≤ 10000 → ∀ p ∈ l.take (k + 1), p.1.size ≤ 10000 ∧ p.2.length ≤ 10000) := fun ho p hp => by
          rw [htk] at hp
          rcases List.mem_append.1 hp with hp | hp
          · exact hall p hp
          · rw [List.mem_singleton.1 hp]
            exact ho
        clear h hmem htk hall
        generalize l[k] = p at *
        obtain ⟨s, b⟩ := p
        simp only at g0 g1 g2 HN HS
        generalize hn1 : s.size = n1 at *
        generalize b.length = n2 at *
        by_cases h40 : n1 ≤ 10000
        · have b3 : decide ((10000 : Int) < (n1 : Int)) = false := by simp; omega
          by_cases h5 : n2 ≤ 10000
          · have b4 : decide ((10000 : Int) < (n2 : Int)) = false := by simp; omega
            go_wp2
            all_goals first | (exfalso; omega) | skip
            go_roundw
            case rel => exact ⟨k + 1, by go_num, by omega, HS.out ⟨h40, h5⟩, rfl⟩
            case measure => simp [intOf]; omega
          · have b4 : decide ((10000 : Int) < (n2 : Int)) = true := by simp; omega
            have hd := Lib.hid (HN.out (fun h => h5 h.2))
            go_wp2
            all_goals first | (exfalso; omega) | skip
            go_ret
            exact ⟨ret_bool hd.out.symm, rfl⟩
        · have b3 : decide ((10000 : Int) < (n1 : Int)) = true := by simp; omega
          have hd := Lib.hid (HN.out (fun h => h40 h.1))
          go_wp2
          all_goals first | (exfalso; omega) | skip
          go_ret
          exact ⟨ret_bool hd.out.symm, rfl⟩
      · obtain rfl : k = l.length := by omega
        rw [List.take_length] at hall
        have hd := Lib.hid (decide_eq_true (p := smallL l) ⟨by omega, hall⟩)
        clear h
        go_wp2
        go_ret
        exact ⟨ret_bool hd.out.symm, rfl⟩

/-! ### awake -/
def oneR : Rec := (⟨#[97]⟩, [7])
theorem one_ok : okP [oneR] := by decide
theorem one_lay : layB [oneR] = [1, 1, 1, 97, 7] ++ List.replicate 251 0 := rfl
theorem one_free : freeP [oneR] = 6 := by decide
theorem one_sm : smP [oneR] := ⟨by simp, fun p hp => by rw [List.mem_singleton.1 hp]; exact ⟨by decide, by decide⟩⟩

set_option maxRecDepth 100000 in
set_option maxHeartbeats 4000000 in
theorem awake_all (w : World) : Calls Try.prog 9 #[] w (TruePost w) := by
  have hx0 := Box.new w 5 #[.int .u8 7]
  have hx1 := hx0.alloc (.cells #[.string ⟨#[97]⟩, .slice (some ⟨w.heap.size, 0, none⟩) 1 1] 37)
  have hy1 := Box.new (w.alloc (.cells #[.int .u8 7] 5)) 37 #[.string ⟨#[97]⟩, .slice (some ⟨w.heap.size, 0, none⟩) 1 1]
  have hb0 := ((Below.refl w.heap.size w).alloc (Nat.le_refl _) (.cells #[.int .u8 7] 5)).alloc (by simp) (.cells #[.string ⟨#[97]⟩, .slice (some ⟨w.heap.size, 0, none⟩) 1 1] 37)
  have hs1 : (w.alloc (.cells #[.int .u8 7] 5)).heap.size = w.heap.size + 1 := by simp
  rw [hs1] at hy1
  go_enter Try.func9, Try.ntmps9
  go_wp2_with fail
  generalize (w.alloc (.cells #[.int .u8 7] 5)).alloc (.cells #[.string ⟨#[97]⟩, .slice (some ⟨w.heap.size, 0, none⟩) 1 1] 37) = w1 at *
  have hr : Recs (fun _ => False) w1 (some ⟨w.heap.size + 1, 0, none⟩) [oneR] := fun _ => by
    refine ⟨_, rfl, hy1.lt, id, fun i hi => ?_⟩
    obtain rfl : i = 0 := by simp at hi; omega
    refine ⟨_, _, hy1.cell 0, hy1.cell 1, some ⟨w.heap.size, 0, none⟩, 1, rfl, rfl, Nat.le_refl _, by unfold maxLen; omega, fun _ => ⟨_, rfl, hx1.lt, id, fun j hj => ?_⟩, by show (1 : Nat) ≤ maxLen; unfold maxLen; omega⟩
    obtain rfl : j = 0 := by
      have : j < 1 := hj
      omega
    exact hx1.cell 0
  have HL : Hid (Calls Try.prog 11 #[.slice (some ⟨w.heap.size + 1, 0, none⟩) 1 1] w1 (LayPost [oneR] w1)) := lay_ok _ _ [oneR] 1 w1 hr one_sm one_ok
  with_reducible refine HL.out.mono ?_
  rintro e w2 ⟨g, rfl, hg, hxg, hb2⟩
  have hB2 := hb0.trans (hb2.mono hb0.size)
  have HR := Lib.hid (read_all (layB [oneR]) (some ⟨g, 0, none⟩) 256 w2 (full_lie hxg) (by rw [lay_len one_ok]; omega))
  rw [lay_len one_ok] at HR
  clear HL hr hx0 hx1 hy1
  go_wp2_with fail
  with_reducible refine HR.out.mono ?_
  rintro e w3 (⟨l, A, c, gC, base, hrd, rfl, h1, h2, h2b, hor, hb3⟩ | ⟨hrd, _⟩)
  · have hl : l = [oneR] := by
      rw [read_lay one_ok] at hrd
      injection hrd with hrd
      exact hrd.symm
    subst hl
    have hB3 := hB2.trans (hb3.mono hB2.size)
    have hrc := hor.recs
    have HF : Hid (∀ wx, Below w3.heap.size w3 wx → Calls Try.prog 13 #[.slice A 1 c] wx (Val (.int .i64 6) wx)) := fun wx hbx => by
      have := free_all _ A [oneR] c wx (hrc.below hbx) one_sm
      rw [one_free] at this
      exact this
    obtain ⟨ad, D, d, rfl, had, q1, _⟩ := hrc.at_ (i := 0) (by simp)
    have hx3 := hxg.below hb3 hxg.lt
    have k0 : w3.cell? ⟨g, 0, none⟩ = some (.int .u8 1) := hx3.cell 0
    have k3 : w3.cell? ⟨g, 3, none⟩ = some (.int .u8 97) := hx3.cell 3
    have k4 : w3.cell? ⟨g, 4, none⟩ = some (.int .u8 7) := hx3.cell 4
    have q1' : w3.cell? ad = some (.string ⟨#[97]⟩) := q1
    have hl1 : [oneR].length = 1 := rfl
    rw [hl1]
    clear HR hrd hor hrc hxg hx3 q1 hl1
    go_wp2_with fail
    with_reducible refine (HF.out _ (Below.refl _ _)).mono ?_
    rintro e w4 ⟨rfl, hb4⟩
    have hB4 := hB3.trans (hb4.mono hB3.size)
    clear HF
    go_wp2
    go_ret
    exact ⟨rfl, hB4⟩
  · rw [read_lay one_ok] at hrd
    cases hrd
end Go.Proofs.Ythgoapcafjijfaa.Pg
