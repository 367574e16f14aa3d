/-
  The contract of page.Read.
-/
import Derived.Test.YthgoapcafjijfaaPgW3
namespace Go.Proofs.Ythgoapcafjijfaa.Pg
open Go.RowKit

theorem div_small {b : List UInt8} (hb : b.length ≤ 256) : ∀ (n at_ : Nat) (l : List Rec), divP b n at_ = some l → l.length = n ∧ ∀ p ∈ l, p.1.size ≤ 256 ∧ p.2.length ≤ 256
  | 0, at_, l, h => by
    simp [divP] at h
    subst h
    exact ⟨rfl, by simp⟩
  | n + 1, at_, l, h => by
    by_cases h1 : b.length < at_ + 2
    · rw [div_short h1] at h
      cases h
    · by_cases h2 : b.length < endA b at_
      · rw [div_long h1 h2] at h
        cases h
      · rw [div_step h1 h2] at h
        cases hr : divP b n (endA b at_) with
        | none =>
          rw [hr] at h
          cases h
        | some r =>
          rw [hr] at h
          have h : recA b at_ :: r = l := by simpa using h
          subst h
          obtain ⟨i1, i2⟩ := div_small hb n _ r hr
          refine ⟨by simp [i1], fun p hp => ?_⟩
          rcases List.mem_cons.1 hp with rfl | hp
          · have k1 := gb_lt b at_
            have k2 := gb_lt b (at_ + 1)
            constructor
            · show (cutB b _ _).toArray.size ≤ 256
              rw [List.size_toArray]
              unfold cutB
              rw [List.length_take]
              omega
            · show (cutB b _ _).length ≤ 256
              unfold cutB
              rw [List.length_take]
              omega
          · exact i2 p hp
theorem div_sm {b : List UInt8} (hb : b.length ≤ 256) {n at_ : Nat} {l : List Rec} (h : divP b n at_ = some l) (hn : n ≤ 1000) : smP l := by
  obtain ⟨h1, h2⟩ := div_small hb n at_ l h
  exact ⟨by omega, fun p hp => ⟨by have := (h2 p hp).1; omega, by have := (h2 p hp).2; omega⟩⟩

section
variable {base gC : Nat} {w w' : World} {A : Option Addr} {c : Nat} {l : List Rec}
theorem OwnRecs.below (h : OwnRecs base gC w A c l) (k : Below w.heap.size w w') : OwnRecs base gC w' A c l := by
  obtain ⟨xs, h1, h2, h3⟩ := h
  exact ⟨xs, own_keep h1 k, h2.fr (Fr.of_below k), h3⟩
theorem OwnRecs.recs (h : OwnRecs base gC w A c l) : Recs (fun b => b < base ∧ b ≠ gC) w A l := by
  obtain ⟨xs, h1, h2, h3⟩ := h
  exact (h2.mono (Y := fun b => b < base ∧ b ≠ gC) (fun b _ h => h.2)).recs h1 (fun b hb => by have := (h1.lt b hb).1; omega)
end

def ReadPost (b : List UInt8) (w : World) (e : Ending) (w' : World) : Prop :=
  (∃ l A c gC base, readP b = some l ∧ e = .returned (.tuple #[.slice A l.length c, .int .i64 0]) ∧ w.heap.size ≤ gC ∧ gC < base ∧ base ≤ w'.heap.size ∧ OwnRecs base gC w' A c l ∧ Below w.heap.size w w') ∨
  (readP b = none ∧ e = .returned (.tuple #[.slice none 0 0, .int .i64 30]) ∧ Below w.heap.size w w')

set_option maxRecDepth 100000 in
set_option maxHeartbeats 4000000 in
theorem read_all (b : List UInt8) (A : Option Addr) (c : Nat) (w : World) (hl : Lie w A b) (hs : b.length ≤ 140737488355328) :
    Calls Try.prog 15 #[.slice A b.length c] w (ReadPost b w) := by
  by_cases hb : b.length = 256
  · have HC := Lib.hid (clone_all A b c w hl hs (by omega))
    have HB := Lib.hid hb
    have h256 : 256 ≤ b.length ∧ b.length ≤ 256 := by omega
    rw [hb] at HC ⊢
    clear hb hs
    go_enter Try.func15, Try.ntmps15
    go_wp2_with fail
    with_reducible refine HC.out.mono ?_
    rintro e w1 ⟨A1, c1, rfl, ho1, hb1⟩
    obtain ⟨g, cap, hv, hbg, hlt⟩ := ho1.form (by omega)
    rw [HB.out] at hv ho1 ⊢
    have hA1 : A1 = some ⟨g, 0, none⟩ ∧ c1 = cap := by injection hv with h1 _ h3; exact ⟨h1, h3⟩
    obtain ⟨rfl, rfl⟩ := hA1
    have hcap : 256 ≤ c1 ∧ c1 ≤ maxLen := by
      rcases ho1.2 with ⟨hv, h0⟩ | ⟨g, cap, cur, hv, _, _, q1, q2, _⟩
      · omega
      · injection hv with _ _ hv
        subst hv
        exact ⟨q1, q2⟩
    have hcell : ∀ j, j < 256 → w1.cell? ⟨g, j, none⟩ = some (.int .u8 ((gb b j : Nat) : Int)) := fun j hj => by
      have := ho1.cells (g := g) rfl j (.int .u8 ((gb b j : Nat) : Int)) (by simp [u8C, gb, List.getD_eq_getElem?_getD, List.getElem?_eq_getElem (show j < b.length by omega)])
      rwa [lit_add] at this
    have HD := Lib.hid (divide_all b g c1 w1 HB.out hcell hlt hcap.1 hcap.2)
    clear HC hcell ho1 hv hcap
    go_wp2_with fail
    with_reducible refine HD.out.mono ?_
    rintro e w2 (⟨l, A2, c2, hdv, rfl, hor, hb2⟩ | ⟨hdv, rfl, hb2⟩)
    · have hB2 := hb1.trans (hb2.mono hb1.size)
      have hgl := gb_lt b 0
      have hsm := div_sm (by omega) hdv (by omega)
      have hrc := hor.recs
      clear HD
      by_cases hok : okP l
      · have HL := Lib.hid (lay_ok _ A2 l c2 w2 hrc hsm hok)
        have HDV := Lib.hid hdv
        have HOK := Lib.hid hok
        have HOR := Lib.hid hor
        clear hrc hsm hdv hok hor
        go_wp2_with fail
        with_reducible refine HL.out.mono ?_
        rintro e w3 ⟨g3, rfl, hg3, hx3, hb3⟩
        have hB3 := hB2.trans (hb3.mono hB2.size)
        have HE := Lib.hid (equal_all (some ⟨g3, 0, none⟩) A (layB l) b 256 c w3 (full_lie hx3) (hl.below hB3))
        rw [lay_len HOK.out, HB.out] at HE
        have HOR3 := Lib.hid (HOR.out.below hb3)
        clear HL HOR hx3
        go_wp2_with fail
        with_reducible refine HE.out.mono ?_
        rintro e w' ⟨rfl, rfl⟩
        by_cases heq : layB l = b
        · rw [decide_eq_true heq]
          have HR := Lib.hid (read_of HB.out HDV.out HOK.out heq)
          clear HE heq
          go_wp2
          go_ret2
          exact .inl ⟨l, A2, c2, g, w1.heap.size, HR.out, rfl, hbg, hlt, Nat.le_trans hb2.size hb3.size, HOR3.out, hB3⟩
        · rw [decide_eq_false heq]
          have HR := Lib.hid (read_not HDV.out (fun k => heq k.2))
          clear HE heq
          go_wp2
          go_ret2
          exact .inr ⟨HR.out, rfl, hB3⟩
      · have HL := Lib.hid (lay_no _ A2 l c2 w2 hrc hsm hok)
        have HR := Lib.hid (read_not hdv (fun k => hok k.1))
        have hne : layE l ≠ 0 := fun h => hok (layE_zero.1 h)
        clear hrc hsm hdv hok hor
        generalize layE l = E at *
        have hE : (E == 0) = false := beq_eq_false_iff_ne.2 hne
        have hE2 : (E != 0) = true := by simp [bne, hE]
        go_wp2_with fail
        with_reducible refine HL.out.mono ?_
        rintro e w3 ⟨rfl, hb3⟩
        have hB3 := hB2.trans (hb3.mono hB2.size)
        clear HL
        go_wp2
        all_goals first | (exfalso; omega) | skip
        go_ret2
        exact .inr ⟨HR.out, rfl, hB3⟩
    · have HR := Lib.hid (read_div hdv)
      have hB2 := hb1.trans (hb2.mono hb1.size)
      clear HD hdv
      go_wp2
      go_ret2
      exact .inr ⟨HR.out, rfl, hB2⟩
  · have HR := Lib.hid (read_len hb)
    have b1 : ((b.length : Int) == 256) = false := beq_eq_false_iff_ne.2 (by omega)
    have b2 : (b.length == 256) = false := beq_eq_false_iff_ne.2 hb
    generalize b.length = n at *
    clear hl
    go_enter Try.func15, Try.ntmps15
    go_wp2
    go_ret2
    exact .inr ⟨HR.out, rfl, Below.refl _ _⟩
end Go.Proofs.Ythgoapcafjijfaa.Pg
