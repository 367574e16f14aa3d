/-
  The contracts of the document's own wordy, Name and Quote.
-/
import Derived.Test.YtinocaggponpmaaGreatDoorLexR3
import Derived.Test.YtinocaggponpmaaGreatDoorLexR1
import Derived.LoopN
namespace Go.Proofs.YtinocaggponpmaaGreatDoor.Lx
open Go.RowKit

def isWI (r : Int) : Bool := letterI r || digitI r
theorem cls_two (r : Int) : clsI r = 2 ↔ letterI r = true := by
  unfold clsI signI letterI digitI
  simp only [decide_eq_true_eq, Bool.or_eq_true, Bool.and_eq_true, Bool.not_eq_true', decide_eq_false_iff_not]
  repeat' split
  all_goals omega
theorem cls_three (r : Int) : clsI r = 3 ↔ digitI r = true := by
  unfold clsI signI letterI digitI
  simp only [decide_eq_true_eq, Bool.or_eq_true, Bool.and_eq_true, Bool.not_eq_true', decide_eq_false_iff_not]
  repeat' split
  all_goals omega

theorem wordy_any (r : Int) (w : World) :
    Calls Tryz.prog 90 #[.int .i64 r] w fun e w' => e = .returned (.bool (isWI r)) ∧ w = w' := by
  have hl := cls_two r
  have hd := cls_three r
  by_cases h2 : clsI r = 2
  · have HX : Hid (isWI r = true) := by unfold Hid isWI; rw [hl.1 h2]; rfl
    have b2 : (clsI r == 2) = true := by simp [h2]
    clear hl hd h2
    go_enter Tryz.func90, Tryz.ntmps90
    go_wp2_with (go_at_call 70; refine (refClass_any _ _).mono ?_; rintro e w' ⟨rfl, rfl⟩)
    go_ret
    exact ⟨ret_bool HX.out.symm, rfl⟩
  · have b2 : (clsI r == 2) = false := by simp [h2]
    have hl' : letterI r = false := by cases h : letterI r with | false => rfl | true => exact absurd (hl.2 h) h2
    by_cases h3 : clsI r = 3
    · have HX : Hid (isWI r = true) := by unfold Hid isWI; rw [hd.1 h3]; simp
      have b3 : (clsI r == 3) = true := by simp [h3]
      clear hl hd h2 h3 hl'
      go_enter Tryz.func90, Tryz.ntmps90
      go_wp2_with (go_at_call 70; refine (refClass_any _ _).mono ?_; rintro e w' ⟨rfl, rfl⟩)
      go_ret
      exact ⟨ret_bool HX.out.symm, rfl⟩
    · have hd' : digitI r = false := by cases h : digitI r with | false => rfl | true => exact absurd (hd.2 h) h3
      have HX : Hid (isWI r = false) := by unfold Hid isWI; rw [hl', hd']; rfl
      have b3 : (clsI r == 3) = false := by simp [h3]
      clear hl hd h2 h3 hl' hd'
      go_enter Tryz.func90, Tryz.ntmps90
      go_wp2_with (go_at_call 70; refine (refClass_any _ _).mono ?_; rintro e w' ⟨rfl, rfl⟩)
      go_ret
      exact ⟨ret_bool HX.out.symm, rfl⟩

theorem runesGo_true (cs : List (Nat × List UInt8)) : ∀ p, (runesGo cs p).2.2 = true → (runesGo cs p).1 = cs.map (·.1) ∧ ∀ c ∈ cs, badC c = false := by
  induction cs with
  | nil => intro p _; simp [runesGo]
  | cons c cs ih =>
    intro p h
    unfold runesGo at h ⊢
    by_cases hb : badC c = true
    · rw [if_pos hb] at h; cases h
    · rw [if_neg hb] at h ⊢
      obtain ⟨h1, h2⟩ := ih _ h
      exact ⟨by simp [h1], fun x hx => by rcases List.mem_cons.1 hx with rfl | hx; simpa using hb; exact h2 x hx⟩
theorem runesGo_false (cs : List (Nat × List UInt8)) : ∀ p, (runesGo cs p).2.2 = false → ∃ c ∈ cs, badC c = true := by
  induction cs with
  | nil => intro p h; simp [runesGo] at h
  | cons c cs ih =>
    intro p h
    unfold runesGo at h
    by_cases hb : badC c = true
    · exact ⟨c, by simp, hb⟩
    · rw [if_neg hb] at h
      obtain ⟨x, hx, hxb⟩ := ih _ h
      exact ⟨x, by simp [hx], hxb⟩
theorem bad_not (c : Nat × List UInt8) (h : badC c = true) : c.1 = 65533 := by
  unfold badC at h
  simp at h
  exact h.1
theorem nameGo_iff (cs : List (Nat × List UInt8)) : ∀ k, k ≤ 12 → (nameGo k cs = true ↔ k + cs.length ≤ 12 ∧ 0 < k + cs.length ∧ (∀ c ∈ cs, isWI c.1 = true) ∧ (k = 0 → ∀ c, cs.head? = some c → letterI c.1 = true)) := by
  induction cs with
  | nil => intro k hk; simp [nameGo]; omega
  | cons c cs ih =>
    intro k hk
    unfold nameGo
    by_cases h : k = 12 ∨ (letterI c.1 = false ∧ (k = 0 ∨ digitI c.1 = false))
    · rw [if_pos h]
      simp only [Bool.false_eq_true, false_iff]
      rintro ⟨h1, _, h3, h4⟩
      rcases h with h | ⟨hl, h | hd⟩
      · simp at h1; omega
      · have := h4 h c rfl; rw [hl] at this; cases this
      · have := h3 c (by simp); unfold isWI at this; rw [hl, hd] at this; cases this
    · rw [if_neg h, ih (k + 1) (by omega)]
      have hk : k ≠ 12 := fun e => h (Or.inl e)
      constructor
      · rintro ⟨h1, _, h3, _⟩
        refine ⟨by simp; omega, by simp; omega, ?_, ?_⟩
        · intro x hx
          rcases List.mem_cons.1 hx with rfl | hx
          · unfold isWI
            cases hl : letterI x.1 with
            | true => rfl
            | false =>
              cases hd : digitI x.1 with
              | true => rfl
              | false => exact absurd (Or.inr ⟨hl, Or.inr hd⟩) h
          · exact h3 x hx
        · intro hk0 x hx
          simp at hx; subst hx
          cases hl : letterI c.1 with
          | true => rfl
          | false => exact absurd (Or.inr ⟨hl, Or.inl hk0⟩) h
      · rintro ⟨h1, _, h3, _⟩
        simp at h1
        exact ⟨by omega, by omega, fun x hx => h3 x (by simp [hx]), fun h0 => by omega⟩
/-- A name, as the document says it of the runes. -/
def nameRefB (X : List Nat × List Nat × Bool) : Bool := X.2.2 && decide (0 < X.1.length) && decide (X.1.length ≤ 12) && letterI ((X.1.getD 0 0 : Nat) : Int) && X.1.all fun r => isWI (r : Int)
theorem nameRef_eq (l : List UInt8) : nameRefB (runesGo (rn l) 0) = nameB l := by
  rw [Bool.eq_iff_iff]
  unfold nameB
  rw [nameGo_iff _ 0 (by omega)]
  unfold nameRefB
  simp only [Bool.and_eq_true, decide_eq_true_eq, List.all_eq_true]
  cases ho : (runesGo (rn l) 0).2.2 with
  | false =>
    obtain ⟨c, hc, hb⟩ := runesGo_false _ _ ho
    simp only [Bool.false_eq_true, false_and, false_iff]
    rintro ⟨_, _, h, _⟩
    have := h c hc
    rw [bad_not c hb] at this
    revert this
    decide
  | true =>
    obtain ⟨h1, h2⟩ := runesGo_true _ _ ho
    rw [h1]
    simp only [List.length_map, List.mem_map, forall_exists_index, and_imp, forall_apply_eq_imp_iff₂, true_and, Nat.zero_add]
    constructor
    · rintro ⟨⟨⟨a, b⟩, c⟩, d⟩
      refine ⟨b, a, d, fun _ x hx => ?_⟩
      have : (List.map (·.1) (rn l)).getD 0 0 = x.1 := by
        rw [List.getD_eq_getElem?_getD, ← List.head?_eq_getElem?, List.head?_map, hx]; rfl
      rw [this] at c
      exact c
    · rintro ⟨b, a, d, e⟩
      refine ⟨⟨⟨a, b⟩, ?_⟩, d⟩
      have hne : rn l ≠ [] := List.length_pos_iff.1 a
      obtain ⟨x, xs, hx⟩ := List.exists_cons_of_ne_nil hne
      have := e trivial x (by rw [hx]; rfl)
      rw [hx]
      exact this

theorem quoteGo_iff (cs : List (Nat × List UInt8)) : ∀ k, k ≤ 20 → (quoteGo k cs = true ↔ k + cs.length ≤ 20 ∧ ∀ c ∈ cs, 32 ≤ c.1 ∧ c.1 ≠ 34 ∧ badC c = false) := by
  induction cs with
  | nil => intro k hk; simp [quoteGo]; omega
  | cons c cs ih =>
    intro k hk
    unfold quoteGo
    by_cases h : k = 20 ∨ c.1 < 32 ∨ c.1 = 34 ∨ badC c = true
    · rw [if_pos h]
      simp only [Bool.false_eq_true, false_iff]
      rintro ⟨h1, h2⟩
      have h3 := h2 c (by simp)
      simp at h1
      rcases h with h | h | h | h
      · omega
      · omega
      · exact h3.2.1 h
      · rw [h] at h3; exact absurd h3.2.2 (by simp)
    · rw [if_neg h, ih (k + 1) (by omega)]
      constructor
      · rintro ⟨h1, h2⟩
        refine ⟨by simp; omega, fun x hx => ?_⟩
        rcases List.mem_cons.1 hx with rfl | hx
        · refine ⟨by omega, by omega, ?_⟩
          cases hb : badC x with
          | false => rfl
          | true => exact absurd (Or.inr (Or.inr (Or.inr hb))) h
        · exact h2 x hx
      · rintro ⟨h1, h2⟩
        simp at h1
        exact ⟨by omega, fun x hx => h2 x (by simp [hx])⟩
def quoteRefB (X : List Nat × List Nat × Bool) : Bool := X.2.2 && decide (X.1.length ≤ 20) && X.1.all fun r => decide (32 ≤ r) && !decide (r = 34)
theorem quoteRef_eq (l : List UInt8) : quoteRefB (runesGo (rn l) 0) = quoteB l := by
  rw [Bool.eq_iff_iff]
  unfold quoteB
  rw [quoteGo_iff _ 0 (by omega)]
  unfold quoteRefB
  simp only [Bool.and_eq_true, decide_eq_true_eq, List.all_eq_true, Bool.not_eq_true', decide_eq_false_iff_not]
  cases ho : (runesGo (rn l) 0).2.2 with
  | false =>
    obtain ⟨c, hc, hb⟩ := runesGo_false _ _ ho
    simp only [Bool.false_eq_true, false_and, false_iff]
    rintro ⟨_, h⟩
    have := (h c hc).2.2
    rw [hb] at this
    cases this
  | true =>
    obtain ⟨h1, h2⟩ := runesGo_true _ _ ho
    rw [h1]
    simp only [List.length_map, List.mem_map, forall_exists_index, and_imp, forall_apply_eq_imp_iff₂, true_and, Nat.zero_add]
    constructor
    · rintro ⟨a, b⟩
      exact ⟨a, fun c hc => ⟨(b c hc).1, (b c hc).2, h2 c hc⟩⟩
    · rintro ⟨a, b⟩
      exact ⟨a, fun c hc => ⟨(b c hc).1, (b c hc).2.1⟩⟩

/-- What a walk wants of a row of numbers. -/
theorem own_ints {w : World} {base n c : Nat} {A : Option Addr} {R : List Nat} {e : TypeId} (h : w.ownsRow base e 1 (.slice A n c) R.length (intsC R)) :
    n = R.length ∧ R.length ≤ c ∧ ∀ (k : Nat) (_hk : k < R.length), ∃ g, A = some ⟨g, 0, none⟩ ∧ g < w.heap.size ∧ ∀ j (_hj : j < R.length), w.cell? ⟨g, j, none⟩ = some (.int .i64 ((R.getD j 0 : Nat) : Int)) := by
  refine ⟨?_, ?_, fun k hk => ?_⟩
  · obtain ⟨A', c', e'⟩ := ownsRow_slice h
    injection e'
  · rcases h.2 with ⟨e', hn⟩ | ⟨g, cap, cur, hv, _, _, hle, _⟩
    · rw [hn]; exact Nat.zero_le _
    · injection hv with _ _ hc
      omega
  · obtain ⟨g, cap, hv, _, hlt⟩ := h.form (by omega)
    rw [hv] at h
    injection hv with hA
    refine ⟨g, hA, hlt, fun j hj => ?_⟩
    rw [h.cellAt j (by omega)]
    unfold intsC
    rw [List.getElem?_map, List.getElem?_eq_getElem hj, List.getD_eq_getElem?_getD, List.getElem?_eq_getElem hj]
    rfl
theorem runesGo_len (cs : List (Nat × List UInt8)) (hc : ∀ c ∈ cs, 1 ≤ c.2.length) : ∀ p, (runesGo cs p).1.length ≤ (flat cs).length := by
  induction cs with
  | nil => intro p; simp [runesGo]
  | cons c cs ih =>
    intro p
    unfold runesGo
    have h1 := ih (fun x hx => hc x (by simp [hx])) (p + c.2.length)
    have h2 := hc c (by simp)
    have h3 : (flat (c :: cs)).length = c.2.length + (flat cs).length := by simp [flat]
    split
    · simp
    · simp; omega
theorem runes_le (l : List UInt8) : (runesGo (rn l) 0).1.length ≤ l.length := by
  have := runesGo_len (rn l) (rn_one l) 0
  rwa [flat_rn] at this
theorem runesGo_bound (l : List UInt8) : ∀ r ∈ (runesGo (rn l) 0).1, r ≤ 2147483647 := by
  have h1 : ∀ c ∈ rn l, c.1 ≤ 2147483647 := by
    induction l using rn_ind with
    | h0 => intro c hc; simp [rn_nil] at hc
    | h1 l hl ih =>
      rw [rn_cons l hl]
      intro c hc
      rcases List.mem_cons.1 hc with rfl | hc
      · exact dec_le l
      · exact ih c hc
  have h2 : ∀ (cs : List (Nat × List UInt8)), (∀ c ∈ cs, c.1 ≤ 2147483647) → ∀ p, ∀ r ∈ (runesGo cs p).1, r ≤ 2147483647 := by
    intro cs
    induction cs with
    | nil => intro _ p r hr; simp [runesGo] at hr
    | cons c cs ih =>
      intro h p r hr
      unfold runesGo at hr
      split at hr
      · simp at hr
      · rcases List.mem_cons.1 hr with rfl | hr
        · exact h c (by simp)
        · exact ih (fun x hx => h x (by simp [hx])) _ r hr
  exact h2 _ h1 0

set_option maxHeartbeats 4000000 in
theorem refName_any (s : ByteArray) (w : World) (hs : s.size ≤ 20000) :
    Calls Tryz.prog 50 #[.string s] w fun e w' => e = .returned (.bool (nameB s.data.toList)) ∧ Below w.heap.size w w' := by
  have HM := Lib.hid (nameRef_eq s.data.toList)
  have hle : (runesGo (rn s.data.toList) 0).1.length ≤ s.size := by
    have := runes_le s.data.toList; rwa [show s.data.toList.length = s.size from Array.length_toList] at this
  have HBd := Lib.hid (runesGo_bound s.data.toList)
  go_enter Tryz.func50, Tryz.ntmps50
  go_wp2_with fail
  refine (Runes_any s w hs).mono ?_
  rintro e w1 ⟨A1, n1, k1, A2, n2, k2, rfl, ho1, _, hb1⟩
  obtain ⟨hn, hcp, hrow⟩ := own_ints ho1
  clear ho1
  subst hn
  generalize hX : runesGo (rn s.data.toList) 0 = X at *
  have HX := Lib.hid hX
  clear hX
  obtain ⟨R, T, ok⟩ := X
  simp only at *
  have hbf : Below w.heap.size w (w1.alloc (.cells #[.string s, .slice A1 R.length k1, .slice A2 n2 k2] 71)) := hb1.alloc hb1.size _
  cases ok with
  | false =>
    have HF : Hid (nameB s.data.toList = false) := by unfold Hid; rw [← HM.out]; rfl
    go_wp2_with fail
    go_ret
    exact ⟨ret_bool HF.out.symm, hbf⟩
  | true =>
    by_cases h0 : R.length = 0
    · have HF : Hid (nameB s.data.toList = false) := by unfold Hid; rw [← HM.out]; simp [nameRefB, h0]
      have b0 : ((R.length : Int) == 0) = true := beq_iff_eq.2 (by omega)
      clear h0
      go_wp2_with fail
      go_ret
      exact ⟨ret_bool HF.out.symm, hbf⟩
    · have b0 : ((R.length : Int) == 0) = false := beq_eq_false_iff_ne.2 (by omega)
      by_cases h12 : 12 < R.length
      · have HF : Hid (nameB s.data.toList = false) := by unfold Hid; rw [← HM.out]; simp [nameRefB]; omega
        have b1 : decide ((12 : Int) < R.length) = true := by simp; omega
        go_wp2_with fail
        go_ret
        exact ⟨ret_bool HF.out.symm, hbf⟩
      · have b1 : decide ((12 : Int) < R.length) = false := by simp; omega
        obtain ⟨g, rfl, hgl, hcell⟩ := hrow 0 (by omega)
        clear hrow
        have hcell' : ∀ j (hj : j < R.length), (w1.alloc (.cells #[.string s, .slice (some ⟨g, 0, none⟩) R.length k1, .slice A2 n2 k2] 71)).cell? ⟨g, j, none⟩ = some (.int .i64 ((R.getD j 0 : Nat) : Int)) := fun j hj => by
          rw [World.cell?_alloc_lt _ _ _ hgl]; exact hcell j hj
        clear hcell
        have HC := Lib.hid hcell'
        have hc0 := hcell' 0 (by omega)
        clear hcell'
        by_cases hL : letterI ((R.getD 0 0 : Nat) : Int) = true
        · have bL : (clsI ((R.getD 0 0 : Nat) : Int) != 2) = false := by rw [(cls_two _).2 hL]; rfl
          have HL := Lib.hid hL
          clear hL
          generalize hr0 : R.getD 0 0 = r0 at *
          have HR0 := Lib.hid hr0
          clear hr0
          go_wp2_with (go_at_call 70; refine (refClass_any _ _).mono ?_; rintro e w' ⟨rfl, rfl⟩)
          clear hc0
          go_loop [5] (fun i => ∃ k : Nat, k ≤ R.length ∧ i = .int .i64 k ∧ Hid (∀ j, j < k → isWI ((R.getD j 0 : Nat) : Int) = true)) (fun i => R.length - (intOf i).toNat)
          case atStart => exact ⟨0, by omega, rfl, fun j hj => absurd hj (by omega)⟩
          case round =>
            obtain ⟨k, hk, rfl, HJ⟩ := hrel
            by_cases hlt : k < R.length
            · have hc := HC.out k hlt
              have HR : Hid (R.getD k 0 ∈ R) := by
                unfold Hid; rw [List.getD_eq_getElem?_getD, List.getElem?_eq_getElem hlt]; exact List.getElem_mem hlt
              rcases hw : isWI ((R.getD k 0 : Nat) : Int) with _ | _
              · have HF : Hid (nameB s.data.toList = false) := by
                  unfold Hid; rw [← HM.out]
                  cases hq : nameRefB (R, T, true) with
                  | false => rfl
                  | true =>
                    unfold nameRefB at hq
                    simp only [Bool.and_eq_true, List.all_eq_true] at hq
                    have := hq.2 _ HR.out
                    rw [hw] at this
                    cases this
                generalize R.getD k 0 = rk at *
                go_wp2_with (go_at_call 90; refine (wordy_any _ _).mono ?_; rintro e w' ⟨rfl, rfl⟩)
                go_ret
                exact ⟨ret_bool HF.out.symm, hbf⟩
              · have HW : Hid (∀ j, j < k + 1 → isWI ((R.getD j 0 : Nat) : Int) = true) := by
                  intro j hj
                  by_cases he : j = k
                  · rw [he]; exact hw
                  · exact HJ.out j (by omega)
                generalize R.getD k 0 = rk at *
                go_wp2_with (go_at_call 90; refine (wordy_any _ _).mono ?_; rintro e w' ⟨rfl, rfl⟩)
                go_round
                case rel => exact ⟨k + 1, by omega, by go_num, HW.out⟩
                case measure => simp [intOf]; omega
            · have HF : Hid (nameB s.data.toList = true) := by
                unfold Hid; rw [← HM.out]
                unfold nameRefB
                simp only [Bool.and_eq_true, List.all_eq_true, decide_eq_true_eq, true_and]
                refine ⟨⟨⟨by omega, by omega⟩, by rw [HR0.out]; exact HL.out⟩, fun r hr => ?_⟩
                obtain ⟨j, hj, rfl⟩ := List.getElem_of_mem hr
                have := HJ.out j (by omega)
                rw [List.getD_eq_getElem?_getD, List.getElem?_eq_getElem hj] at this
                exact this
              go_wp2_with fail
              go_ret
              exact ⟨ret_bool HF.out.symm, hbf⟩
        · have hL' : letterI ((R.getD 0 0 : Nat) : Int) = false := by simpa using hL
          have HF : Hid (nameB s.data.toList = false) := by
            unfold Hid; rw [← HM.out]; unfold nameRefB; simp only [hL', Bool.and_false, Bool.false_and]
          have bL : (clsI ((R.getD 0 0 : Nat) : Int) != 2) = true := by
            rw [bne_iff_ne]; exact fun h => hL ((cls_two _).1 h)
          clear hL hL'
          generalize R.getD 0 0 = r0 at *
          go_wp2_with (go_at_call 70; refine (refClass_any _ _).mono ?_; rintro e w' ⟨rfl, rfl⟩)
          go_ret
          exact ⟨ret_bool HF.out.symm, hbf⟩
end Go.Proofs.YtinocaggponpmaaGreatDoor.Lx
