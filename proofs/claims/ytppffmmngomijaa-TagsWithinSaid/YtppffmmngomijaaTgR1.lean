/-
  The document's Find, Near and Check of tags answer as the plain words say.
-/
import Derived.Test.YtppffmmngomijaaTgW1
import Derived.Test.YtppffmmngomijaaNmB
namespace Go.Proofs.Ytppffmmngomijaa.Tg
open Go.RowKit Lx

set_option maxRecDepth 100000 in
set_option maxHeartbeats 1000000 in
theorem refFind_any (l : List Tg) (s : ByteArray) (a : Option Addr) (cap : Nat) (w : World) (hl : l.length ≤ 1000000) (hT : Tags w a l) :
    Calls Try.prog 17 #[.slice a l.length cap, .string s] w fun e w' => e = .returned (.int .i64 (findI l s)) ∧ w = w' := by
  have HT := Lib.hid hT
  clear hT
  generalize hX : findI l s = X
  have HX : Hid ((match findF s (l.drop 0) 0 with | some k => (k : Int) | none => -1) = X) := by unfold Hid; rw [← hX]; rfl
  clear hX
  generalize hL : l.length = len at *
  have HL := Lib.hid hL
  clear hL
  go_enter Try.func17, Try.ntmps17
  go_wp2
  go_loop [5] (fun i => ∃ k : Nat, k ≤ len ∧ i = .int .i64 k ∧ Hid ((match findF s (l.drop k) k with | some k => (k : Int) | none => -1) = X)) (fun i => len - (intOf i).toNat)
  case atStart => exact ⟨0, by omega, rfl, HX⟩
  case round =>
    obtain ⟨k, hkl, rfl, HS⟩ := hrel
    by_cases hlt : k < len
    · have hki : k < l.length := by rw [HL.out]; exact hlt
      obtain ⟨g, off, rfl, hg, c0, c1, c2, c3⟩ := Tags.at4 HT.out hki
      have HF := Lib.hid (findF_drop s l k hki)
      generalize l[k] = t at *
      obtain ⟨nm, out, lo, hi⟩ := t
      simp only at *
      by_cases hq : nm = s
      · have HX2 : Hid (X = (k : Int)) := by unfold Hid; rw [← HS.out, HF.out, if_pos hq]
        have d : (nm.toList == s.toList) = true := by rw [beq_str]; simpa using hq
        clear hq
        go_wp2
        go_ret
        exact ⟨ret_int HX2.out.symm, rfl⟩
      · have HX2 : Hid ((match findF s (l.drop (k + 1)) (k + 1) with | some k => (k : Int) | none => -1) = X) := by unfold Hid; rw [← HS.out, HF.out, if_neg hq]
        have d : (nm.toList == s.toList) = false := by rw [beq_str]; simpa using hq
        clear hq
        go_wp2
        go_round
        case rel => exact ⟨k + 1, by omega, by go_num, HX2⟩
        case measure => simp [intOf]; omega
    · have HX2 : Hid (X = -1) := by
        unfold Hid; rw [← HS.out, List.drop_eq_nil_of_le (by rw [HL.out]; omega)]; rfl
      go_wp2
      go_ret
      exact ⟨ret_int HX2.out.symm, rfl⟩

set_option maxRecDepth 100000 in
theorem refNear_any (t : Tg) (n : Int) (w : World) :
    Calls Try.prog 31 #[.agg #[.string t.nm, .bool t.out, .int .i64 t.lo, .int .i64 t.hi], .int .i64 n] w fun e w' => e = .returned (.int .i64 (nearZ t n)) ∧ Below w.heap.size w w' := by
  obtain ⟨nm, out, lo, hi⟩ := t
  have hX : Hid (nearZ ⟨nm, out, lo, hi⟩ n = if n < lo then lo else if hi < n then hi else n) := rfl
  generalize nearZ ⟨nm, out, lo, hi⟩ n = X at *
  by_cases h1 : n < lo
  · have hX2 : Hid (X = lo) := by unfold Hid; rw [hX.out, if_pos h1]
    go_enter Try.func31, Try.ntmps31
    go_wp2
    go_ret
    exact ⟨ret_int hX2.out.symm, (Below.refl _ w).alloc (Nat.le_refl _) _⟩
  · by_cases h2 : hi < n
    · have hX2 : Hid (X = hi) := by unfold Hid; rw [hX.out, if_neg h1, if_pos h2]
      go_enter Try.func31, Try.ntmps31
      go_wp2
      go_ret
      exact ⟨ret_int hX2.out.symm, (Below.refl _ w).alloc (Nat.le_refl _) _⟩
    · have hX2 : Hid (X = n) := by unfold Hid; rw [hX.out, if_neg h1, if_neg h2]
      go_enter Try.func31, Try.ntmps31
      go_wp2
      go_ret
      exact ⟨ret_int hX2.out.symm, (Below.refl _ w).alloc (Nat.le_refl _) _⟩

theorem find_self (l : List Tg) (k : Nat) (hk : k < l.length) : findZ (l.take k) l[k].nm = none ↔ findI l l[k].nm = (k : Int) := by
  have h := findF_take l[k].nm l 0 k
  unfold findI
  by_cases hz : findZ (l.take k) l[k].nm = none
  · have hz' := hz
    unfold findZ at hz'
    rw [if_pos hz', show (0 : Nat) + min k l.length = k by omega, findF_drop _ l k hk, if_pos rfl] at h
    constructor
    · intro _
      unfold findZ
      rw [h]
    · intro _; exact hz
  · constructor
    · intro h0; exact absurd h0 hz
    · intro h0
      have hz' := hz
      unfold findZ at hz'
      rw [if_neg hz'] at h
      exfalso
      obtain ⟨i, hi⟩ := Option.ne_none_iff_exists'.1 hz
      obtain ⟨h1, _⟩ := findZ_at hi
      rw [List.length_take] at h1
      unfold findZ at hi
      unfold findZ at h0
      rw [h, hi] at h0
      simp only at h0
      omega

set_option maxRecDepth 100000 in
set_option maxHeartbeats 4000000 in
theorem refCheck_any (l : List Tg) (a : Option Addr) (cap : Nat) (w : World) (hl : l.length ≤ 1000000) (hN : ∀ t ∈ l, t.nm.size ≤ 20000) (hT : Tags w a l) :
    Calls Try.prog 15 #[.slice a l.length cap] w fun e w' => e = .returned (.int .i64 (checkT l)) ∧ Below w.heap.size w w' := by
  have HT := Lib.hid hT
  have HNm := Lib.hid hN
  clear hT hN
  have HX : Hid (checkT l = if 12 < l.length then 2 else checkF l l.length 0) := rfl
  generalize checkT l = X at *
  generalize hL : l.length = len at *
  have HL := Lib.hid hL
  clear hL
  by_cases h12 : 12 < len
  · have HX2 : Hid (X = 2) := by unfold Hid; rw [HX.out, if_pos h12]
    go_enter Try.func15, Try.ntmps15
    go_wp2
    go_ret
    exact ⟨ret_int HX2.out.symm, Below.refl _ _⟩
  · have HX2 : Hid (checkF l (len - 0) 0 = X) := by unfold Hid; rw [HX.out, if_neg h12]; rfl
    clear HX
    go_enter Try.func15, Try.ntmps15
    go_wp2
    go_loopw [3] (fun i wr => ∃ k : Nat, k ≤ len ∧ i = .int .i64 k ∧ Hid (checkF l (len - k) k = X) ∧ Below w.heap.size w wr) (fun i _ => len - (intOf i).toNat)
    case atStart => exact ⟨0, by omega, rfl, HX2, Below.refl _ _⟩
    case round =>
      obtain ⟨k, hkl, rfl, HS, hbr⟩ := hrel
      by_cases hlt : k < len
      · have hki : k < l.length := by rw [HL.out]; exact hlt
        have HTr : Tags wr a l := RowF.upto HT.out hbr (Nat.le_refl _)
        have HTr' := Lib.hid HTr
        obtain ⟨g, off, rfl, hgr, c0, c1, c2, c3⟩ := Tags.at4 HTr hki
        clear HTr
        have HF : Hid (checkF l (len - k) k = if fairT l[k] = false then 1 else if findZ (l.take k) l[k].nm ≠ none then 5 else checkF l (len - (k + 1)) (k + 1)) := by
          unfold Hid
          have e : len - k = (len - (k + 1)) + 1 := by omega
          rw [e]
          simp only [checkF]
          rw [List.getD_eq_getElem?_getD, List.getElem?_eq_getElem hki]
          rfl
        have HN := Lx.refName_any l[k].nm wr (HNm.out _ (List.getElem_mem hki))
        have HP : ∀ w2, Below wr.heap.size wr w2 → Calls Try.prog 17 #[.slice (some ⟨g, off, none⟩) len cap, .string l[k].nm] w2 fun e w' => e = .returned (.int .i64 (findI l l[k].nm)) ∧ w2 = w' := fun w2 hb2 => by
          have := refFind_any l l[k].nm (some ⟨g, off, none⟩) cap w2 (by rw [HL.out]; omega) (RowF.upto HTr'.out hb2 (Nat.le_refl _))
          rw [HL.out] at this
          exact this
        have HI := Lib.hid (find_self l k hki)
        have HFa : Hid (fairT l[k] = (Lx.nameB l[k].nm.data.toList && decide (l[k].lo ≤ l[k].hi))) := rfl
        generalize findI l l[k].nm = z at *
        generalize findZ (l.take k) l[k].nm = zz at *
        generalize fairT l[k] = fa at *
        generalize l[k] = t at *
        obtain ⟨nm, out, lo, hi⟩ := t
        simp only at *
        clear HTr'
        go_wp2_with fail
        refine HN.mono ?_
        rintro e w1 ⟨rfl, hb1⟩
        have hbw := hbr.trans (hb1.mono hbr.size)
        have hg1 : g < w1.heap.size := Nat.lt_of_lt_of_le hgr hb1.size
        obtain ⟨d0, d2, d3⟩ : w1.cell? ⟨g, off + k * 4, none⟩ = some (.string nm) ∧ w1.cell? ⟨g, off + k * 4 + 2, none⟩ = some (.int .i64 lo) ∧ w1.cell? ⟨g, off + k * 4 + 3, none⟩ = some (.int .i64 hi) := ⟨(hb1.cell (p := ⟨g, _, none⟩) hgr).trans c0, (hb1.cell (p := ⟨g, _, none⟩) hgr).trans c2, (hb1.cell (p := ⟨g, _, none⟩) hgr).trans c3⟩
        have hP1 : ∀ q, _ := fun q => HP (w1.drewN q) (below_drewN hb1 q)
        clear c0 c1 c2 c3
        generalize hnb : Lx.nameB nm.data.toList = nb at *
        cases nb with
        | false =>
          have HX3 : Hid (X = 1) := by unfold Hid; rw [← HS.out, HF.out, if_pos (by rw [HFa.out]; rfl)]
          go_wp2_with fail
          go_quiet (fail)
          go_wp2_with fail
          go_ret
          exact ⟨ret_int HX3.out.symm, below_drewN hbw _⟩
        | true =>
          by_cases hlh : lo ≤ hi
          · have HF2 : Hid ((if zz ≠ none then 5 else checkF l (len - (k + 1)) (k + 1)) = X) := by
              have hfa : fa = true := by rw [HFa.out]; simp [hlh]
              subst hfa
              unfold Hid; rw [← HS.out, HF.out]; simp
            have dg : decide (hi < lo) = false := by simp; omega
            clear hlh
            by_cases hz : z = (k : Int)
            · have HX3 : Hid (checkF l (len - (k + 1)) (k + 1) = X) := by
                have hzz : zz = none := HI.out.2 hz
                unfold Hid; rw [← HF2.out, if_neg (by simp [hzz])]
              subst hz
              go_wp2_with fail
              go_quiet (fail)
              go_wp2_with (go_at_call 17; refine (hP1 _).mono ?_; rintro e w2 ⟨rfl, rfl⟩)
              go_roundw
              case rel => exact ⟨k + 1, by omega, by go_num, HX3, below_drewN hbw _⟩
              case measure => simp [intOf]; omega
            · have HX3 : Hid (X = 5) := by
                have hzz : zz ≠ none := fun h => hz (HI.out.1 h)
                unfold Hid; rw [← HF2.out, if_pos hzz]
              have db : (z != (k : Int)) = true := by simpa using hz
              clear hz
              go_wp2_with fail
              go_quiet (fail)
              go_wp2_with (go_at_call 17; refine (hP1 _).mono ?_; rintro e w2 ⟨rfl, rfl⟩)
              go_ret
              exact ⟨ret_int HX3.out.symm, below_drewN hbw _⟩
          · have HX3 : Hid (X = 1) := by unfold Hid; rw [← HS.out, HF.out, if_pos (by rw [HFa.out]; simp [hlh])]
            have dg : decide (hi < lo) = true := by simp; omega
            clear hlh
            go_wp2_with fail
            go_quiet (fail)
            go_wp2_with fail
            go_ret
            exact ⟨ret_int HX3.out.symm, below_drewN hbw _⟩
      · have HX3 : Hid (X = 0) := by
          unfold Hid; rw [← HS.out, show len - k = 0 by omega]; rfl
        go_wp2
        go_ret
        exact ⟨ret_int HX3.out.symm, hbr⟩
end Go.Proofs.Ytppffmmngomijaa.Tg
