/-
  The walk of RungRises.
-/
import Derived.Test.YtohljihndoodfaaDoorRgRm
import Derived.Test.YtohljihndoodfaaDoorRgL2
namespace Go.Proofs.YtohljihndoodfaaDoor.Rg
open Go.RowKit Lx Ep

def PlPost (l : List Ru) (w : World) (e : Ending) (w' : World) : Prop := ∃ b : Bool, e = .returned (.bool b) ∧ (b = true → ∀ r ∈ l, plainR r) ∧ w = w'
set_option maxRecDepth 100000 in
set_option maxHeartbeats 4000000 in
theorem plain_any (l : List Ru) (A : Option Addr) (cap : Nat) (w : World) (hR : Rungs w A l) (hl : l.length ≤ maxLen) (hc : ∀ r ∈ l, r.code.length ≤ maxLen) : Calls Tryd.prog 23 #[.slice A l.length cap] w (PlPost l w) := by
  have HR := Lib.hid hR
  have HC := Lib.hid hc
  clear hR hc
  have HNo : Hid (PlPost l w (.returned (.bool false)) w) := ⟨false, rfl, (fun h => by cases h), rfl⟩
  unfold maxLen at hl
  generalize hL : l.length = len at *
  have HL := Lib.hid hL
  clear hL
  go_enter Tryd.func23, Tryd.ntmps23
  go_wp2
  go_loopw [3] (fun i wr => ∃ k : Nat, k ≤ len ∧ i = .int .i64 k ∧ Hid (∀ r ∈ l.take k, plainR r) ∧ w = wr) (fun i _ => len - (intOf i).toNat)
  case atStart => exact ⟨0, by omega, rfl, (fun r hr => by simp at hr), rfl⟩
  case round =>
    obtain ⟨k, hkl, rfl, HS, rfl⟩ := hrel
    by_cases hlt : k < len
    · have hki : k < l.length := by rw [HL.out]; exact hlt
      obtain ⟨g, off, rfl, hg, hCd, c0, c1, c2⟩ := Rungs.at3 HR.out hki
      have HTk : Hid (l.take (k + 1) = l.take k ++ [l[k]]) := List.take_succ_eq_append_getElem hki
      have hcm := HC.out _ (List.getElem_mem hki)
      have HCd := Lib.hid hCd
      generalize l[k] = r at *
      have hklt : ((k : Nat) : Int) < (len : Int) := by omega
      unfold maxLen at hcm
      clear hCd
      generalize hm : r.code.length = m at *
      have HM := Lib.hid hm
      clear hm
      by_cases hk2 : r.kd = 2
      · have bk : (r.kd == 2) = true := by simpa using hk2
        clear hk2
        go_wp2
        go_ret
        exact HNo.out
      have bk : (r.kd == 2) = false := by simpa using hk2
      have HK2 := Lib.hid hk2
      clear hk2
      go_wp2
      go_loopw [4] (fun i wz => ∃ j : Nat, j ≤ m ∧ i = .int .i64 j ∧ Hid (∀ i ∈ r.code.take j, plainOp i.op) ∧ w = wz) (fun i _ => m - (intOf i).toNat)
      case atStart => exact ⟨0, by omega, rfl, (fun r hr => by simp at hr), rfl⟩
      case round =>
        obtain ⟨j, hjm, rfl, HJ, rfl⟩ := hrel
        by_cases hjl : j < m
        · have hji : j < r.code.length := by rw [HM.out]; exact hjl
          obtain ⟨g2, off2, e2, hg2, -, q0, -, -, -, -, -⟩ := Code.at6 HCd.out hji
          rw [e2] at c2
          clear e2
          have HTj : Hid (r.code.take (j + 1) = r.code.take j ++ [r.code[j]]) := List.take_succ_eq_append_getElem hji
          generalize r.code[j] = i at *
          have hjm2 : ((j : Nat) : Int) < (m : Int) := by omega
          by_cases hp : plainOp i.op
          · have HJ2 : Hid (∀ x ∈ r.code.take (j + 1), plainOp x.op) := by
              intro x hx
              rw [HTj.out] at hx
              rcases List.mem_append.1 hx with hx | hx
              · exact HJ.out x hx
              · simp only [List.mem_singleton] at hx
                subst hx
                exact hp
            obtain ⟨p1, p4, p6, p9⟩ := hp
            have b1 : (i.op == 1) = false := by simpa using p1
            have b4 : (i.op == 4) = false := by simpa using p4
            have b6 : (i.op == 6) = false := by simpa using p6
            have b9 : (i.op == 9) = false := by simpa using p9
            clear p1 p4 p6 p9 HTj HJ
            go_wp2
            go_roundw
            case rel => exact ⟨j + 1, hjl, by go_num, HJ2, trivial⟩
            case measure => simp [intOf]; omega
          · have hc4 : i.op = 1 ∨ i.op = 4 ∨ i.op = 6 ∨ i.op = 9 := by unfold plainOp at hp; omega
            clear hp HTj HJ
            rcases hc4 with h | h | h | h <;> rw [h] at q0 <;> (go_wp2; go_ret; exact HNo.out)
        · have HS2 : Hid (∀ x ∈ l.take (k + 1), plainR x) := by
            have e : r.code.take j = r.code := List.take_of_length_le (by rw [HM.out]; omega)
            intro x hx
            rw [HTk.out] at hx
            rcases List.mem_append.1 hx with hx | hx
            · exact HS.out x hx
            · simp only [List.mem_singleton] at hx
              subst hx
              exact ⟨HK2.out, by have := HJ.out; rw [e] at this; exact this⟩
          clear HTk HS HJ
          go_wp2
          go_roundw
          case rel => exact ⟨k + 1, hlt, by go_num, HS2, trivial⟩
          case measure => simp [intOf]; omega
    · have HF : Hid (PlPost l w (.returned (.bool true)) w) := ⟨true, rfl, fun _ => by have := HS.out; rw [List.take_of_length_le (by rw [HL.out]; omega)] at this; exact this, rfl⟩
      clear HS HNo
      go_wp2
      go_ret
      exact HF.out

def orL (a b : List Bool) : List Bool := List.zipWith (fun x y => x || y) a b
theorem orL_len {a b : List Bool} (h : a.length ≤ b.length) : (orL a b).length = a.length := by unfold orL; rw [List.length_zipWith]; omega
theorem orL_le : ∀ {a b : List Bool}, a.length ≤ b.length → leL a (orL a b)
  | [], _, _ => by cases ‹List Bool› <;> exact trivial
  | x :: a, [], h => by simp at h
  | x :: a, y :: b, h => ⟨fun e => by simp [e], orL_le (by simpa using h)⟩
theorem orL_at {a b : List Bool} {k : Nat} (h : k < a.length) (h2 : k < b.length) : (orL a b).take (k + 1) = (orL a b).take k ++ [a[k] || b[k]] := by
  have hk : k < (orL a b).length := by unfold orL; rw [List.length_zipWith]; omega
  rw [List.take_succ_eq_append_getElem hk]
  have e : (orL a b)[k] = (a[k] || b[k]) := by simp [orL]
  rw [e]
theorem scan_len {N : List Nm} {env : List (Nm × Int)} : ∀ (l : List Ru) (s : Sc), (scanP N env s l).bits.length = s.bits.length ∧ (scanP N env s l).holds.length ≤ s.holds.length + l.length ∧ (scanP N env s l).bars.length ≤ s.bars.length + l.length
  | [], s => ⟨rfl, by simp [scanP], by simp [scanP]⟩
  | r :: l, s => by
    obtain ⟨a1, a2, a3, -, -⟩ := apply_keeps (N := N) (s := s) (r := r) (o := outP N s.bits env r.code)
    obtain ⟨b1, b2, b3⟩ := scan_len (N := N) (env := env) l (stepP N env s r)
    unfold stepP at b1 b2 b3
    refine ⟨b1.trans a1, ?_, ?_⟩
    · show (scanP N env (applyP N s r (outP N s.bits env r.code)) l).holds.length ≤ _
      simp only [List.length_cons]; omega
    · show (scanP N env (applyP N s r (outP N s.bits env r.code)) l).bars.length ≤ _
      simp only [List.length_cons]; omega
theorem run_len (l : List Ru) (bits : List Bool) (env : List (Nm × Int)) : (runP l bits env).bits.length ≤ bits.length ∧ (runP l bits env).holds.length ≤ l.length ∧ (runP l bits env).bars.length ≤ l.length := by
  unfold runP
  split
  · obtain ⟨h1, h2, h3⟩ := scan_len (N := bitsP l) (env := env) l ⟨bits, [], []⟩
    refine ⟨by rw [h1]; exact Nat.le_refl _, ?_, ?_⟩
    · have := distP_len (scanP (bitsP l) env ⟨bits, [], []⟩ l).holds
      simp only [List.length_nil] at h2
      show (distP _).length ≤ _
      omega
    · have := distP_len (scanP (bitsP l) env ⟨bits, [], []⟩ l).bars
      simp only [List.length_nil] at h3
      show (distP _).length ≤ _
      omega
  · simp
theorem envA_below {w w' : World} {env : List (Nm × Int)} {v : Value} (h : EnvA w env v) (hb : Below w.heap.size w w') : EnvA w' env v := by
  obtain ⟨⟨a, c, e, h1, h2, h3⟩, h4⟩ := h
  exact ⟨⟨a, c, e, h1, h2, fun hne => by
    obtain ⟨g, off, e, hg, hat⟩ := h3 hne
    exact ⟨g, off, e, Nat.lt_of_lt_of_le hg hb.size, fun k hk => ⟨(hb.cell (p := ⟨g, _, none⟩) hg).trans (hat k hk).1, (hb.cell (p := ⟨g, _, none⟩) hg).trans (hat k hk).2⟩⟩⟩, h4⟩
/-- A stage's loop over names: each stands among others. -/
def RsRel (w : World) (i : Value) (n : Nat) (wr : World) : Prop := ∃ k : Nat, k ≤ n ∧ i = .int .i64 (k : Int) ∧ Hid (Below w.heap.size w wr)

set_option maxRecDepth 100000 in
set_option maxHeartbeats 8000000 in
theorem rises_walk (A : Option Addr) (l : List Ru) (cap : Nat) (B : Option Addr) (bits : List Bool) (bc : Nat) (M : Option Addr) (more : List Bool) (mc : Nat) (ve : Value) (env : List (Nm × Int)) (w : World)
    (hc : l.length ≤ cap ∧ cap ≤ maxLen) (hR : Rungs w A l) (hw : ∀ x ∈ l, x.nm.length ≤ maxLen ∧ x.code.length ≤ maxLen) (hB : Bools w B bits) (hM : Bools w M more) (hE : EnvA w env ve) (hT : Tabs w) :
    Calls Tryd.prog 7 #[.slice A l.length cap, .slice B bits.length bc, .slice M more.length mc, ve] w fun e w' => e = .returned (.bool true) ∧ Below w.heap.size w w' := by
  obtain ⟨⟨ea, ecap, rfl, -⟩, -⟩ := id hE
  have HT := Lib.hid hT
  have HLi := Lib.hid (fun w1 (hb : Below w.heap.size w w1) => Light_any l A cap w1 (hR.below hb))
  have HCe := Lib.hid (fun w1 (hb : Below w.heap.size w w1) => cells_any env (.slice ea env.length ecap) w1 (envA_below hE hb))
  have HPl := Lib.hid (fun w1 (hb : Below w.heap.size w w1) => plain_any l A cap w1 (hR.below hb) (Nat.le_trans hc.1 hc.2) (fun r hr => (hw r hr).2))
  have HRn := Lib.hid (fun (hl : env.length ≤ 100) (b : List Bool) (BA : Option Addr) (c : Nat) w1 (hb : Below w.heap.size w w1) (hb1 : Bools w1 BA b) => Run_any l A cap b BA c env ea env.length ecap w1 (hT.below hb) (hR.below hb) hb1 ((hE.short (by omega)).below hb (Nat.le_refl _)) (fun r hr => (hw r hr).1))
  have HB := Lib.hid hB
  have HM := Lib.hid hM
  have HLn := Lib.hid (fun (b : List Bool) => run_len l b env)
  have HMo := Lib.hid (fun (b c : List Bool) (hp : ∀ r ∈ l, plainR r) (h : leL b c) => run_mono (env := env) hp h)
  have HOr := Lib.hid (fun h => orL_le (a := bits) (b := more) h)
  have HOl := Lib.hid (fun h => orL_len (a := bits) (b := more) h)
  clear hR hE hB hM hT hw hc
  generalize hl : l.length = len at *
  have HL := Lib.hid hl
  clear hl
  generalize hn : bits.length = n at *
  have HN := Lib.hid hn
  clear hn
  generalize hm : more.length = m at *
  have HMl := Lib.hid hm
  clear hm
  generalize env.length = en at *
  go_enter Tryd.func7, Tryd.ntmps7
  go_wp2_with fail
  refine (awake_any w HT.out).mono ?_
  rintro e w1 ⟨rfl, hb1⟩
  have HL1 := HLi.out w1 hb1
  clear HLi
  go_wp2_with fail
  refine HL1.mono ?_
  rintro e w2 ⟨b1, rfl, hok, hb2⟩
  have hB2 := hb1.trans (hb2.mono hb1.size)
  have HC2 := HCe.out w2 hB2
  clear HCe HL1 hb2
  go_wp2_with fail
  refine HC2.mono ?_
  rintro e w3 ⟨b2, rfl, hen, rfl⟩
  have HP3 := HPl.out w2 hB2
  clear HPl HC2
  go_wp2_with fail
  refine HP3.mono ?_
  rintro e w3 ⟨b3, rfl, hpl, rfl⟩
  clear HP3 hb1
  have HPlain := Lib.hid hpl
  have HOk := Lib.hid hok
  have HEn := Lib.hid hen
  clear hpl hok hen
  cases b1 with
  | false =>
    go_wp2
    go_ret
    exact ⟨rfl, hB2⟩
  | true =>
  cases b2 with
  | false =>
    go_wp2
    go_ret
    exact ⟨rfl, hB2⟩
  | true =>
  cases b3 with
  | false =>
    go_wp2
    go_ret
    exact ⟨rfl, hB2⟩
  | true =>
  by_cases hn1 : 1000 < n
  · have d1 : decide ((1000 : Int) < (n : Int)) = true := by simp; omega
    go_wp2
    all_goals first | (exfalso; omega) | skip
    go_ret
    exact ⟨rfl, hB2⟩
  have d1 : decide ((1000 : Int) < (n : Int)) = false := by simp; omega
  by_cases hmn : m < n
  · have d2 : decide ((m : Int) < (n : Int)) = true := by simp; omega
    go_wp2
    all_goals first | (exfalso; omega) | skip
    go_ret
    exact ⟨rfl, hB2⟩
  have d2 : decide ((m : Int) < (n : Int)) = false := by simp; omega
  have hnm : n ≤ m := by omega
  have HRun := Lib.hid (HRn.out (HEn.out rfl))
  have HLe := Lib.hid (HOr.out hnm)
  have HLo := Lib.hid (HOl.out hnm)
  have HPr := Lib.hid (HPlain.out rfl)
  have HLt := Lib.hid (HOk.out rfl)
  clear HRn HOr HOl HPlain HOk HEn
  go_wp2
  all_goals first | (exfalso; omega) | skip
  have hs2 := hB2.size
  go_loopw [13, 14] (fun v i wr => ∃ (k : Nat) (A1 : Option Addr) (c1 : Nat), k ≤ n ∧ i = .int .i64 k ∧ v = .slice A1 k c1 ∧ Hid (RowB w2.heap.size wr A1 c1 ((orL bits more).take k)) ∧ Hid (Below w2.heap.size w2 wr)) (fun _ i _ => n - (intOf i).toNat)
  case atStart => exact ⟨0, none, 0, by omega, rfl, rfl, RowB.nil_ _ _, Below.refl _ _⟩
  case round =>
    obtain ⟨k, A1, c1, hkn, rfl, rfl, HRo, HBr⟩ := hrel
    have hBw := hB2.trans (HBr.out.mono hs2)
    by_cases hlt : k < n
    · have hkb : k < bits.length := by rw [HN.out]; exact hlt
      have hkm : k < more.length := by rw [HMl.out]; omega
      obtain ⟨g, off, rfl, hg, c0⟩ := Bools.at1 (HB.out.below hBw) hkb
      obtain ⟨g2, off2, rfl, hg2, c2⟩ := Bools.at1 (HM.out.below hBw) hkm
      have HTk := Lib.hid (orL_at hkb hkm)
      have hln : ((orL bits more).take k).length = k := by rw [List.length_take, HLo.out]; omega
      generalize bits[k] = x at *
      generalize more[k] = y at *
      have hkn2 : ((k : Nat) : Int) < (n : Int) := by omega
      have hkm2 : ((k : Nat) : Int) < (m : Int) := by omega
      have hkm3 : k < m := by omega
      have hro := HRo.out
      unfold RowB at hro
      obtain ⟨A2, c3, w5, hr5, hro5, hbo5, -⟩ := run_app_b (n := k) (x || y) rfl hro hln (by omega) HBr.out.size
      rw [← HTk.out] at hro5
      have HR5 := Lib.hid hro5
      have HB5 := Lib.hid (hbo5 w2 HBr.out)
      clear hro hro5 hbo5 HRo HBr hln HTk hBw
      cases x with
      | true =>
        rw [Bool.true_or] at hr5
        go_wp2_with (at_builtin; refine wpList_append_run rfl (.tmp 64) (.tmp 75) _ _ rfl rfl rfl hr5 ?_)
        go_roundw
        case rel => exact ⟨k + 1, A2, c3, hlt, by go_num, rfl, HR5, HB5⟩
        case measure => simp [intOf]; omega
      | false =>
        rw [Bool.false_or] at hr5
        go_wp2_with (at_builtin; refine wpList_append_run rfl (.tmp 64) (.tmp 75) _ _ rfl rfl rfl hr5 ?_)
        go_roundw
        case rel => exact ⟨k + 1, A2, c3, hlt, by go_num, rfl, HR5, HB5⟩
        case measure => simp [intOf]; omega
    · have hk : k = n := by omega
      have hro := HRo.out
      rw [List.take_of_length_le (by rw [HLo.out]; omega)] at hro
      have hRun1 := HRun.out bits B bc wr hBw (HB.out.below hBw)
      rw [HN.out] at hRun1
      have HHb := Lib.hid hro.bools
      clear hro HRo
      go_wp2_with fail
      refine hRun1.mono ?_
      rintro e w6 ⟨A3, c3, A4, c4, A5, c5, rfl, hQ1, hQ2, hQ3, hb6⟩
      have hB6 := hBw.trans (hb6.mono hBw.size)
      have hRun2 := HRun.out (orL bits more) A1 c1 w6 hB6 (HHb.out.below hb6)
      rw [HLo.out, ← hk] at hRun2
      have HK := Lib.hid hk
      clear hk
      obtain ⟨m1, m2, m3⟩ := HMo.out bits (orL bits more) HPr.out HLe.out
      obtain ⟨u1, u2, u3⟩ := HLn.out bits
      obtain ⟨v1, v2, v3⟩ := HLn.out (orL bits more)
      have hll := HLt.out.1
      rw [HL.out] at hll
      have HLb := Lib.hid (leL_len m1)
      rw [HN.out] at u1
      clear hRun1 HRun
      generalize runP l bits env = s1 at *
      generalize runP l (orL bits more) env = s2 at *
      have HM1 := Lib.hid m1
      have HM2 := Lib.hid m2
      have HM3 := Lib.hid m3
      go_wp2_with fail
      refine hRun2.mono ?_
      rintro e w7 ⟨A6, c6, A7, c7, A8, c8, rfl, hP1, hP2, hP3, hb7⟩
      have hB7 := hB6.trans (hb7.mono hB6.size)
      have HQ1 := Lib.hid (hQ1.below hb7)
      have HQ2 := Lib.hid (RowF.below hQ2 hb7)
      have HQ3 := Lib.hid (RowF.below hQ3 hb7)
      have HP1 := Lib.hid hP1
      have HP2 := Lib.hid hP2
      have HP3 := Lib.hid hP3
      rw [← HLb.out]
      have HLb' := Lib.hid HLb.out.symm
      have hz1k : s1.bits.length ≤ 1000 := by omega
      generalize hz1 : s1.bits.length = z1 at *
      generalize hz2 : s1.holds.length = z2 at *
      generalize hz3 : s1.bars.length = z3 at *
      generalize hy2 : s2.holds.length = y2 at *
      generalize hy3 : s2.bars.length = y3 at *
      have HZ1 := Lib.hid hz1
      have HZ2 := Lib.hid hz2
      have HZ3 := Lib.hid hz3
      have HY2 := Lib.hid hy2
      have HY3 := Lib.hid hy3
      clear hRun2 hQ1 hQ2 hQ3 hP1 hP2 hP3 m1 m2 m3 hz1 hz2 hz3 hy2 hy3 hb6 hb7 hB6 HHb HBr hBw HLn HMo HPr HLt HLe HLo HB HM u1 v1 hs2
      have hbz : ((z1 : Int) != (z1 : Int)) = false := by simp
      have hz2k : z2 ≤ 100 := by omega
      have hz3k : z3 ≤ 100 := by omega
      have hy2k : y2 ≤ 100 := by omega
      have hy3k : y3 ≤ 100 := by omega
      clear u2 u3 v2 v3 hll
      go_wp2
      go_loopw [21] (fun i wr => RsRel w7 i z1 wr) (fun i _ => z1 - (intOf i).toNat)
      case atStart => exact ⟨0, by omega, rfl, Below.refl _ _⟩
      case round =>
        obtain ⟨k1, hk1, rfl, HBa⟩ := hrel
        by_cases hlt1 : k1 < z1
        · have hi1 : k1 < s1.bits.length := by rw [HZ1.out]; exact hlt1
          have hi2 : k1 < s2.bits.length := by rw [HLb'.out]; exact hlt1
          obtain ⟨g, off, rfl, hg, c0⟩ := Bools.at1 (HQ1.out.below HBa.out) hi1
          obtain ⟨g2, off2, rfl, hg2, c2⟩ := Bools.at1 (HP1.out.below HBa.out) hi2
          have hmo := leL_get k1 HM1.out
          rw [List.getElem?_eq_getElem hi1, List.getElem?_eq_getElem hi2] at hmo
          simp only [Option.getD_some] at hmo
          generalize s1.bits[k1] = x at *
          generalize s2.bits[k1] = y at *
          have hk12 : ((k1 : Nat) : Int) < (z1 : Int) := by omega
          clear hi1 hi2
          cases x with
          | false =>
            clear hmo
            go_wp2
            go_roundw
            case rel => exact ⟨k1 + 1, hlt1, by go_num, HBa⟩
            case measure => simp [intOf]; omega
          | true =>
            have hy := hmo rfl
            subst hy
            clear hmo
            go_wp2
            go_roundw
            case rel => exact ⟨k1 + 1, hlt1, by go_num, HBa⟩
            case measure => simp [intOf]; omega
        · go_wp2
          go_loopw [22] (fun i wr => RsRel w7 i y2 wr) (fun i _ => y2 - (intOf i).toNat)
          case atStart => exact ⟨0, by omega, rfl, HBa⟩
          case round =>
            clear HBa
            obtain ⟨k2, hk2, rfl, HBb⟩ := hrel
            by_cases hlt2 : k2 < y2
            · have hi2 : k2 < s2.holds.length := by rw [HY2.out]; exact hlt2
              obtain ⟨g, off, rfl, hg, c0⟩ := Strs.at1 (RowF.below HP2.out HBb.out) hi2
              have hmem := HM2.out _ (List.getElem_mem hi2)
              generalize s2.holds[k2] = x at *
              have hPl := Place_any s1.holds A4 c4 x _ (RowF.below HQ2.out HBb.out) (by rw [HZ2.out]; omega)
              rw [HZ2.out] at hPl
              have hp0 : 0 ≤ placeP s1.holds x := by unfold placeP; rw [if_pos hmem]; omega
              have dp : decide (placeP s1.holds x < 0) = false := by simp; omega
              generalize placeP s1.holds x = pl at *
              have hk12 : ((k2 : Nat) : Int) < (y2 : Int) := by omega
              clear hi2 hmem
              go_wp2_with fail
              refine hPl.mono ?_
              rintro e w8 ⟨rfl, rfl⟩
              clear hPl
              go_wp2
              all_goals first | (exfalso; omega) | skip
              go_roundw
              case rel => exact ⟨k2 + 1, hlt2, by go_num, HBb⟩
              case measure => simp [intOf]; omega
            · go_wp2
              go_loopw [23] (fun i wr => RsRel w7 i y3 wr) (fun i _ => y3 - (intOf i).toNat)
              case atStart => exact ⟨0, by omega, rfl, HBb⟩
              case round =>
                clear HBb
                obtain ⟨k3, hk3, rfl, HBc⟩ := hrel
                by_cases hlt3 : k3 < y3
                · have hi2 : k3 < s2.bars.length := by rw [HY3.out]; exact hlt3
                  obtain ⟨g, off, rfl, hg, c0⟩ := Strs.at1 (RowF.below HP3.out HBc.out) hi2
                  have hmem := HM3.out _ (List.getElem_mem hi2)
                  generalize s2.bars[k3] = x at *
                  have hPl := Place_any s1.bars A5 c5 x _ (RowF.below HQ3.out HBc.out) (by rw [HZ3.out]; omega)
                  rw [HZ3.out] at hPl
                  have hp0 : 0 ≤ placeP s1.bars x := by unfold placeP; rw [if_pos hmem]; omega
                  have dp : decide (placeP s1.bars x < 0) = false := by simp; omega
                  generalize placeP s1.bars x = pl at *
                  have hk12 : ((k3 : Nat) : Int) < (y3 : Int) := by omega
                  clear hi2 hmem
                  go_wp2_with fail
                  refine hPl.mono ?_
                  rintro e w8 ⟨rfl, rfl⟩
                  clear hPl
                  go_wp2
                  all_goals first | (exfalso; omega) | skip
                  go_roundw
                  case rel => exact ⟨k3 + 1, hlt3, by go_num, HBc⟩
                  case measure => simp [intOf]; omega
                · have HF := Lib.hid (hB7.trans (HBc.out.mono hB7.size))
                  go_wp2
                  go_ret
                  exact ⟨rfl, HF.out⟩
end Go.Proofs.YtohljihndoodfaaDoor.Rg
