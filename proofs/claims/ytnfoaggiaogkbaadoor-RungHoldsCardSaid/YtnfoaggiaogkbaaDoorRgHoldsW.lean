/-
  The walk of RungHolds.
-/
import Derived.Test.YtnfoaggiaogkbaaDoorRgL2
namespace Go.Proofs.YtnfoaggiaogkbaaDoor.Rg
open Go.RowKit Lx Ep

theorem chk_err (z : Int) (h : (chk z).2 ≠ 0) : (chk z).1 = 0 := by
  unfold chk at *
  split at h
  · exact absurd rfl h
  · rename_i h1; rw [if_neg h1]
theorem oneZ_err (op a : Int) (h : (oneZ op a).2 ≠ 0) : (oneZ op a).1 = 0 := by
  unfold oneZ at *
  split at h
  · rename_i h1; rw [if_pos h1]; exact chk_err _ h
  · exact absurd rfl h
theorem twoZ_err (op a b : Int) (h : (twoZ op a b).2 ≠ 0) : (twoZ op a b).1 = 0 := by
  unfold twoZ at *
  split at h
  · rename_i h1; rw [if_pos h1]; exact chk_err _ h
  rename_i h1; rw [if_neg h1]
  split at h
  · rename_i h2; rw [if_pos h2]; exact chk_err _ h
  rename_i h2; rw [if_neg h2]
  split at h
  · rename_i h3; rw [if_pos h3]; exact chk_err _ h
  rename_i h3; rw [if_neg h3]
  split at h
  · rename_i h4; rw [if_pos h4]
    split at h
    · rename_i h5; rw [if_pos h5]
    · rename_i h5; rw [if_neg h5]; exact chk_err _ h
  rename_i h4; rw [if_neg h4]
  split at h
  · rename_i h6; rw [if_pos h6]
    split at h
    · rename_i h7; rw [if_pos h7]
    · exact absurd rfl h
  · exact absurd rfl h
theorem valE_err (env : List (Nm × Int)) (t : Ex) (h : (valE env t).2 ≠ 0) : (valE env t).1 = 0 := by
  cases t with
  | mk op n nm ks =>
    rw [valE] at *
    split at h
    · rename_i h1
      rw [if_pos h1]
      split at h
      · exact absurd rfl h
      · rename_i h2
        rw [if_neg h2]
        split at h
        · exact absurd rfl h
        · rfl
    · rename_i h1
      rw [if_neg h1]
      split at h
      · rfl
      · split at h
        · rename_i h3; rw [if_pos h3]; exact oneZ_err _ _ h
        · rename_i h3; rw [if_neg h3]
      · exact twoZ_err _ _ _ h
theorem evalE_err (env : List (Nm × Int)) (t : Ex) (h : (evalE env t).2 ≠ 0) : (evalE env t).1 = 0 := by
  unfold evalE at *
  split at h
  · rename_i h1; rw [if_pos h1]; exact valE_err _ _ h
  · rename_i h1; rw [if_neg h1]

def cmpI (t : Ex) (a : Option Addr) (cap : Nat) : In := ⟨2, [], t, a, cap⟩
def hldL (t : Ex) (a : Option Addr) (cap p : Nat) : List Ru := [⟨3, [112], [cmpI t a cap], some ⟨p, 0, none⟩, 1⟩, ⟨4, [112], [cmpI t a cap, insO 9 []], some ⟨p + 1, 0, none⟩, 2⟩]
theorem hld_ins (t : Ex) (a : Option Addr) (cap : Nat) (hm : mayB t = true) : insP [] yes (cmpI t a cap) = 0 := by
  have h1 : (namesP t).all yes = true := List.all_eq_true.2 fun x _ => rfl
  have e : insP [] yes (cmpI t a cap) = cmpP yes t := rfl
  rw [e]
  unfold cmpP
  rw [if_pos h1, if_pos hm]
theorem hld_check (t : Ex) (a : Option Addr) (cap p : Nat) (hm : mayB t = true) : checkP (hldL t a cap p) yes yes = 0 := by
  have hi := hld_ins t a cap hm
  have hb : bitsP (hldL t a cap p) = [] := rfl
  have hn : nameB [112] = true := by decide +kernel
  have h9 : insP [] yes (insO 9 []) = 0 := by decide +kernel
  unfold checkP
  rw [if_neg (by simp [hldL]), hb]
  simp only [hldL, firstE, rungP, hn, codeGo, hi, h9, yes, List.length_cons, List.length_nil]
  rfl
theorem hld_run (t : Ex) (a : Option Addr) (cap p : Nat) (env : List (Nm × Int)) (hm : mayB t = true) :
    runP (hldL t a cap p) [] env = if (evalE env t).1 = 0 then ⟨[], [[112]], []⟩ else ⟨[], [], [[112]]⟩ := by
  have hb : bitsP (hldL t a cap p) = [] := rfl
  have hg : goes (hldL t a cap p) 0 = true := by unfold goes; rw [hld_check t a cap p hm, hb]; rfl
  unfold runP
  rw [show ([] : List Bool).length = 0 from rfl, hg, if_pos rfl, hb]
  by_cases h : (evalE env t).1 = 0
  · rw [if_pos h]
    simp only [scanP, hldL, List.foldl_cons, List.foldl_nil, stepP, outP, stackP, operandP, cmpI, insO, effP, usesP, operT9, applyP, h]
    rfl
  · rw [if_neg h]
    have hd : decide ((evalE env t).1 = 0) = false := decide_eq_false h
    simp only [scanP, hldL, List.foldl_cons, List.foldl_nil, stepP, outP, stackP, operandP, cmpI, insO, effP, usesP, operT9, applyP, hd]
    rfl

def cmC (t : Ex) (a : Option Addr) (m cap : Nat) : Array Value := #[.int .i64 2, .string ⟨#[]⟩, .int .i64 t.op, .int .i64 t.n, .string ⟨t.name.toArray⟩, .slice a m cap]
theorem hld_world (w1 : World) (t : Ex) (a : Option Addr) (m cap p : Nat) (hm : t.kids.length = m) (hp : w1.heap.size = p) (hI : TrE w1 (cmpI t a cap)) : Rungs (((w1.alloc (.cells #[.int .i64 2, .string ⟨#[]⟩, .int .i64 t.op, .int .i64 t.n, .string ⟨t.name.toArray⟩, .slice a m cap] 40)).alloc (.cells #[.int .i64 2, .string ⟨#[]⟩, .int .i64 t.op, .int .i64 t.n, .string ⟨t.name.toArray⟩, .slice a m cap, .int .i64 9, .string ⟨#[]⟩, .int .i64 0, .int .i64 0, .string ⟨#[]⟩, .slice none 0 0] 40)).alloc (.cells #[.int .i64 3, .string ⟨#[112]⟩, .slice (some ⟨p, 0, none⟩) 1 1, .int .i64 4, .string ⟨#[112]⟩, .slice (some ⟨p + 1, 0, none⟩) 2 2] 43)) (some ⟨p + 1 + 1, 0, none⟩) (hldL t a cap p) ∧ Below p w1 (((w1.alloc (.cells #[.int .i64 2, .string ⟨#[]⟩, .int .i64 t.op, .int .i64 t.n, .string ⟨t.name.toArray⟩, .slice a m cap] 40)).alloc (.cells #[.int .i64 2, .string ⟨#[]⟩, .int .i64 t.op, .int .i64 t.n, .string ⟨t.name.toArray⟩, .slice a m cap, .int .i64 9, .string ⟨#[]⟩, .int .i64 0, .int .i64 0, .string ⟨#[]⟩, .slice none 0 0] 40)).alloc (.cells #[.int .i64 3, .string ⟨#[112]⟩, .slice (some ⟨p, 0, none⟩) 1 1, .int .i64 4, .string ⟨#[112]⟩, .slice (some ⟨p + 1, 0, none⟩) 2 2] 43)) ∧ ((((w1.alloc (.cells #[.int .i64 2, .string ⟨#[]⟩, .int .i64 t.op, .int .i64 t.n, .string ⟨t.name.toArray⟩, .slice a m cap] 40)).alloc (.cells #[.int .i64 2, .string ⟨#[]⟩, .int .i64 t.op, .int .i64 t.n, .string ⟨t.name.toArray⟩, .slice a m cap, .int .i64 9, .string ⟨#[]⟩, .int .i64 0, .int .i64 0, .string ⟨#[]⟩, .slice none 0 0] 40)).alloc (.cells #[.int .i64 3, .string ⟨#[112]⟩, .slice (some ⟨p, 0, none⟩) 1 1, .int .i64 4, .string ⟨#[112]⟩, .slice (some ⟨p + 1, 0, none⟩) 2 2] 43))).heap.size = p + 1 + 1 + 1 := by
  subst hm
  have b3 : ∀ O1 O2 O3, Below p w1 (((w1.alloc O1).alloc O2).alloc O3) := by
    rw [← hp]
    exact fun O1 O2 O3 => (((Below.refl w1.heap.size w1).alloc (Nat.le_refl _) O1).alloc (by simp) O2).alloc (by simp; omega) O3
  generalize hk : t.kids.length = m
  have x1 : Box (w1.alloc (.cells #[.int .i64 2, .string ⟨#[]⟩, .int .i64 t.op, .int .i64 t.n, .string ⟨t.name.toArray⟩, .slice a m cap] 40)) p _ _ := box_at hp
  have x2 : Box ((w1.alloc (.cells #[.int .i64 2, .string ⟨#[]⟩, .int .i64 t.op, .int .i64 t.n, .string ⟨t.name.toArray⟩, .slice a m cap] 40)).alloc (.cells #[.int .i64 2, .string ⟨#[]⟩, .int .i64 t.op, .int .i64 t.n, .string ⟨t.name.toArray⟩, .slice a m cap, .int .i64 9, .string ⟨#[]⟩, .int .i64 0, .int .i64 0, .string ⟨#[]⟩, .slice none 0 0] 40)) (p + 1) _ _ := box_at (by simp [hp])
  have x3 : Box (((w1.alloc (.cells #[.int .i64 2, .string ⟨#[]⟩, .int .i64 t.op, .int .i64 t.n, .string ⟨t.name.toArray⟩, .slice a m cap] 40)).alloc (.cells #[.int .i64 2, .string ⟨#[]⟩, .int .i64 t.op, .int .i64 t.n, .string ⟨t.name.toArray⟩, .slice a m cap, .int .i64 9, .string ⟨#[]⟩, .int .i64 0, .int .i64 0, .string ⟨#[]⟩, .slice none 0 0] 40)).alloc (.cells #[.int .i64 3, .string ⟨#[112]⟩, .slice (some ⟨p, 0, none⟩) 1 1, .int .i64 4, .string ⟨#[112]⟩, .slice (some ⟨p + 1, 0, none⟩) 2 2] 43)) (p + 1 + 1) _ _ := box_at (by simp [hp])
  have y1 := (x1.alloc (.cells #[.int .i64 2, .string ⟨#[]⟩, .int .i64 t.op, .int .i64 t.n, .string ⟨t.name.toArray⟩, .slice a m cap, .int .i64 9, .string ⟨#[]⟩, .int .i64 0, .int .i64 0, .string ⟨#[]⟩, .slice none 0 0] 40)).alloc (.cells #[.int .i64 3, .string ⟨#[112]⟩, .slice (some ⟨p, 0, none⟩) 1 1, .int .i64 4, .string ⟨#[112]⟩, .slice (some ⟨p + 1, 0, none⟩) 2 2] 43)
  have y2 := x2.alloc (.cells #[.int .i64 3, .string ⟨#[112]⟩, .slice (some ⟨p, 0, none⟩) 1 1, .int .i64 4, .string ⟨#[112]⟩, .slice (some ⟨p + 1, 0, none⟩) 2 2] 43)
  have hcm : insC (cmpI t a cap) = [.int .i64 2, .string ⟨#[]⟩, .int .i64 t.op, .int .i64 t.n, .string ⟨t.name.toArray⟩, .slice a m cap] := by unfold insC cmpI; rw [hk]
  refine ⟨rungs_box x3 rfl ?_, b3 _ _ _, by simp [hp]⟩
  intro r hr
  simp only [hldL, List.mem_cons, List.not_mem_nil, or_false] at hr
  rcases hr with rfl | rfl
  · refine code_box y1 (by rw [List.flatMap_cons, hcm]; rfl) ?_
    intro i hi
    simp only [List.mem_singleton] at hi
    subst hi
    exact hI.below (by rw [hp]; exact b3 _ _ _)
  · refine code_box y2 (by rw [List.flatMap_cons, hcm]; rfl) ?_
    intro i hi
    simp only [List.mem_cons, List.not_mem_nil, or_false] at hi
    rcases hi with rfl | rfl
    · exact hI.below (by rw [hp]; exact b3 _ _ _)
    · exact trE_o _ _ _

set_option maxRecDepth 100000 in
set_option maxHeartbeats 8000000 in
theorem holds_walk (v0 : Value) (t : Ex) (v1 : Value) (env : List (Nm × Int)) (w : World) (hT0 : TreeV (fun _ => True) w t v0) (hN : numsE t) (hE : EnvA w env v1) (hT : Tabs w) : Calls Tryd.prog 4 #[v0, v1] w fun e w' => e = .returned (.bool true) ∧ Below w.heap.size w w' := by
  obtain ⟨a, cap, rfl, -, -⟩ := hT0.open
  obtain ⟨⟨ea, ecap, rfl, -⟩, -⟩ := id hE
  have hCe := fun w1 (hb : Below w.heap.size w w1) => cells_any env (.slice ea env.length ecap) w1 ⟨by
    obtain ⟨⟨a', c', e, h1, h2, h3⟩, _⟩ := hE
    injection e with e1 e2 e3
    subst e1 e3
    refine ⟨ea, ecap, rfl, h1, h2, fun hne => ?_⟩
    obtain ⟨g, off, e, hg, hat⟩ := h3 hne
    exact ⟨g, off, e, Nat.lt_of_lt_of_le hg hb.size, fun k hk => ⟨(hb.cell (p := ⟨g, _, none⟩) hg).trans (hat k hk).1, (hb.cell (p := ⟨g, _, none⟩) hg).trans (hat k hk).2⟩⟩, hE.2⟩
  have hWe : ∀ w1, Below w.heap.size w w1 → Calls Tryd.prog 18 #[exV t.op t.n t.name a t.kids.length cap, .int .i64 200] w1 (WtPost w1) := fun w1 hb => weight_any t (fun _ => True) _ 200 w1 (hT0.below hb (Nat.le_refl _)) (by omega) (by omega)
  have hMy : ∀ w1, Below w.heap.size w w1 → Calls Tryd.prog 19 #[exV t.op t.n t.name a t.kids.length cap] w1 fun e w' => e = .returned (.bool (mayB t)) ∧ Below w1.heap.size w1 w' := fun w1 hb => May_any t (fun _ => True) _ w1 (hT.below hb).ops (hT0.below hb (Nat.le_refl _))
  have hEv : env.length ≤ 100 → ∀ w1, Below w.heap.size w w1 → Calls Tryd.prog 20 #[exV t.op t.n t.name a t.kids.length cap, .slice ea env.length ecap] w1 fun e w' => e = .returned (.tuple #[.int .i64 (evalE env t).1, .int .i64 (evalE env t).2]) ∧ Below w1.heap.size w1 w' := fun hl w1 hb => Eval_any t (fun _ => True) _ _ env w1 (hT.below hb).ops (hT0.below hb (Nat.le_refl _)) ((hE.short (by omega)).below hb (Nat.le_refl _)) hN
  have HEn := Lib.hid (fun (hl : env.length ≤ 100) w1 (hb : Below w.heap.size w w1) => (hE.short (by omega)).below hb (Nat.le_refl _))
  have HI := Lib.hid (fun w1 (hb : Below w.heap.size w w1) => (show TrE w1 (cmpI t a cap) from ⟨hT0.below hb (Nat.le_refl _), hN⟩))
  have HT := Lib.hid hT
  have HCe := Lib.hid hCe
  have HWe := Lib.hid hWe
  have HMy := Lib.hid hMy
  have HEv := Lib.hid hEv
  clear hCe hWe hMy hEv hT hE hT0 hN
  unfold exV at *
  generalize hkm : t.kids.length = m at *
  have HKm := Lib.hid hkm
  clear hkm
  generalize hel : env.length = en at *
  have HEl := Lib.hid hel
  clear hel
  have hx0 := Box.new w 34 #[.int .i64 t.op, .int .i64 t.n, .string ⟨t.name.toArray⟩, .slice a m cap]
  have hb0 := (Below.refl w.heap.size w).alloc (Nat.le_refl _) (.cells #[.int .i64 t.op, .int .i64 t.n, .string ⟨t.name.toArray⟩, .slice a m cap] 34)
  go_enter Tryd.func4, Tryd.ntmps4
  go_wp2_with fail
  refine (awake_any _ (HT.out.below hb0)).mono ?_
  rintro e w1 ⟨rfl, hb1⟩
  have hx1 := hx0.below hb1 hx0.lt
  have hB1 := hb0.trans (hb1.mono hb0.size)
  clear hb1 hx0 hb0
  go_wp2_with fail
  refine (HCe.out w1 hB1).mono ?_
  rintro e w2 ⟨b, rfl, hbn, rfl⟩
  obtain ⟨p0, p1, p2, p3, -, -, -, -⟩ := hx1.four
  cases b with
  | false =>
    clear hbn HCe
    go_wp2
    go_ret
    exact ⟨rfl, hB1⟩
  | true =>
    have h100 := hbn rfl
    clear hbn HCe
    have hW1 := HWe.out w1 hB1
    go_wp2_with fail
    refine hW1.mono ?_
    rintro e w3 ⟨z, rfl, hz0, hz4, hb3⟩
    have hB3 := hB1.trans (hb3.mono hB1.size)
    have hx3 := hx1.below hb3 hx1.lt
    clear hW1 HWe p0 p1 p2 p3 hx1
    obtain ⟨p0, p1, p2, p3, -, -, -, -⟩ := hx3.four
    by_cases hz : z = 0
    · have bz : (z == 0) = true := by simpa using hz
      clear hz
      go_wp2
      go_ret
      exact ⟨rfl, hB3⟩
    have bz : (z == 0) = false := by simpa using hz
    clear hz
    have hM3 := HMy.out w3 hB3
    clear HMy
    cases hmy : mayB t with
    | false =>
      rw [hmy] at hM3
      go_wp2_with fail
      refine hM3.mono ?_
      rintro e w4 ⟨rfl, hb4⟩
      have hB4 := hB3.trans (hb4.mono hB3.size)
      clear hM3 p0 p1 p2 p3 hx3
      go_wp2
      go_ret
      exact ⟨rfl, hB4⟩
    | true =>
      rw [hmy] at hM3
      have HMt := Lib.hid hmy
      clear hmy
      go_wp2_with fail
      refine hM3.mono ?_
      rintro e w4 ⟨rfl, hb4⟩
      have hB4 := hB3.trans (hb4.mono hB3.size)
      have hx4 := hx3.below hb4 hx3.lt
      clear hM3 p0 p1 p2 p3 hx3 hb3 hb4
      obtain ⟨p0, p1, p2, p3, -, -, -, -⟩ := hx4.four
      have hlt4 : w.heap.size < w4.heap.size := hx4.lt
      generalize hp : w4.heap.size = p
      have hltp : w.heap.size < p := by rw [← hp]; exact hlt4
      obtain ⟨hR, hbW, hs3⟩ := hld_world w4 t a m cap p HKm.out hp (HI.out w4 hB4)
      have hx5 := hx4.below hbW (by rw [← hp]; exact hx4.lt)
      generalize hW : (((w4.alloc (.cells #[.int .i64 2, .string ⟨#[]⟩, .int .i64 t.op, .int .i64 t.n, .string ⟨t.name.toArray⟩, .slice a m cap] 40)).alloc (.cells #[.int .i64 2, .string ⟨#[]⟩, .int .i64 t.op, .int .i64 t.n, .string ⟨t.name.toArray⟩, .slice a m cap, .int .i64 9, .string ⟨#[]⟩, .int .i64 0, .int .i64 0, .string ⟨#[]⟩, .slice none 0 0] 40)).alloc (.cells #[.int .i64 3, .string ⟨#[112]⟩, .slice (some ⟨p, 0, none⟩) 1 1, .int .i64 4, .string ⟨#[112]⟩, .slice (some ⟨p + 1, 0, none⟩) 2 2] 43)) = W at *
      have hB5 := hB4.trans (hbW.mono (by rw [← hp]; exact hB4.size))
      have HR := Lib.hid hR
      have HTW := Lib.hid (HT.out.below hB5)
      have HE5 := Lib.hid (HEn.out h100 W hB5)
      clear hR hbW
      have hE5 := HEv.out h100 W hB5
      have HRun := Lib.hid (hld_run t a cap p env HMt.out)
      have HEr := Lib.hid (evalE_err env t)
      clear HEv HI
      obtain ⟨q0, q1, q2, q3, -, -, -, -⟩ := hx5.four
      go_wp2_with fail
      clear hW
      refine hE5.mono ?_
      rintro e w6 ⟨rfl, hb6⟩
      have hB6 := hB5.trans (hb6.mono hB5.size)
      have hRn := Run_any (hldL t a cap p) (some ⟨p + 1 + 1, 0, none⟩) 2 [] none 0 env ea en ecap w6 (HTW.out.below hb6) (HR.out.below hb6) RowF.nil_ (HE5.out.below hb6 (Nat.le_refl _)) (fun r hr => by simp [hldL] at hr; rcases hr with rfl | rfl <;> simp [maxLen])
      clear hE5 p0 p1 p2 p3 q0 q1 q2 q3 hx4 hx5
      by_cases hz : (evalE env t).1 = 0
      · rw [HRun.out, if_pos hz] at hRn
        rw [hz]
        generalize (evalE env t).2 = f at *
        clear hz HRun HEr
        by_cases hf : f = 0
        · have bf : (f == 0) = true := by simpa using hf
          clear hf
          go_wp2_with fail
          refine hRn.mono ?_
          rintro e w7 hP
          obtain ⟨A1, c1, A2, c2, A3, c3, rfl, -, -, -, hb7⟩ := run_as hP rfl (n1 := 0) (n2 := 1) (n3 := 0) rfl rfl rfl
          have HF := Lib.hid (hB6.trans (hb7.mono hB6.size))
          clear hRn hP hb7
          go_wp2
          go_ret
          exact ⟨rfl, HF.out⟩
        · have bf : (f == 0) = false := by simpa using hf
          clear hf
          go_wp2_with fail
          refine hRn.mono ?_
          rintro e w7 hP
          obtain ⟨A1, c1, A2, c2, A3, c3, rfl, -, -, -, hb7⟩ := run_as hP rfl (n1 := 0) (n2 := 1) (n3 := 0) rfl rfl rfl
          have HF := Lib.hid (hB6.trans (hb7.mono hB6.size))
          clear hRn hP hb7
          go_wp2
          go_ret
          exact ⟨rfl, HF.out⟩
      · have hf0 : (evalE env t).2 = 0 := by
          by_cases h : (evalE env t).2 = 0
          · exact h
          · exact absurd (HEr.out h) hz
        rw [HRun.out, if_neg hz] at hRn
        rw [hf0]
        have bz2 : ((evalE env t).1 != 0) = true := by simpa using hz
        generalize (evalE env t).1 = n at *
        clear hz HRun HEr hf0
        go_wp2_with fail
        refine hRn.mono ?_
        rintro e w7 hP
        obtain ⟨A1, c1, A2, c2, A3, c3, rfl, -, -, -, hb7⟩ := run_as hP rfl (n1 := 0) (n2 := 0) (n3 := 1) rfl rfl rfl
        have HF := Lib.hid (hB6.trans (hb7.mono hB6.size))
        clear hRn hP hb7
        go_wp2
        all_goals go_ret
        all_goals exact ⟨rfl, HF.out⟩
end Go.Proofs.YtnfoaggiaogkbaaDoor.Rg
