/-
  For TagsWithin: New of tables of any length; the numbers told last; turns opened.
-/
import Derived.Test.YtppffmmngomijaaTgW7
import Derived.Test.YtppffmmngomijaaTgO
namespace Go.Proofs.Ytppffmmngomijaa.Tg
open Go.RowKit Lx

theorem check_long {l : List Tg} (h : 12 < l.length) : checkT l = 2 := by unfold checkT; rw [if_pos h]
set_option maxRecDepth 100000 in
theorem Check_long (l : List Tg) (a : Option Addr) (cap : Nat) (w : World) (h12 : 12 < l.length) :
    Calls Try.prog 14 #[.slice a l.length cap] w fun e w' => e = .returned (.int .i64 2) ∧ Below w.heap.size w w' := by
  generalize l.length = len at *
  go_enter Try.func14, Try.ntmps14
  go_wp2
  go_ret
  exact ⟨rfl, Below.refl _ _⟩
set_option maxRecDepth 100000 in
set_option maxHeartbeats 1000000 in
theorem New_all (l : List Tg) (a : Option Addr) (cap : Nat) (w : World) (hcap : l.length ≤ cap) (hT : Tags w a l) :
    Calls Try.prog 11 #[.slice a l.length cap] w (ImPost (newT l) w) := by
  by_cases h12 : 12 < l.length
  · have hX : newT l = (none, 2) := by unfold newT; rw [check_long h12]; rfl
    rw [hX]
    have hCk := Check_long l a cap (w.alloc (.cells #[.slice none 0 0, .slice none 0 0] 28)) h12
    clear hX hT
    generalize l.length = len at *
    go_enter Try.func11, Try.ntmps11
    go_wp2_with fail
    refine hCk.mono ?_
    rintro e w1 ⟨rfl, hb1⟩
    have hy := (Box.new w 28 #[.slice none 0 0, .slice none 0 0]).below hb1 (by simp)
    have hb0 := below_new hb1
    clear hb1
    have e0 := hy.cell 0
    have e1 := hy.cell 1
    have f0 := hy.frozen 0
    have f1 := hy.frozen 1
    simp at e0 e1
    have hy3 := two_set hy (.slice none 0 0) (.slice none 0 0)
    have r0 := hy3.cell 0
    have r1 := hy3.cell 1
    simp at r0 r1
    go_wp2_with fail
    exact bodyPost_ret (v := .tuple #[.agg #[.slice none 0 0, .slice none 0 0], .int .i64 2]) (by simp [results, Try.results11, go_sem, r0, r1]) rfl (impost_none ((hb0.setCell (p := ⟨w.heap.size, 0, none⟩) (Nat.le_refl _) _).setCell (p := ⟨w.heap.size, 1, none⟩) (Nat.le_refl _) _))
  · exact New_any l a cap w (by omega) hcap hT

/-- Is this number beyond the bounds? -/
def cutB (t : Tg) (n : Int) : Bool := decide (n < t.lo) || decide (t.hi < n)
theorem cut_iff (t : Tg) (n : Int) : decide (nearZ t n ≠ n) = cutB t n ∨ t.hi < t.lo := by
  by_cases h : t.hi < t.lo
  · exact .inr h
  · left
    unfold nearZ cutB
    by_cases h1 : n < t.lo
    · rw [if_pos h1]
      simp only [h1, decide_true, Bool.true_or, decide_eq_true_eq]
      omega
    · rw [if_neg h1]
      by_cases h2 : t.hi < n
      · rw [if_pos h2]
        simp only [h1, h2, decide_true, decide_false, Bool.or_true, decide_eq_true_eq]
        omega
      · rw [if_neg h2]
        simp [h1, h2]
/-- Each number is what was told last, cut to the bounds; Bad just if an input was cut. -/
def Held (l : List Tg) (im : Im) (last : List Int) : Prop := im.v.length = l.length ∧ im.bad.length = l.length ∧ last.length = 12 ∧ ∀ (i : Nat) (t : Tg), l[i]? = some t → ∃ n, last[i]? = some n ∧ im.v[i]? = some (nearZ t n) ∧ im.bad[i]? = some (cutB t n && !t.out)
theorem near_near (t : Tg) (n : Int) (h : t.lo ≤ t.hi) : nearZ t (nearZ t n) = nearZ t n := by
  obtain ⟨h1, h2⟩ := near_in t n h
  generalize nearZ t n = m at *
  unfold nearZ
  rw [if_neg (by omega), if_neg (by omega)]
theorem held_right {l : List Tg} {im : Im} {last : List Int} (hc : checkT l = 0) (h : Held l im last) : rightB l im = true := by
  obtain ⟨h1, h2, h3, h4⟩ := h
  rw [right_eq]
  simp only [hc, h1, h2, decide_true, Bool.true_and]
  refine all_range _ _ fun i hi => ?_
  obtain ⟨n, k1, k2, k3⟩ := h4 i l[i] (List.getElem?_eq_getElem hi)
  rw [okR_at hi (by omega) (by omega)]
  rw [List.getElem?_eq_getElem (by omega)] at k2 k3
  injection k2 with k2
  injection k3 with k3
  rw [k2, k3, near_near _ _ ((check_ok hc).2.1 i hi)]
  cases l[i].out <;> simp
theorem held_new {l : List Tg} (hc : checkT l = 0) (last : List Int) (hl : last.length = 12) (h : ∀ i, i < l.length → last[i]? = (newI l).v[i]?) : Held l (newI l) last := by
  refine ⟨by simp [newI], by simp [newI], hl, fun i t ht => ?_⟩
  obtain ⟨hi, rfl⟩ := List.getElem?_eq_some_iff.1 ht
  have hle := (check_ok hc).2.1 i hi
  obtain ⟨h1, h2⟩ := near_in l[i] 0 hle
  refine ⟨nearZ l[i] 0, ?_, ?_, ?_⟩
  · rw [h i hi]; simp [newI, List.getElem?_eq_getElem hi]
  · rw [near_near _ _ hle]; simp [newI, List.getElem?_eq_getElem hi]
  · have : cutB l[i] (nearZ l[i] 0) = false := by unfold cutB; simp; omega
    rw [this]
    simp [newI, List.getElem?_eq_getElem hi]
/-- What is told last behind these cells. -/
def lastF (l : List Tg) : List Cl → List Int → List Int
  | [], s => s
  | c :: r, s => lastF l r (s.set ((findZ l c.1).getD 12) c.2)
theorem held_put {l : List Tg} {im : Im} {last : List Int} (hc : checkT l = 0) (h : Held l im last) {i : Nat} (hi : i < l.length) (n : Int) : Held l (im.put i (nearZ l[i] n) (!l[i].out && decide (nearZ l[i] n ≠ n))) (last.set i n) := by
  obtain ⟨h1, h2, h3, h4⟩ := h
  have h12 := (check_ok hc).1
  refine ⟨by simp [Im.put, h1], by simp [Im.put, h2], by simp [h3], fun j t ht => ?_⟩
  by_cases hj : i = j
  · subst hj
    have ht' : t = l[i] := by rw [List.getElem?_eq_getElem hi] at ht; injection ht with ht; exact ht.symm
    subst ht'
    refine ⟨n, by rw [List.getElem?_set_self (by omega)], ?_, ?_⟩
    · simp only [Im.put]; rw [List.getElem?_set_self (by omega)]
    · simp only [Im.put]
      rw [List.getElem?_set_self (by omega)]
      rcases cut_iff l[i] n with h | h
      · rw [h, Bool.and_comm]
      · exact absurd h (by have := (check_ok hc).2.1 i hi; omega)
  · obtain ⟨m, k1, k2, k3⟩ := h4 j t ht
    refine ⟨m, by rw [List.getElem?_set_ne hj]; exact k1, ?_, ?_⟩
    · simp only [Im.put]; rw [List.getElem?_set_ne hj]; exact k2
    · simp only [Im.put]; rw [List.getElem?_set_ne hj]; exact k3
theorem held_tell {l : List Tg} (hc : checkT l = 0) (out : Bool) : ∀ (cs : List Cl) (im y : Im) (last : List Int), Held l im last → tellF l out cs im = some y → Held l y (lastF l cs last)
  | [], im, y, last => fun h e => by
    simp only [tellF, Option.some.injEq] at e
    subst e
    exact h
  | c :: r, im, y, last => fun h e => by
    unfold tellF at e
    cases hz : findZ l c.1 with
    | none => rw [hz] at e; simp at e
    | some i =>
      rw [hz] at e
      simp only at e
      obtain ⟨hi, -⟩ := findZ_at hz
      have hgd : l.getD i default = l[i] := by rw [List.getD_eq_getElem?_getD, List.getElem?_eq_getElem hi]; rfl
      rw [hgd] at e
      split at e
      · rename_i ho
        subst ho
        have := held_tell hc l[i].out r _ y _ (held_put hc h hi c.2) e
        simp only [lastF, hz, Option.getD_some]
        exact this
      · simp at e
/-- Where cells are told, each has its tag. -/
theorem tell_found {l : List Tg} (out : Bool) : ∀ (cs : List Cl) (x y : Im), tellF l out cs x = some y → ∀ c ∈ cs, ∃ i t, findZ l c.1 = some i ∧ l[i]? = some t ∧ t.out = out
  | [], _, _, _ => by simp
  | c :: r, x, y, h => by
    unfold tellF at h
    cases hz : findZ l c.1 with
    | none => rw [hz] at h; simp at h
    | some i =>
      rw [hz] at h
      simp only at h
      obtain ⟨hi, -⟩ := findZ_at hz
      have hgd : l.getD i default = l[i] := by rw [List.getD_eq_getElem?_getD, List.getElem?_eq_getElem hi]; rfl
      rw [hgd] at h
      split at h
      · rename_i ho
        intro c' hc'
        rcases List.mem_cons.1 hc' with rfl | hc'
        · exact ⟨i, l[i], hz, List.getElem?_eq_getElem hi, ho⟩
        · exact tell_found out r _ y h c' hc'
      · simp at h

/-- A turn as it lies: its cells' slice. -/
structure Tn where
  out : Bool
  A : Option Addr
  cs : List Cl
  cap : Nat
instance : Inhabited Tn := ⟨⟨false, none, [], 0⟩⟩
def turnC (t : Tn) : List Value := [.bool t.out, .slice t.A t.cs.length t.cap]
abbrev Turns (w : World) (A : Option Addr) (l : List Tn) : Prop := RowF 2 turnC w A l
theorem Turns.at2 {w : World} {A : Option Addr} {l : List Tn} (h : Turns w A l) {i : Nat} (hi : i < l.length) : ∃ g off, A = some ⟨g, off, none⟩ ∧ g < w.heap.size ∧ w.cell? ⟨g, off + i * 2, none⟩ = some (.bool l[i].out) ∧ w.cell? ⟨g, off + i * 2 + 1, none⟩ = some (.slice l[i].A l[i].cs.length l[i].cap) := by
  obtain ⟨g, off, e, hlt, hc⟩ := RowF.at_ h hi
  exact ⟨g, off, e, hlt, hc 0 _ rfl, hc 1 _ rfl⟩
section
open Go.ChangeShapes Go.WideShapes Go.ChangeAt Go.Deep
variable {H : Type} {enc : TypeId × Value → H} {W : World}
theorem cells_turn : Try.prog.cellsOf 47 = 2 := by kernel_rfl
set_option maxRecDepth 100000 in
theorem el_turn {n : Nat} {cs : List Value} {y : DataW H × List MemPlace} (h : DataW.trod enc Try.prog W 0 (fun _ => true) true n 47 cs = some y) : ∃ x, cs = turnC x ∧ Cells W x.A x.cs := by
  obtain ⟨ys, n', hn', hy, hlen, hyl, hf⟩ := DataW.trod_struct Try.underlying47 h
  rw [cells_turn] at hlen
  match cs, hlen with
  | [c0, c1], _ =>
    have g0 := hf 0 _ rfl
    have g1 := hf 1 _ rfl
    match ys, hyl with
    | [y0, y1], _ =>
      have ci : Try.prog.cellsOf 36 = 1 := by kernel_rfl
      have cb := cells_bool1
      simp only [List.getElem?_cons_zero, List.getElem?_cons_succ] at g0 g1
      obtain ⟨b, e0, _⟩ := DataW.trod_bool Try.underlying4 g0
      obtain ⟨A, l1, c, e1, _, _, hA, _⟩ := open_gen Try.underlying36 cells_cell (by omega) (fun _ => rfl) el_cell g1
      injection e0 with e0
      subst e0; subst e1
      exact ⟨⟨b, A, l1, c⟩, rfl, hA⟩
variable {base0 : Nat} {r : Reach} {v : Value} {d : DataW H} {p : List MemPlace}
theorem open_turns (hv : Value.okWide Try.prog W r base0 44 v) (h : DataW.Trod enc Try.prog W 0 (fun _ => true) true 44 v d p) :
    ∃ (A : Option Addr) (l : List Tn) (c : Nat), v = .slice A l.length c ∧ l.length ≤ c ∧ c ≤ maxLen ∧ Turns W A l ∧ ∀ x ∈ l, Cells W x.A x.cs := by
  obtain ⟨a0, n0, c0, rfl⟩ := okWide_slice Try.underlying44 hv
  obtain ⟨fuel, hf⟩ := h
  exact open_gen Try.underlying44 cells_turn (by omega) (fun _ => rfl) el_turn hf
end
end Go.Proofs.Ytppffmmngomijaa.Tg
