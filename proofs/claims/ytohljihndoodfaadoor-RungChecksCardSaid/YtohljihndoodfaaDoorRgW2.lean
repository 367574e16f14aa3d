/-
  Contracts of slices.Contains and Index at names, of rung's zero, formed, bit, among and always.
-/
import Derived.Test.YtohljihndoodfaaDoorRgW1
import Derived.Test.YtohljihndoodfaaDoorExNa
namespace Go.Proofs.YtohljihndoodfaaDoor.Rg
open Go.RowKit Lx Ep

theorem toB_inj {s t : Nm} (h : (⟨s.toArray⟩ : ByteArray) = ⟨t.toArray⟩) : s = t := by
  injection h with h
  exact List.toArray_inj h
theorem mem_toB (R : List Nm) (x : Nm) : (⟨x.toArray⟩ : ByteArray) ∈ R.map (fun s => (⟨s.toArray⟩ : ByteArray)) ↔ x ∈ R := by
  constructor
  · intro h
    obtain ⟨y, hy, e⟩ := List.mem_map.1 h
    exact toB_inj e ▸ hy
  · exact fun h => List.mem_map_of_mem h
theorem getD_toB (R : List Nm) (j : Nat) (h : j < R.length) : (R.map (fun s => (⟨s.toArray⟩ : ByteArray))).getD j ByteArray.empty = ⟨(R[j]).toArray⟩ := by
  rw [List.getD_eq_getElem?_getD, List.getElem?_map, List.getElem?_eq_getElem h]; rfl
theorem cells_toB {R : List Nm} {w : World} {g off : Nat} (hc : ∀ i (hi : i < R.length), w.cell? ⟨g, off + i, none⟩ = some (.string ⟨(R[i]).toArray⟩)) :
    ∀ j, j < (R.map (fun s => (⟨s.toArray⟩ : ByteArray))).length → w.cell? ⟨g, off + j, none⟩ = some (.string ((R.map (fun s => (⟨s.toArray⟩ : ByteArray))).getD j ByteArray.empty)) := by
  intro j hj
  rw [List.length_map] at hj
  rw [getD_toB R j hj]
  exact hc j hj
theorem strs_cells {R : List Nm} {w : World} {A : Option Addr} (h : Strs w A R) (h0 : 0 < R.length) : ∃ g off, A = some ⟨g, off, none⟩ ∧ ∀ i (hi : i < R.length), w.cell? ⟨g, off + i, none⟩ = some (.string ⟨(R[i]).toArray⟩) := by
  obtain ⟨g, off, e, _, hc⟩ := h h0
  exact ⟨g, off, e, fun i hi => by simpa using hc i hi 0 _ rfl⟩

theorem contains_any (R : List Nm) (A : Option Addr) (c : Nat) (x : Nm) (w : World) (hS : Strs w A R) (hl : R.length ≤ 1000000) :
    Calls Tryd.prog 37 #[.slice A R.length c, .string ⟨x.toArray⟩] w fun e w' => e = .returned (.bool (decide (x ∈ R))) ∧ w = w' := by
  by_cases h0 : 0 < R.length
  · obtain ⟨g, off, rfl, hc⟩ := strs_cells hS h0
    refine (Tryd.slices_Contains_string g off R.length c (R.map fun s => ⟨s.toArray⟩) ⟨x.toArray⟩ w (by simp) (by omega) (cells_toB hc)).mono ?_
    rintro e w' ⟨rfl, rfl⟩
    refine ⟨ret_bool ?_, rfl⟩
    rw [List.take_of_length_le (by simp), Bool.eq_iff_iff, Lib.containsS_iff, mem_toB, decide_eq_true_iff]
  · have e : R = [] := List.length_eq_zero_iff.1 (by omega)
    subst e
    refine (Tryd.slices_Contains_string_empty A c ⟨x.toArray⟩ w).mono ?_
    rintro e w' ⟨rfl, rfl⟩
    exact ⟨rfl, rfl⟩
theorem index_any (R : List Nm) (A : Option Addr) (c : Nat) (x : Nm) (w : World) (hS : Strs w A R) (hl : R.length ≤ 1000000) (hx : x ∈ R) :
    Calls Tryd.prog 51 #[.slice A R.length c, .string ⟨x.toArray⟩] w fun e w' => e = .returned (.int .i64 (R.idxOf x : Nat)) ∧ w = w' := by
  have h0 : 0 < R.length := List.length_pos_of_mem hx
  obtain ⟨g, off, rfl, hc⟩ := strs_cells hS h0
  refine (Tryd.slices_Index_string g off R.length c (R.map fun s => ⟨s.toArray⟩) ⟨x.toArray⟩ w (by simp) (by omega) (cells_toB hc)).mono ?_
  rintro e w' ⟨rfl, rfl⟩
  refine ⟨?_, rfl⟩
  have hi := List.idxOf_lt_length_of_mem hx
  rw [Lib.idxOfS_hit (R.map fun s => ⟨s.toArray⟩) R.length (R.idxOf x) ⟨x.toArray⟩ hi (by simp) (by rw [getD_toB R _ hi, List.getElem_idxOf]) (fun j hj e => by
    rw [getD_toB R j (by omega)] at e
    have := List.not_of_lt_findIdx (p := (· == x)) hj
    simp at this
    exact this (toB_inj e))]

set_option maxHeartbeats 1000000 in
theorem zero_any (e : Ex) (a : Option Addr) (cap : Nat) (w : World) :
    Calls Tryd.prog 77 #[.agg #[.int .i64 e.op, .int .i64 e.n, .string ⟨e.name.toArray⟩, .slice a e.kids.length cap]] w fun o w' => o = .returned (.bool (zeroB e)) ∧ Below w.heap.size w w' := by
  have HX : Hid (zeroB e = (decide (e.op = 0) && decide (e.n = 0) && decide (e.name = []) && decide (e.kids.length = 0))) := rfl
  generalize e.kids.length = m at *
  generalize e.op = x at *
  generalize e.n = y at *
  generalize e.name = z at *
  go_enter Tryd.func77, Tryd.ntmps77
  go_wp2
  all_goals go_ret
  all_goals refine ⟨ret_bool ?_, (Below.refl _ _).alloc (Nat.le_refl _) _⟩
  all_goals (rw [HX.out, Bool.eq_iff_iff]; simp_all)

/-- What a function value says of names. -/
def Known (w : World) (fn : Nat) (bs : Array Value) (k : Nm → Bool) : Prop :=
  (fn = 31 ∧ bs = #[] ∧ k = yes) ∨
  (fn = 36 ∧ ∃ p A c R, bs = #[.pointer (some ⟨p, 0, none⟩)] ∧ Box w p 23 #[.slice A R.length c] ∧ Strs w A R ∧ R.length ≤ 1000000 ∧ k = fun x => decide (x ∈ R))
theorem Known.below {w w' : World} {fn : Nat} {bs : Array Value} {k : Nm → Bool} (h : Known w fn bs k) (hb : Below w.heap.size w w') : Known w' fn bs k := by
  rcases h with h | ⟨rfl, p, A, c, R, rfl, h1, h2, h3, rfl⟩
  · exact .inl h
  · exact .inr ⟨rfl, p, A, c, R, rfl, h1.below hb h1.lt, h2.below hb, h3, rfl⟩
theorem always_any (x : Nm) (w : World) : Calls Tryd.prog 31 #[.string ⟨x.toArray⟩] w fun e w' => e = .returned (.bool true) ∧ Below w.heap.size w w' := by
  go_enter Tryd.func31, Tryd.ntmps31
  go_wp2
  go_ret
  exact ⟨rfl, Below.refl _ _⟩
theorem among_any (R : List Nm) (A : Option Addr) (c p : Nat) (x : Nm) (w : World) (hp : Box w p 23 #[.slice A R.length c]) (hS : Strs w A R) (hl : R.length ≤ 1000000) :
    Calls Tryd.prog 36 #[.string ⟨x.toArray⟩, .pointer (some ⟨p, 0, none⟩)] w fun e w' => e = .returned (.bool (decide (x ∈ R))) ∧ Below w.heap.size w w' := by
  have c0 := hp.cell 0
  simp at c0
  have hC := contains_any R A c x w hS hl
  generalize decide (x ∈ R) = b at *
  go_enter Tryd.func36, Tryd.ntmps36
  go_wp2_with fail
  refine hC.mono ?_
  rintro e w1 ⟨rfl, rfl⟩
  go_wp2
  go_ret
  exact ⟨rfl, Below.refl _ _⟩

/-- A table's line: what an Op uses. -/
theorem usesP_nat (k : Nat) (_h : k < 10) : usesP k = 0 ∨ usesP k = 1 ∨ usesP k = 2 := usesP_012 k

theorem formedI_out {i : In} (h : i.op < 0 ∨ 10 ≤ i.op) : formedI i = false := by
  unfold formedI in10
  have : (decide (0 ≤ i.op) && decide (i.op < 10)) = false := by simp; omega
  rw [this]; rfl
theorem formedI_in {i : In} (h0 : 0 ≤ i.op) (h1 : i.op < 10) : formedI i = ((decide (usesP i.op = 1) || decide (i.nm = [])) && (decide (usesP i.op = 2) || zeroB i.e)) := by
  unfold formedI in10
  have : (decide (0 ≤ i.op) && decide (i.op < 10)) = true := by simp; omega
  rw [this]; rfl

set_option maxHeartbeats 2000000 in
theorem formed_any9 (i : In) (w : World) (hT : Tabs w) :
    Calls Tryd.prog 74 #[insV i] w fun o w' => o = .returned (.bool (formedI i)) ∧ Below w.heap.size w w' := by
  unfold insV
  by_cases ho : i.op < 0 ∨ 10 ≤ i.op
  · rw [formedI_out ho]
    generalize i.op = op at *
    generalize i.e.kids.length = m at *
    rcases ho with ho | ho
    · have d0 : decide (op < 0) = true := by simpa using ho
      go_enter Tryd.func74, Tryd.ntmps74
      go_wp2
      go_ret
      exact ⟨rfl, (Below.refl _ _).alloc (Nat.le_refl _) _⟩
    · have d0 : decide (op < 0) = false := by simp; omega
      have d1 : decide (10 ≤ op) = true := by simpa using ho
      go_enter Tryd.func74, Tryd.ntmps74
      go_wp2
      go_ret
      exact ⟨rfl, (Below.refl _ _).alloc (Nat.le_refl _) _⟩
  · have h0 : 0 ≤ i.op := by omega
    have h1 : i.op < 10 := by omega
    have HF := Lib.hid (formedI_in h0 h1)
    have hZ := fun wx => zero_any i.e i.ea i.ec wx
    have HZ := Lib.hid hZ
    have HU := Lib.hid (usesP_012 i.op)
    obtain ⟨k, hk⟩ := Int.eq_ofNat_of_zero_le h0
    rw [hk] at h1 HF HU ⊢
    have hk10 : k < 10 := by omega
    have c0 := hT.u k hk10
    have hG := hT.lt
    clear hT ho h0 hZ
    generalize usesP (k : Int) = us at *
    generalize zeroB i.e = z at *
    generalize i.e.kids.length = m at *
    generalize i.nm = nm at *
    have d0 : decide ((k : Int) < 0) = false := by simp
    have d1 : decide ((10 : Int) ≤ (k : Int)) = false := by simp; omega
    generalize hR : formedI i = r at *
    clear hR hk
    rcases HU.out with rfl | rfl | rfl
    all_goals
      go_enter Tryd.func74, Tryd.ntmps74
      go_wp2_with (go_at_call 77; refine (HZ.out _).mono ?_; rintro e w' ⟨rfl, hb⟩)
      all_goals go_ret
      all_goals first
        | (refine ⟨ret_bool ?_, ((Below.refl _ _).alloc (Nat.le_refl _) _).trans (hb.mono (by simp))⟩; rw [HF.out, Bool.eq_iff_iff]; simp_all; done)
        | (refine ⟨ret_bool ?_, (Below.refl _ _).alloc (Nat.le_refl _) _⟩; rw [HF.out, Bool.eq_iff_iff]; simp_all; done)
end Go.Proofs.YtohljihndoodfaaDoor.Rg
