/-
  The contract of fits: a group that may be, checked with a map of the sectors that were met.
-/
import Derived.Test.YtkklplccngdalaaWlW2
import Derived.Maps.OwnSet
import Derived.Maps.OwnOps
namespace Go.Proofs.Ytkklplccngdalaa.Dk
open Go.RowKit Go.Maps

def MetS (l : List GI) : DataW Unit := setOf (.agg []) (l.map fun x => Lit.int .i64 x.1)
theorem MetS_nil : MetS [] = .map [] := rfl
theorem MetS_snoc (l : List GI) (x : GI) : MetS (l ++ [x]) = (MetS l).put (.int .i64 x.1) (.agg []) := by
  unfold MetS
  rw [List.map_append, List.map_singleton, setOf_snoc]
theorem same_int (a b : Int) : (Lit.int .i64 a).sameKey (Lit.int .i64 b) = decide (a = b) := by
  by_cases h : a = b
  · subst h
    simp [Lit.sameKey]
  · rw [sameKey_ne (by simpa using h)]
    simp [h]
theorem has_MetS (l : List GI) (x : Int) : Maps.has (MetS l) (.int .i64 x) = decide (x ∈ l.map Prod.fst) := by
  unfold MetS
  rw [has_setOf _ _ _ (fun y hy => by obtain ⟨_, _, rfl⟩ := List.mem_map.1 hy; trivial), List.any_map]
  by_cases h : x ∈ l.map Prod.fst
  · obtain ⟨y, hy, rfl⟩ := List.mem_map.1 h
    rw [decide_eq_true h]
    exact List.any_eq_true.2 ⟨y, hy, by simp [same_int]⟩
  · rw [decide_eq_false h]
    refine List.any_eq_false.2 fun y hy => ?_
    have : y.1 ≠ x := fun e => h (e ▸ List.mem_map_of_mem hy)
    simp [same_int, this]

theorem law_int : Keyed Try.prog 3 := int_keyed Try.underlying3
theorem zero_unit (w : World) : (zeroValue 74).run Try.prog w = .ok (.agg #[]) w := by kernel_rfl
theorem look_unit {P : Program} (w : World) {ops : Array Oper} {rest : List Oper} {o : Oper} {a : Act} {Q : Exit → Act → World → Prop} (hg : o.guard = none) (m x : Operand) (t : TypeId) (hop : o.op = Op.lookup t m x true)
    (k e : TypeId) (K : Keyed P k) (ht : P.underlying t = some (.map k e)) (hz : (zeroValue e).run P w = .ok (.agg #[]) w) (b n : Nat) (D : DataW Unit)
    (hm : a.eval m = .map (some b)) (hown : w.ownsMap P k unitElem b n D) (key : Value) (kl : Lit) (hx : a.eval x = key) (hkey : keyOf P k key = some kl) (r : Bool) (hr : Maps.has D kl = r)
    (hK : wpList P ops Q rest (a.put o.dst (.tuple #[.agg #[], .bool r])) w) : wpList P ops Q (o :: rest) a w := by
  subst hr
  exact wpList_lookup_own_unit w hg m x t hop k e K ht hz b n D hm hown key kl hx hkey hK

def BPost (b : Bool) (w : World) (e : Ending) (w' : World) : Prop := e = .returned (.bool b) ∧ Below w.heap.size w w'
def FitRel (P : Nat) (l : List GI) (w : World) (i : Value) (wr : World) : Prop :=
  ∃ k : Nat, i = .int .i64 (k : Int) ∧ k ≤ l.length ∧ okG P (l.take k) ∧ wr.ownsMap Try.prog 3 unitElem w.heap.size k (MetS (l.take k)) ∧ Below w.heap.size w wr

set_option maxRecDepth 100000 in
set_option maxHeartbeats 2000000 in
theorem fits_all {w : World} {q g s : Nat} {d : Dsk} {dead : Bool} (A : Option Addr) (l : List GI) (c : Nat) (X : Nat → Prop) (h : Lg w q g s d dead) (hG : Grp X w A l) (hc : l.length ≤ c) (hm : c ≤ maxLen) :
    Calls Try.prog 32 #[.pointer (some ⟨q, 0, none⟩), .slice A l.length c] w (BPost (decide (okG (room d.L.length) l)) w) := by
  have hmm := @run_makeMap Try.prog
  have hz2 : w.heap.size ≤ w.heap.size := Nat.le_refl _
  go_enter Try.func32, Try.ntmps32
  go_wp2
  clear hmm
  go_loopw [13] (FitRel (room d.L.length) l w) (fun i _ => l.length - (intOf i).toNat)
  case atStart => exact ⟨0, rfl, by omega, okG_nil _, World.ownsMap_made _ _ _ _, (Below.refl _ _).alloc (Nat.le_refl _) _⟩
  case round =>
    obtain ⟨k, rfl, hk, hok, hown, hnx⟩ := hrel
    by_cases hlt : k < l.length
    · obtain ⟨ad, B, c', rfl, hlt2, g1, g2, g3, g4, g5, g6⟩ := (hG.below hnx).at_ hlt
      have hL := h.below hnx
      have hnot : ¬ okG (room d.L.length) (l.take k ++ [l[k]]) → decide (okG (room d.L.length) l) = false := fun hn => by
        refine decide_eq_false fun ho => hn ?_
        have := okG_take ho (k + 1)
        rwa [take_snoc hlt] at this
      have hkey : keyOf Try.prog 3 (.int .i64 l[k].1) = some (.int .i64 l[k].1) := keyOf_int_mk Try.underlying3 (by simp only [Lit.wf, Bool.and_eq_true, decide_eq_true_eq]; exact g6)
      have hhas := has_MetS (l.take k) l[k].1
      have hsnoc := okG_snoc (P := room d.L.length) (l := l.take k) (x := l[k])
      have htk := take_snoc hlt
      have hms := MetS_snoc (l.take k) l[k]
      have hkm : k < maxLen := by omega
      have hk9 : k + 1 ≤ 9223372036854775807 := by unfold maxLen at hm; omega
      have hP : ∀ v, Calls Try.prog 35 #[.pointer (some ⟨q, 0, none⟩), .int .i64 l[k].1] ((wr.alloc v).alloc (.cells #[] 74)) (Same (.bool (decide (0 ≤ l[k].1 ∧ l[k].1 < (room d.L.length : Nat)))) ((wr.alloc v).alloc (.cells #[] 74))) := fun v => has_all l[k].1 ((hL.alloc v).alloc _)
      have hokI : okI (room d.L.length) l[k] ↔ (0 ≤ l[k].1 ∧ l[k].1 < (room d.L.length : Nat)) ∧ l[k].2.length = 256 := ⟨fun h => ⟨⟨h.1, h.2.1⟩, h.2.2⟩, fun h => ⟨h.1.1, h.1.2, h.2⟩⟩
      have HS := Lib.hid hsnoc
      have HO := Lib.hid hokI
      have HT := Lib.hid htk
      have HM := Lib.hid hms
      have HP := Lib.hid hP
      have HN := Lib.hid hnot
      have HH := Lib.hid hhas
      have HB := Lib.hid hnx
      have HK : Hid (k + 1 ≤ l.length) := Lib.hid hlt
      clear hsnoc hokI htk hms hP hnot hhas hL h hG g5 g6 hnx
      generalize hX : l[k] = x at *
      generalize hTK : l.take k = T at *
      obtain ⟨x1, x2⟩ := x
      simp only at g1 g2 g3 hkey HO HM HP HH HN
      generalize hm2 : x2.length = m at *
      clear hm2 hX hTK
      by_cases hin : x1 ∈ T.map Prod.fst
      · have hr : Maps.has (MetS T) (.int .i64 x1) = true := by rw [HH.out]; exact decide_eq_true hin
        have hd := HN.out fun ho => (HS.out.1 ho).2.2 hin
        rw [hd]
        go_wp2_with (first | (at_lookup; refine look_unit _ rfl _ _ 73 rfl 3 74 law_int Try.underlying73 (zero_unit _) w.heap.size k _ rfl (hown.alloc _) _ _ rfl hkey true hr ?_) | fail)
        go_ret
        exact ⟨rfl, (HB.out.alloc HB.out.size _).alloc (by have := HB.out.size; simp; omega) _⟩
      · have hr : Maps.has (MetS T) (.int .i64 x1) = false := by rw [HH.out]; exact decide_eq_false hin
        by_cases hrg : 0 ≤ x1 ∧ x1 < (room d.L.length : Nat)
        · by_cases h256 : m = 256
          · have hok2 : okG (room d.L.length) (T ++ [(x1, x2)]) := HS.out.2 ⟨hok, HO.out.2 ⟨hrg, h256⟩, hin⟩
            have HP2 := HP.out
            rw [decide_eq_true hrg] at HP2
            have HP3 := Lib.hid HP2
            clear HP2
            subst h256
            go_wp2_with (first | (at_lookup; refine look_unit _ rfl _ _ 73 rfl 3 74 law_int Try.underlying73 (zero_unit _) w.heap.size k _ rfl (hown.alloc _) _ _ rfl hkey false hr ?_) | fail)
            with_reducible refine (HP3.out _).mono ?_
            rintro e w' ⟨rfl, rfl⟩
            go_wp2_with (first | (at_mapUpdate; refine wpList_mapUpdate_own _ rfl _ _ _ 73 rfl 3 74 law_int Try.underlying73 (unitElem (H := Unit)) w.heap.size k _ rfl ((hown.alloc _).alloc _) hkm _ _ _ rfl rfl hkey _ [] unitElem_mk ?_; intro w1 hown1 hgrow1) | fail)
            rw [← HM.out, ← HT.out] at hown1
            rw [← HT.out] at hok2
            have hs := HB.out.size
            have hb2 := ((HB.out.alloc HB.out.size (.cells #[.int .i64 x1, .slice B 256 c'] 63)).alloc (by simp; omega) (.cells #[] 74)).grown hgrow1 (by simp; omega) (fun j hj => by cases hj; exact Nat.le_refl _)
            go_roundw
            case rel => exact ⟨k + 1, by go_num, HK.out, hok2, hown1, hb2⟩
            case measure => have := HK.out; simp [intOf]; omega
          · have hd := HN.out fun ho => h256 (HO.out.1 (HS.out.1 ho).2.1).2
            rw [hd]
            have HP2 := HP.out
            rw [decide_eq_true hrg] at HP2
            have HP3 := Lib.hid HP2
            clear HP2
            have b1 : ((m : Int) == 256) = false := beq_eq_false_iff_ne.2 (by omega)
            have b2 : (m == 256) = false := beq_eq_false_iff_ne.2 h256
            have b3 : ((m : Int) != 256) = true := by simp; omega
            go_wp2_with (first | (at_lookup; refine look_unit _ rfl _ _ 73 rfl 3 74 law_int Try.underlying73 (zero_unit _) w.heap.size k _ rfl (hown.alloc _) _ _ rfl hkey false hr ?_) | fail)
            with_reducible refine (HP3.out _).mono ?_
            rintro e w' ⟨rfl, rfl⟩
            go_wp2
            go_ret
            exact ⟨rfl, (HB.out.alloc HB.out.size _).alloc (by have := HB.out.size; simp; omega) _⟩
        · have hd := HN.out fun ho => hrg (HO.out.1 (HS.out.1 ho).2.1).1
          rw [hd]
          have HP2 := HP.out
          rw [decide_eq_false hrg] at HP2
          have HP3 := Lib.hid HP2
          clear HP2
          go_wp2_with (first | (at_lookup; refine look_unit _ rfl _ _ 73 rfl 3 74 law_int Try.underlying73 (zero_unit _) w.heap.size k _ rfl (hown.alloc _) _ _ rfl hkey false hr ?_) | fail)
          with_reducible refine (HP3.out _).mono ?_
          rintro e w' ⟨rfl, rfl⟩
          go_wp2
          go_ret
          exact ⟨rfl, (HB.out.alloc HB.out.size _).alloc (by have := HB.out.size; simp; omega) _⟩
    · obtain rfl : k = l.length := by omega
      rw [List.take_length] at hok
      clear h hG hown
      go_wp2
      go_ret
      exact ⟨ret_bool (decide_eq_true hok).symm, hnx⟩
end Go.Proofs.Ytkklplccngdalaa.Dk
