/-
  Contracts of pack's first and value.
-/
import Derived.Test.YteokhbcpfhjhdaaPkW1
import Derived.Laws.BitsAllLaws
namespace Go.Proofs.Yteokhbcpfhjhdaa.Pk
open Go.RowKit

def firstE (l : List UInt8) : Ending :=
  match grp 10 l with
  | none => .returned (.tuple #[.agg (grpA []), .bool false])
  | some g => .returned (.tuple #[.agg (grpA g), .bool true])
def FirstPost (l : List UInt8) (w : World) (e : Ending) (w' : World) : Prop := e = firstE l ∧ Below w.heap.size w w'
def FirstRel (l : List UInt8) (w : World) (v : Value) (wr : World) : Prop :=
  ∃ k : Nat, v = .int .i64 (k : Int) ∧ k ≤ l.length ∧ k ≤ 10 ∧ Box wr w.heap.size 56 (grpA []) ∧ Box wr (w.heap.size + 1) 56 (grpA (l.take k)) ∧ Below w.heap.size w wr ∧
    grp 10 l = (grp (10 - k) (l.drop k)).map (l.take k ++ ·)

theorem Box.thawed {w : World} {g : Nat} {t : TypeId} {cs : Array Value} (h : Box w g t cs) :
    w.frozen? ⟨g, 0, none⟩ = false ∧ w.frozen? ⟨g, 1, none⟩ = false ∧ w.frozen? ⟨g, 2, none⟩ = false ∧ w.frozen? ⟨g, 3, none⟩ = false ∧ w.frozen? ⟨g, 4, none⟩ = false ∧ w.frozen? ⟨g, 5, none⟩ = false ∧
    w.frozen? ⟨g, 6, none⟩ = false ∧ w.frozen? ⟨g, 7, none⟩ = false ∧ w.frozen? ⟨g, 8, none⟩ = false ∧ w.frozen? ⟨g, 9, none⟩ = false ∧ w.frozen? ⟨g, 10, none⟩ = false :=
  ⟨h.frozen 0, h.frozen 1, h.frozen 2, h.frozen 3, h.frozen 4, h.frozen 5, h.frozen 6, h.frozen 7, h.frozen 8, h.frozen 9, h.frozen 10⟩
theorem take_snoc (l : List UInt8) (k : Nat) (h : k < l.length) : l.take (k + 1) = l.take k ++ [l[k]] := by
  rw [List.take_succ_eq_append_getElem h]

set_option maxRecDepth 100000 in
set_option maxHeartbeats 1000000 in
theorem first_any (A : Option Addr) (l : List UInt8) (c m : Nat) (w : World) (hl : Lie w A l) (hc : l.length ≤ c) (hm : (if (10 : Int) < (l.length : Int) then (10 : Int) else (l.length : Int)) = (m : Int)) (hcm : c ≤ maxLen) :
    Calls Try.prog 42 #[.slice A l.length c] w (FirstPost l w) := by
  unfold maxLen at hcm
  have hml : m ≤ l.length := by split at hm <;> omega
  have hm10 : m ≤ 10 := by split at hm <;> omega
  have HM : Hid (m = 10 ∨ m = l.length) := by unfold Hid; split at hm <;> omega
  go_enter Try.func42, Try.ntmps42
  go_wp2_with fail
  clear hm
  go_loopw [13] (FirstRel l w) (fun i _ => 10 - (intOf i).toNat)
  case atStart =>
    refine ⟨0, rfl, by omega, by omega, ?_, ?_, ((Below.refl _ w).alloc (Nat.le_refl _) _).alloc (by simp) _, by simp⟩
    · exact (Box.new w _ _).alloc _
    · exact box_new1 w _ _ _
  case round =>
    obtain ⟨k, rfl, hkl, hk10, hx0, hx1, hbw, hgr⟩ := hrel
    have HG := Lib.hid hgr
    clear hgr
    have hr1 := hx1.lt
    have hlen : (l.take k).length = k := by rw [List.length_take]; omega
    have HK := Lib.hid hlen
    clear hlen
    by_cases hlt : k < m
    · obtain ⟨ad, rfl, hab, hcell⟩ := hl.at_ (k := k) (by omega)
      have hcr : wr.cell? (ad.add k) = some (.int .u8 (l[k].toNat : Int)) := (hbw.cell (p := ad.add k) (by rw [blk_add]; exact hab)).trans hcell
      have hkl' : k < l.length := by omega
      have HT := Lib.hid (take_snoc l k hkl')
      have HD := Lib.hid (List.drop_eq_getElem_cons hkl')
      generalize l[k] = b at *
      have hb256 := b.toNat_lt
      clear hcell
      by_cases hb : b.toNat < 128
      · have hbd : decide ((b.toNat : Int) < 128) = true := by simp; omega
        go_wp2_with fail
        refine (gadd_any (w.heap.size + 1) (l.take k) b wr hx1 (by rw [HK.out]; omega)).mono ?_
        rintro e w2 ⟨rfl, hy1, hg⟩
        have hy0 := hx0.grown hg (by simp)
        have hbw2 := below_gr hbw hg hbw.size (by omega)
        have hge : grp 10 l = some (l.take k ++ [b]) := by
          rw [HG.out, HD.out]
          have e10 : 10 - k = (9 - k) + 1 := by omega
          rw [e10, grp, if_pos hb]
          rfl
        have HE : Hid (firstE l = .returned (.tuple #[.agg (grpA (l.take k ++ [b])), .bool true])) := by unfold Hid firstE; rw [hge]
        clear hx0 hx1 hbw hg HG HD hge HT
        generalize l.take k ++ [b] = g at *
        obtain ⟨c0, c1, c2, c3, c4, c5, c6, c7, c8, c9, c10⟩ := hy1.eleven
        obtain ⟨d0, d1, d2, d3, d4, d5, d6, d7, d8, d9, d10⟩ := hy0.eleven
        obtain ⟨e0, e1, e2, e3, e4, e5, e6, e7, e8, e9, e10⟩ := hy0.thawed
        go_wp2
        refine bodyPost_ret (v := .tuple #[.agg (grpA g), .bool true]) (by unfold grpA; simp [results, Try.results42, go_sem, d0, d1, d2, d3, d4, d5, d6, d7, d8, d9, d10]) rfl ⟨HE.out.symm, ?_⟩
        iterate 11 with_reducible refine below_st ?_
        exact hbw2
      · have hbd : decide ((b.toNat : Int) < 128) = false := by simp; omega
        go_wp2_with fail
        refine (gadd_any (w.heap.size + 1) (l.take k) b wr hx1 (by rw [HK.out]; omega)).mono ?_
        rintro e w2 ⟨rfl, hy1, hg⟩
        have hy0 := hx0.grown hg (by simp)
        have hbw2 := below_gr hbw hg hbw.size (by omega)
        have hge : grp 10 l = (grp (10 - (k + 1)) (l.drop (k + 1))).map (l.take (k + 1) ++ ·) := by
          rw [HG.out, HD.out, HT.out]
          have e10 : 10 - k = (10 - (k + 1)) + 1 := by omega
          rw [e10, grp, if_neg hb, Option.map_map]
          congr 1
          funext x
          simp
        rw [← HT.out] at hy1
        have HE := Lib.hid hge
        clear hx0 hx1 hbw hg HG HD hge HT
        go_wp2
        go_roundw
        case rel => exact ⟨k + 1, by go_num, by omega, by omega, hy0, hy1, hbw2, HE.out⟩
        case measure => simp [intOf]; omega
    · have hge : grp 10 l = none := by
        rw [HG.out]
        rcases HM.out with h | h
        · have e : 10 - k = 0 := by omega
          rw [e]; rfl
        · rw [List.drop_of_length_le (by omega)]
          rcases Nat.eq_zero_or_pos (10 - k) with e | e
          · rw [e]; rfl
          · obtain ⟨q, hq⟩ : ∃ q, 10 - k = q + 1 := ⟨10 - k - 1, by omega⟩
            rw [hq]; rfl
      have HE : Hid (firstE l = .returned (.tuple #[.agg (grpA []), .bool false])) := by unfold Hid firstE; rw [hge]
      clear HG hge
      obtain ⟨d0, d1, d2, d3, d4, d5, d6, d7, d8, d9, d10⟩ := hx0.eleven
      obtain ⟨e0, e1, e2, e3, e4, e5, e6, e7, e8, e9, e10⟩ := hx0.thawed
      go_wp2
      refine bodyPost_ret (v := .tuple #[.agg (grpA []), .bool false]) (by rw [grpA_nil]; simp [results, Try.results42, go_sem, d0, d1, d2, d3, d4, d5, d6, d7, d8, d9, d10]) rfl ⟨HE.out.symm, ?_⟩
      iterate 11 with_reducible refine below_st ?_
      exact hbw
theorem first_all (A : Option Addr) (l : List UInt8) (c : Nat) (w : World) (hl : Lie w A l) (hc : l.length ≤ c) (hcm : c ≤ maxLen) :
    Calls Try.prog 42 #[.slice A l.length c] w (FirstPost l w) := by
  rcases Nat.lt_or_ge 10 l.length with h | h
  · exact first_any A l c 10 w hl hc (by rw [if_pos (by omega)]; rfl) hcm
  · exact first_any A l c l.length w hl hc (by rw [if_neg (by omega)]) hcm
end Go.Proofs.Yteokhbcpfhjhdaa.Pk
