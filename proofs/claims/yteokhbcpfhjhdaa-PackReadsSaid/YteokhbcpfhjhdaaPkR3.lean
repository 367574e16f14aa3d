/-
  The walk of the document's own number.
-/
import Derived.Test.YteokhbcpfhjhdaaPkR2
namespace Go.Proofs.Yteokhbcpfhjhdaa.Pk
open Go.RowKit

def numE (l : List UInt8) : Ending :=
  match dec l with
  | none => .returned (.tuple #[.int .i64 0, .int .i64 0])
  | some (n, s) => .returned (.tuple #[.int .i64 n, .int .i64 (s : Int)])
def NumRel (l : List UInt8) (v : Value) : Prop :=
  ∃ k : Nat, v = .int .i64 (k : Int) ∧ k ≤ l.length ∧ k ≤ 10 ∧ grp 10 l = (grp (10 - k) (l.drop k)).map (l.take k ++ ·)
def SumRel (G : List UInt8) (k : Nat) (n i : Value) : Prop := ∃ j : Nat, i = .int .i64 (j : Int) ∧ j ≤ k ∧ n = .int .i64 ((val (G.drop (j + 1)) : Nat) : Int)

theorem val_top (l : List UInt8) (k : Nat) (hk : k < l.length) (j : Nat) (hj : j ≤ k) : val ((l.take (k + 1)).drop j) = l[j].toNat % 128 + 128 * val ((l.take (k + 1)).drop (j + 1)) := by
  have hl : j < (l.take (k + 1)).length := by rw [List.length_take]; omega
  rw [List.drop_eq_getElem_cons hl]
  simp [val]

set_option maxRecDepth 100000 in
set_option maxHeartbeats 8000000 in
theorem number_all (A : Option Addr) (l : List UInt8) (c : Nat) (w : World) (hl : Lie w A l) (hc : l.length ≤ c) (hcm : c ≤ maxLen) :
    Calls Try.prog 41 #[.slice A l.length c] w fun e w' => e = numE l ∧ w = w' := by
  unfold maxLen at hcm
  go_enter Try.func41, Try.ntmps41
  go_wp2
  go_loop [4] (NumRel l) (fun i => 10 - (intOf i).toNat)
  case atStart => exact ⟨0, rfl, by omega, by omega, by simp⟩
  case round =>
    obtain ⟨k, rfl, hkl, hk10, hgr⟩ := hrel
    have HG := Lib.hid hgr
    clear hgr
    by_cases hlt : k < l.length
    · by_cases h10 : k < 10
      · obtain ⟨ad, rfl, hab, hck⟩ := hl.at_ hlt
        have g1 : decide ((k : Int) < (l.length : Int)) = true := by simp; omega
        have g2 : decide ((k : Int) < 10) = true := by simp; omega
        have hi1 : (k : Int) < (l.length : Int) := by omega
        by_cases hb : l[k].toNat < 128
        · have g3 : decide ((128 : Int) ≤ (l[k].toNat : Int)) = false := by simp; omega
          have hGk : grp 10 l = some (l.take (k + 1)) := by
            rw [HG.out, List.drop_eq_getElem_cons hlt]
            have e10 : 10 - k = (9 - k) + 1 := by omega
            rw [e10, grp, if_pos hb, List.take_succ_eq_append_getElem hlt]
            rfl
          have HD := Lib.hid (dec_at hlt (by omega) hGk)
          have e1 : ((k : Int) == (l.length : Int)) = false := beq_eq_false_iff_ne.2 (by omega)
          have e2 : ((k : Int) == 10) = false := beq_eq_false_iff_ne.2 (by omega)
          clear hGk HG
          by_cases h0 : 0 < k ∧ l[k].toNat = 0
          · have HE : Hid (numE l = .returned (.tuple #[.int .i64 0, .int .i64 0])) := by unfold Hid numE; rw [HD.out, if_pos (.inl h0)]
            have f1 : decide ((0 : Int) < (k : Int)) = true := by simp; omega
            have f2 : ((l[k].toNat : Int) == 0) = true := beq_iff_eq.2 (by omega)
            have hk0 := h0.1
            generalize l[k] = bk at *
            clear HD h0
            go_wp2
            go_ret2
            exact ⟨HE.out.symm, rfl⟩
          · by_cases h9 : k = 9 ∧ 1 < l[k].toNat
            · have HE : Hid (numE l = .returned (.tuple #[.int .i64 0, .int .i64 0])) := by unfold Hid numE; rw [HD.out, if_pos (.inr h9)]
              obtain ⟨h9a, h91⟩ := h9
              have hk0 : 0 < k := by omega
              have f1 : ((k : Int) == 9) = true := beq_iff_eq.2 (by omega)
              have f2 : ((l[k].toNat : Int) == 0) = false := beq_eq_false_iff_ne.2 (by omega)
              have f3 : decide ((1 : Int) < (l[k].toNat : Int)) = true := by simp; omega
              generalize l[k] = bk at *
              clear HD h0 h9a
              go_wp2
              go_ret2
              exact ⟨HE.out.symm, rfl⟩
            · have HE : Hid (numE l = .returned (.tuple #[.int .i64 (unzig (val (l.take (k + 1)))), .int .i64 ((k + 1 : Nat) : Int)])) := by
                unfold Hid numE; rw [HD.out, if_neg (fun h => h.elim h0 h9)]
              have hsm : val (l.take (k + 1)) < 18446744073709551616 := by
                have hd := HD.out
                rw [if_neg (fun h => h.elim h0 h9)] at hd
                have hi := (dec_some hd).1
                have := zig_lt hi
                rwa [zig_unzig] at this
              clear HD
              have hV0 : val (l.take (k + 1)) = l[0].toNat % 128 + 128 * val ((l.take (k + 1)).drop 1) := val_top l k hlt 0 (by omega)
              have HV := Lib.hid (fun j hj => val_top l k hlt j hj)
              have hlz : 0 < l.length := by omega
              have hc0 := (hl hlz)
              obtain ⟨ad2, ead, _, hcl⟩ := hc0
              injection ead with ead
              subst ead
              have hc00 : w.cell? ad = some (.int .u8 (l[0].toNat : Int)) := hcl 0 hlz
              have HC := Lib.hid hcl
              clear hcl
              have hGt : val ((l.take (k + 1)).drop 1) < 144115188075855872 := by
                omega
              have HU : Hid (unzig (val (l.take (k + 1))) = if l[0].toNat % 2 = 1 then -1 - ((val ((l.take (k + 1)).drop 1) : Int) * 64 + (l[0].toNat : Int) % 128 / 2) else (val ((l.take (k + 1)).drop 1) : Int) * 64 + (l[0].toNat : Int) % 128 / 2) := by
                unfold Hid
                have e : l.take (k + 1) = l[0] :: (l.take (k + 1)).drop 1 := by
                  rw [← List.drop_zero (l := l.take (k + 1))]
                  rw [List.drop_eq_getElem_cons (by rw [List.length_take]; omega)]
                  simp
                conv => lhs; rw [e]
                exact unzig_parts _ _
              have HZ : Hid (val ((l.take (k + 1)).drop (k + 1)) = 0) := by
                unfold Hid
                rw [List.drop_of_length_le (by rw [List.length_take]; omega)]
                rfl
              have HDrop := Lib.hid (fun i j h => val_drop_le (l.take (k + 1)) i j h)
              have hb0 := l[0].toNat_lt
              have f2 : ((0 < k) → ((l[k].toNat : Int) == 0) = false) := fun h => beq_eq_false_iff_ne.2 (fun e => h0 ⟨h, by omega⟩)
              have f3 : (k = 9 → decide ((1 : Int) < (l[k].toNat : Int)) = false) := fun h => by
                have : ¬ 1 < l[k].toNat := fun h1 => h9 ⟨h, h1⟩
                simp; omega
              have FN := Lib.hid f2
              have FM := Lib.hid f3
              clear f2 f3 h0 h9 hV0
              have hGd : ∃ G, G = l.take (k + 1) := ⟨_, rfl⟩
              obtain ⟨G, hG⟩ := hGd
              rw [← hG] at HE hsm HV hGt HU HDrop HZ
              clear hG
              generalize l[0] = b0 at *
              generalize l[k] = bk at *
              have hk1 : k ≤ 9 := by omega
              clear hsm hkl
              rcases (show k = 0 ∨ (0 < k ∧ k < 9) ∨ k = 9 by omega) with hz | hz | hz
              · have f1 : ¬ 0 < k := by omega
                have f2 : ((k : Int) == 9) = false := beq_eq_false_iff_ne.2 (by omega)
                clear FN FM hz
                go_wp2_with fail
                go_loop [5, 6] (SumRel G k) (fun _ i => (intOf i).toNat)
                case atStart => exact ⟨k, rfl, Nat.le_refl _, by rw [HZ.out]; rfl⟩
                case round =>
                  obtain ⟨j, rfl, hjk, rfl⟩ := hrel
                  by_cases hj0 : 0 < j
                  · have hjl : j < l.length := by omega
                    have hcj := HC.out j hjl
                    have hvj := HV.out j hjk
                    have hdj := HDrop.out 1 j hj0
                    have HN : Hid ((val (G.drop (j + 1)) : Int) * 128 + (l[j].toNat : Int) % 128 = (val (G.drop j) : Int)) := by unfold Hid; omega
                    have hn50 : val (G.drop (j + 1)) < 1125899906842624 := by omega
                    have hji : (j : Int) < (l.length : Int) := by omega
                    have hbj := l[j].toNat_lt
                    generalize l[j] = bj at *
                    generalize val (G.drop (j + 1)) = n at *
                    clear hvj hdj
                    go_wp2
                    go_round
                    case rel => exact ⟨j - 1, by congr 1; omega, by omega, by rw [show j - 1 + 1 = j by omega]; congr 1⟩
                    case measure => simp [intOf]; omega
                  · obtain rfl : j = 0 := by omega
                    rw [Nat.zero_add]
                    have hu := HU.out
                    have HU2 := Lib.hid hu
                    clear HU hu HZ HV HDrop
                    generalize val (G.drop 1) = n at *
                    by_cases hp : b0.toNat % 2 = 1
                    · have fp : ((b0.toNat : Int) % 2 == 1) = true := beq_iff_eq.2 (by omega)
                      go_wp2
                      go_ret2
                      refine ⟨?_, rfl⟩
                      rw [HE.out, HU2.out, if_pos hp]
                      simp
                    · have fp : ((b0.toNat : Int) % 2 == 1) = false := beq_eq_false_iff_ne.2 (by omega)
                      go_wp2
                      go_ret2
                      refine ⟨?_, rfl⟩
                      rw [HE.out, HU2.out, if_neg hp]
                      simp
              · have f1 : 0 < k := hz.1
                have f2 : ((k : Int) == 9) = false := beq_eq_false_iff_ne.2 (by omega)
                have f3 := FN.out f1
                clear FN FM hz
                go_wp2_with fail
                go_loop [5, 6] (SumRel G k) (fun _ i => (intOf i).toNat)
                case atStart => exact ⟨k, rfl, Nat.le_refl _, by rw [HZ.out]; rfl⟩
                case round =>
                  obtain ⟨j, rfl, hjk, rfl⟩ := hrel
                  by_cases hj0 : 0 < j
                  · have hjl : j < l.length := by omega
                    have hcj := HC.out j hjl
                    have hvj := HV.out j hjk
                    have hdj := HDrop.out 1 j hj0
                    have HN : Hid ((val (G.drop (j + 1)) : Int) * 128 + (l[j].toNat : Int) % 128 = (val (G.drop j) : Int)) := by unfold Hid; omega
                    have hn50 : val (G.drop (j + 1)) < 1125899906842624 := by omega
                    have hji : (j : Int) < (l.length : Int) := by omega
                    have hbj := l[j].toNat_lt
                    generalize l[j] = bj at *
                    generalize val (G.drop (j + 1)) = n at *
                    clear hvj hdj
                    go_wp2
                    go_round
                    case rel => exact ⟨j - 1, by congr 1; omega, by omega, by rw [show j - 1 + 1 = j by omega]; congr 1⟩
                    case measure => simp [intOf]; omega
                  · obtain rfl : j = 0 := by omega
                    rw [Nat.zero_add]
                    have hu := HU.out
                    have HU2 := Lib.hid hu
                    clear HU hu HZ HV HDrop
                    generalize val (G.drop 1) = n at *
                    by_cases hp : b0.toNat % 2 = 1
                    · have fp : ((b0.toNat : Int) % 2 == 1) = true := beq_iff_eq.2 (by omega)
                      go_wp2
                      go_ret2
                      refine ⟨?_, rfl⟩
                      rw [HE.out, HU2.out, if_pos hp]
                      simp
                    · have fp : ((b0.toNat : Int) % 2 == 1) = false := beq_eq_false_iff_ne.2 (by omega)
                      go_wp2
                      go_ret2
                      refine ⟨?_, rfl⟩
                      rw [HE.out, HU2.out, if_neg hp]
                      simp
              · have f1 : 0 < k := by omega
                have f2 : ((k : Int) == 9) = true := beq_iff_eq.2 (by omega)
                have f3 := FN.out f1
                have f4 := FM.out hz
                clear FN FM hz
                go_wp2_with fail
                go_loop [5, 6] (SumRel G k) (fun _ i => (intOf i).toNat)
                case atStart => exact ⟨k, rfl, Nat.le_refl _, by rw [HZ.out]; rfl⟩
                case round =>
                  obtain ⟨j, rfl, hjk, rfl⟩ := hrel
                  by_cases hj0 : 0 < j
                  · have hjl : j < l.length := by omega
                    have hcj := HC.out j hjl
                    have hvj := HV.out j hjk
                    have hdj := HDrop.out 1 j hj0
                    have HN : Hid ((val (G.drop (j + 1)) : Int) * 128 + (l[j].toNat : Int) % 128 = (val (G.drop j) : Int)) := by unfold Hid; omega
                    have hn50 : val (G.drop (j + 1)) < 1125899906842624 := by omega
                    have hji : (j : Int) < (l.length : Int) := by omega
                    have hbj := l[j].toNat_lt
                    generalize l[j] = bj at *
                    generalize val (G.drop (j + 1)) = n at *
                    clear hvj hdj
                    go_wp2
                    go_round
                    case rel => exact ⟨j - 1, by congr 1; omega, by omega, by rw [show j - 1 + 1 = j by omega]; congr 1⟩
                    case measure => simp [intOf]; omega
                  · obtain rfl : j = 0 := by omega
                    rw [Nat.zero_add]
                    have hu := HU.out
                    have HU2 := Lib.hid hu
                    clear HU hu HZ HV HDrop
                    generalize val (G.drop 1) = n at *
                    by_cases hp : b0.toNat % 2 = 1
                    · have fp : ((b0.toNat : Int) % 2 == 1) = true := beq_iff_eq.2 (by omega)
                      go_wp2
                      go_ret2
                      refine ⟨?_, rfl⟩
                      rw [HE.out, HU2.out, if_pos hp]
                      simp
                    · have fp : ((b0.toNat : Int) % 2 == 1) = false := beq_eq_false_iff_ne.2 (by omega)
                      go_wp2
                      go_ret2
                      refine ⟨?_, rfl⟩
                      rw [HE.out, HU2.out, if_neg hp]
                      simp
        · have g3 : decide ((128 : Int) ≤ (l[k].toNat : Int)) = true := by simp; omega
          have HN : Hid (grp 10 l = (grp (10 - (k + 1)) (l.drop (k + 1))).map (l.take (k + 1) ++ ·)) := by
            unfold Hid
            rw [HG.out, List.drop_eq_getElem_cons hlt]
            have e10 : 10 - k = (10 - (k + 1)) + 1 := by omega
            rw [e10, grp, if_neg hb, Option.map_map]
            congr 1
            funext x
            show l.take k ++ (l[k] :: x) = _
            rw [List.take_succ_eq_append_getElem hlt, List.append_assoc]
            rfl
          generalize l[k] = bk at *
          clear HG
          go_wp2
          go_round
          case rel => exact ⟨k + 1, by go_num, by omega, by omega, HN.out⟩
          case measure => simp [intOf]; omega
      · obtain rfl : k = 10 := by omega
        have HE : Hid (numE l = .returned (.tuple #[.int .i64 0, .int .i64 0])) := by
          unfold Hid numE dec
          rw [HG.out]
          rfl
        have g1 : decide ((10 : Int) < (l.length : Int)) = true := by simp; omega
        have e1 : ((10 : Int) == (l.length : Int)) = false := beq_eq_false_iff_ne.2 (by omega)
        clear HG
        go_wp2
        go_ret2
        exact ⟨HE.out.symm, rfl⟩
    · have HE : Hid (numE l = .returned (.tuple #[.int .i64 0, .int .i64 0])) := by
        unfold Hid numE dec
        rw [HG.out, List.drop_of_length_le (by omega)]
        rcases Nat.eq_zero_or_pos (10 - k) with e | e
        · rw [e]; rfl
        · obtain ⟨q, hq⟩ : ∃ q, 10 - k = q + 1 := ⟨10 - k - 1, by omega⟩
          rw [hq]; rfl
      have g1 : decide ((k : Int) < (l.length : Int)) = false := by simp; omega
      have e1 : ((k : Int) == (l.length : Int)) = true := beq_iff_eq.2 (by omega)
      clear HG
      go_wp2
      go_ret2
      exact ⟨HE.out.symm, rfl⟩
end Go.Proofs.Yteokhbcpfhjhdaa.Pk
