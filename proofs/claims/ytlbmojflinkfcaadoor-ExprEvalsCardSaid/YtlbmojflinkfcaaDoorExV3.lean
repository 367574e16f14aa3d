/-
  The document's Weight and the laws' Light: where they say yes, names are short. The document's Cell.
-/
import Derived.Test.YtlbmojflinkfcaaDoorExV1
namespace Go.Proofs.YtlbmojflinkfcaaDoor.Ep
open Go.RowKit Lx

def WsPost (t : Ex) (w : World) (e : Ending) (w' : World) : Prop := ∃ z : Int, e = .returned (.int .i64 z) ∧ 0 ≤ z ∧ z ≤ 400 ∧ Hid (0 < z → shortE t) ∧ Below w.heap.size w w'
def WsRel (ks : List Ex) (len : Nat) (w0 : World) (B : Nat) (m i : Value) (wr : World) : Prop := ∃ (z : Int) (k : Nat), k ≤ len ∧ i = .int .i64 (k : Int) ∧ m = .int .i64 z ∧ -1 ≤ z ∧ z ≤ 400 ∧ Hid (0 < z → ∀ x ∈ ks.take k, shortE x) ∧ Below B w0 wr

set_option maxRecDepth 100000 in
set_option maxHeartbeats 4000000 in
theorem weight_short (t : Ex) : ∀ (lo : Nat → Prop) (v : Value) (m : Int) (w : World), TreeV lo w t v → -1 ≤ m → m ≤ 400 → Calls Tryd.prog 15 #[v, .int .i64 m] w (WsPost t w) := by
  induction t using Ex.ind with
  | h op n nm ks ih =>
    intro lo v m w hT hm1 hm2
    have IH := Lib.hid ih
    clear ih
    unfold TreeV at hT
    obtain ⟨a, cap, rfl, hcap, hk⟩ := hT
    have HK := Lib.hid hk
    clear hk
    generalize hL : ks.length = len at *
    have HL := Lib.hid hL
    clear hL
    unfold exV
    have HZ : Hid ((⟨nm.toArray⟩ : ByteArray).size = nm.length) := by simp [Hid, ByteArray.size]
    generalize (⟨nm.toArray⟩ : ByteArray) = nb at *
    by_cases h1 : m < (len : Int)
    · have b1 : decide (m < (len : Int)) = true := by simpa using h1
      clear IH HK
      go_enter Tryd.func15, Tryd.ntmps15
      go_wp2
      all_goals first | (exfalso; omega) | skip
      go_ret
      exact ⟨0, rfl, by omega, by omega, Lib.hid (fun h => absurd h (by omega)), (Below.refl _ _).alloc (Nat.le_refl _) _⟩
    · have b1 : decide (m < (len : Int)) = false := by simpa using h1
      by_cases h2 : (200 : Int) < (nb.size : Int)
      · have b2 : decide ((200 : Int) < (nb.size : Int)) = true := by simpa using h2
        clear IH HK
        go_enter Tryd.func15, Tryd.ntmps15
        go_wp2
        all_goals first | (exfalso; omega) | skip
        go_ret
        exact ⟨0, rfl, by omega, by omega, Lib.hid (fun h => absurd h (by omega)), (Below.refl _ _).alloc (Nat.le_refl _) _⟩
      · have b2 : decide ((200 : Int) < (nb.size : Int)) = false := by simpa using h2
        have HNM : Hid (nm.length ≤ 200) := by unfold Hid; have := HZ.out; omega
        have hb0 : Below (w.heap.size + 1) (w.alloc (.cells #[.int .i64 op, .int .i64 n, .string nb, .slice a len cap] 24)) (w.alloc (.cells #[.int .i64 op, .int .i64 n, .string nb, .slice a len cap] 24)) := Below.refl _ _
        have HEnd : Hid (∀ z : Int, (0 < z → ∀ x ∈ ks.take len, shortE x) → 0 < z → shortE (.mk op n nm ks)) := by
          intro z hz h0
          rw [shortE, shortL_all]
          refine ⟨HNM.out, fun x hx => hz h0 x ?_⟩
          rw [List.take_of_length_le (by rw [HL.out]; exact Nat.le_refl _)]
          exact hx
        go_enter Tryd.func15, Tryd.ntmps15
        go_wp2
        all_goals first | (exfalso; omega) | skip
        go_loopw [1, 5] (WsRel ks len (w.alloc (.cells #[.int .i64 op, .int .i64 n, .string nb, .slice a len cap] 24)) (w.heap.size + 1)) (fun _ i _ => len - (intOf i).toNat)
        case atStart => exact ⟨m - 1, 0, by omega, rfl, rfl, by omega, by omega, Lib.hid (fun _ => by simp), hb0⟩
        case round =>
          obtain ⟨z, k, hkl, rfl, rfl, hz1, hz2, HS, hbr⟩ := hrel
          clear hb0
          have b3 : wr.cell? ⟨w.heap.size, 3, none⟩ = some (.slice a len cap) := by rw [hbr.cell (by simp)]; simp
          have hsz : w.heap.size < wr.heap.size := by have := hbr.size; simp at this; omega
          have hbw : Below w.heap.size w wr := (((Below.refl _ _).alloc (Nat.le_refl _) _).trans (hbr.mono (by simp)))
          by_cases hlt : k < len
          · by_cases hz : 0 < z
            · have bz : decide (0 < z) = true := by simpa using hz
              have hne : ks ≠ [] := by intro e; have := HL.out; rw [e] at this; simp at this; omega
              obtain ⟨g, off, rfl, hg1, hg2, hTL⟩ := HK.out hne
              have hTr := TreeL.keep (w' := wr) hbw.size (fun b _ hb => hbw.block b hb) g hg1 hg2 off ks hTL
              have hki : k < ks.length := by rw [HL.out]; exact hlt
              obtain ⟨ka, kcap, c0, c1, c2, c3, hkt⟩ := TreeL.at_ ks off k hki hTr
              have hIH := Lib.hid (IH.out (ks[k]) (List.getElem_mem hki) lo _ z wr hkt hz1 hz2)
              have HT : Hid (ks.take (k + 1) = ks.take k ++ [ks[k]]) := List.take_succ_eq_append_getElem hki
              have hk0 : (0 : Int) ≤ (k : Int) := Int.natCast_nonneg _
              have hkl2 : (k : Int) < (len : Int) := by omega
              unfold exV at hIH
              generalize ks[k] = kid at *
              have HS2 : Hid (shortE kid → ∀ x ∈ ks.take (k + 1), shortE x) := by
                intro hs x hx
                rw [HT.out] at hx
                rcases List.mem_append.1 hx with hx | hx
                · exact HS.out hz x hx
                · rw [List.mem_singleton.1 hx]; exact hs
              clear hTr hTL hkt HT HS
              go_wp2_with fail
              refine hIH.out.mono ?_
              rintro e w2 ⟨z2, rfl, q1, q2, HQ, hb2⟩
              have hb3 := hbr.trans (hb2.mono (by omega))
              clear hIH hb2 hbr hbw
              go_wp2
              go_roundw
              case rel => exact ⟨z2, k + 1, by omega, by go_num, rfl, by omega, by omega, Lib.hid (fun h => HS2.out (HQ.out h)), hb3⟩
              case measure => simp [intOf]; omega
            · have bz : decide (0 < z) = false := by simpa using hz
              have hkl2 : (k : Int) < (len : Int) := by omega
              have HZ0 : Hid (0 < z → shortE (.mk op n nm ks)) := fun h => absurd h hz
              by_cases hneg : z < 0
              · have bn : decide (z < 0) = true := by simpa using hneg
                go_wp2
                all_goals first | (exfalso; omega) | skip
                go_ret
                exact ⟨0, rfl, by omega, by omega, Lib.hid (fun h => absurd h (by omega)), hbw⟩
              · have bn : decide (z < 0) = false := by simpa using hneg
                go_wp2
                all_goals first | (exfalso; omega) | skip
                go_ret
                exact ⟨z, rfl, by omega, by omega, HZ0, hbw⟩
          · obtain rfl : k = len := by omega
            have HZ0 : Hid (0 < z → shortE (.mk op n nm ks)) := HEnd.out z HS.out
            by_cases hneg : z < 0
            · have bn : decide (z < 0) = true := by simpa using hneg
              go_wp2
              all_goals first | (exfalso; omega) | skip
              go_ret
              exact ⟨0, rfl, by omega, by omega, Lib.hid (fun h => absurd h (by omega)), hbw⟩
            · have bn : decide (z < 0) = false := by simpa using hneg
              go_wp2
              all_goals first | (exfalso; omega) | skip
              go_ret
              exact ⟨z, rfl, by omega, by omega, HZ0, hbw⟩

def LsPost (t : Ex) (w : World) (e : Ending) (w' : World) : Prop := ∃ b : Bool, e = .returned (.bool b) ∧ Hid (b = true → shortE t) ∧ Below w.heap.size w w'
set_option maxRecDepth 100000 in
set_option maxHeartbeats 1000000 in
theorem light_short (t : Ex) (lo : Nat → Prop) (v : Value) (w : World) (hT : TreeV lo w t v) : Calls Tryd.prog 7 #[v, .int .i64 400] w (LsPost t w) := by
  obtain ⟨a, cap, rfl, -, -⟩ := hT.open
  have HW := Lib.hid (weight_short t lo _ 400 _ (hT.alloc (.cells #[.int .i64 t.op, .int .i64 t.n, .string ⟨t.name.toArray⟩, .slice a t.kids.length cap] 24)) (by omega) (by omega))
  unfold exV at HW ⊢
  clear hT
  go_enter Tryd.func7, Tryd.ntmps7
  go_wp2_with fail
  refine HW.out.mono ?_
  rintro e w2 ⟨z, rfl, q1, q2, HQ, hb2⟩
  have hb3 : Below w.heap.size w w2 := ((Below.refl _ w).alloc (Nat.le_refl _) _).trans (hb2.mono (by simp))
  have HQ2 : Hid (decide (0 < z) = true → shortE t) := fun h => HQ.out (by simpa using h)
  go_wp2
  go_ret
  exact ⟨_, rfl, HQ2, hb3⟩

set_option maxRecDepth 100000 in
set_option maxHeartbeats 1000000 in
theorem refCell_any (env : List (List UInt8 × Int)) (s : List UInt8) (v : Value) (w : World) (hE : EnvV w env v) :
    Calls Tryd.prog 29 #[v, .string ⟨s.toArray⟩] w fun e w' => e = .returned (.tuple #[.int .i64 ((findC env s).getD 0), .bool (findC env s).isSome]) ∧ w = w' := by
  obtain ⟨a, cap, rfl, hcap, hk⟩ := hE.form
  have hl := hE.len
  have HK := Lib.hid hk
  clear hk hE
  generalize hX : findC env s = X
  have HX := Lib.hid hX
  clear hX
  generalize hL : env.length = len at *
  have HL := Lib.hid hL
  clear hL
  go_enter Tryd.func29, Tryd.ntmps29
  go_wp2
  go_loopw [6] (fun i wr => ∃ k : Nat, k ≤ len ∧ i = .int .i64 k ∧ Hid (findC (env.drop k) s = X) ∧ w = wr) (fun i _ => len - (intOf i).toNat)
  case atStart => exact ⟨0, by omega, rfl, HX, rfl⟩
  case round =>
    obtain ⟨k, hkl, rfl, HS, rfl⟩ := hrel
    by_cases hlt : k < len
    · have hki : k < env.length := by rw [HL.out]; exact hlt
      have hne : env ≠ [] := by intro e; rw [e] at hki; simp at hki
      obtain ⟨g, off, rfl, hg, hA⟩ := HK.out hne
      obtain ⟨c0, c1⟩ := hA k hki
      have HF := Lib.hid (findC_skip env s k hki)
      clear hA
      generalize env[k] = c at *
      obtain ⟨nm, z⟩ := c
      simp only at *
      by_cases hq : nm = s
      · have HX2 : Hid (X = some z) := by unfold Hid; rw [← HS.out, HF.out, if_pos hq]
        have d : (nm == s) = true := by simpa using hq
        clear hq
        go_wp2
        go_ret2
        refine ⟨?_, rfl⟩
        rw [HX2.out]; rfl
      · have HX2 : Hid (findC (env.drop (k + 1)) s = X) := by unfold Hid; rw [← HS.out, HF.out, if_neg hq]
        have d : (nm == s) = false := by simpa using hq
        clear hq
        go_wp2
        go_roundw
        case rel => exact ⟨k + 1, by omega, by go_num, HX2, by trivial⟩
        case measure => simp [intOf]; omega
    · have HX2 : Hid (X = none) := by
        unfold Hid; rw [← HS.out, List.drop_eq_nil_of_le (by rw [HL.out]; omega)]; rfl
      go_wp2
      go_ret2
      refine ⟨?_, rfl⟩
      rw [HX2.out]; rfl
end Go.Proofs.YtlbmojflinkfcaaDoor.Ep
