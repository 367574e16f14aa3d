/-
  Contracts of pack's decode and decodeCount.
-/
import Derived.Test.YteokhbcpfhjhdaaPkW3
import Derived.Deep.RegionWith
import Derived.Laws.StructEq
import Derived.Stop.BytesEq
namespace Go.Proofs.Yteokhbcpfhjhdaa.Pk
open Go.RowKit

def pad (l : List UInt8) : List UInt8 := [l.getD 0 0, l.getD 1 0, l.getD 2 0, l.getD 3 0, l.getD 4 0, l.getD 5 0, l.getD 6 0, l.getD 7 0, l.getD 8 0, l.getD 9 0]
theorem pad_at (l : List UInt8) (j : Nat) (h : j < 10) : (pad l)[j]? = some (l.getD j 0) := by
  obtain rfl | rfl | rfl | rfl | rfl | rfl | rfl | rfl | rfl | rfl : j = 0 ∨ j = 1 ∨ j = 2 ∨ j = 3 ∨ j = 4 ∨ j = 5 ∨ j = 6 ∨ j = 7 ∨ j = 8 ∨ j = 9 := by omega
  all_goals rfl
theorem pad_eq {a b : List UInt8} (ha : a.length ≤ 10) (h : pad a = pad b) (hl : a.length = b.length) : a = b := by
  apply List.ext_getElem hl
  intro j h1 h2
  have e := pad_at a j (by omega)
  rw [h, pad_at b j (by omega)] at e
  injection e with e
  simp [List.getD_eq_getElem?_getD, List.getElem?_eq_getElem h1, List.getElem?_eq_getElem h2] at e
  exact e.symm
theorem eq_grp (a b : List UInt8) (w : World) :
    (Op.equalIn 9999 54 (.agg #[.int .u8 (gAt a 0), .int .u8 (gAt a 1), .int .u8 (gAt a 2), .int .u8 (gAt a 3), .int .u8 (gAt a 4), .int .u8 (gAt a 5), .int .u8 (gAt a 6), .int .u8 (gAt a 7), .int .u8 (gAt a 8), .int .u8 (gAt a 9)]) (.agg #[.int .u8 (gAt b 0), .int .u8 (gAt b 1), .int .u8 (gAt b 2), .int .u8 (gAt b 3), .int .u8 (gAt b 4), .int .u8 (gAt b 5), .int .u8 (gAt b 6), .int .u8 (gAt b 7), .int .u8 (gAt b 8), .int .u8 (gAt b 9)])).run Try.prog w = .ok (pad a == pad b) w :=
  run_equalIn_bytes w 9997 54 5 10 Try.underlying54 Try.underlying5 (fun w => by
    obtain ⟨i0, hi0, hz0, hz1, hz2⟩ := info_parts info_u8
    simp [sizeOf, typeInfo, hi0, hz1]) (pad a) (pad b) rfl rfl

def EncAt (g : List UInt8) (w : World) (e : Ending) (w' : World) : Prop := e = .returned (.agg (grpA g)) ∧ Below w.heap.size w w'
theorem encode_at (n : Int) (g : List UInt8) (w : World) (h : i64 n) (hg : bs n = g) : Calls Try.prog 28 #[.int .i64 n] w (EncAt g w) := by
  subst hg
  exact encode_any n w h

def decE (l : List UInt8) : Ending :=
  match dec l with
  | none => .returned (.tuple #[.int .i64 0, .int .i64 0, .bool false])
  | some (n, s) => .returned (.tuple #[.int .i64 n, .int .i64 (s : Int), .bool true])
def DecPost (l : List UInt8) (w : World) (e : Ending) (w' : World) : Prop := e = decE l ∧ Below w.heap.size w w'

set_option maxRecDepth 100000 in
set_option maxHeartbeats 2000000 in
theorem decode_none (A : Option Addr) (l : List UInt8) (c : Nat) (w : World) (hl : Lie w A l) (hc : l.length ≤ c) (hcm : c ≤ maxLen) (hg : grp 10 l = none) :
    Calls Try.prog 35 #[.slice A l.length c] w (DecPost l w) := by
  have HE : Hid (firstE l = .returned (.tuple #[.agg (grpA []), .bool false])) := by unfold Hid firstE; rw [hg]
  have HD : Hid (decE l = .returned (.tuple #[.int .i64 0, .int .i64 0, .bool false])) := by unfold Hid decE dec; rw [hg]
  have HL := Lib.hid hl
  clear hg hl
  go_enter Try.func35, Try.ntmps35
  go_wp2_with fail
  refine (first_all A l c _ (by exact HL.out) hc hcm).mono ?_
  rintro e w1 ⟨rfl, hb1⟩
  rw [HE.out, grpA_nil]
  go_wp2
  go_ret3
  exact ⟨HD.out.symm, hb1.alloc hb1.size _⟩

set_option maxRecDepth 100000 in
set_option maxHeartbeats 2000000 in
theorem decode_some (A : Option Addr) (l : List UInt8) (c : Nat) (w : World) (g : List UInt8) (hl : Lie w A l) (hc : l.length ≤ c) (hcm : c ≤ maxLen) (hg : grp 10 l = some g) :
    Calls Try.prog 35 #[.slice A l.length c] w (DecPost l w) := by
  have HE : Hid (firstE l = .returned (.tuple #[.agg (grpA g), .bool true])) := by unfold Hid firstE; rw [hg]
  have hg10 := (grp_len 10 l g hg).2.1
  have HL := Lib.hid hl
  have HG := Lib.hid hg
  clear hg hl
  go_enter Try.func35, Try.ntmps35
  go_wp2_with fail
  refine (first_all A l c _ (by exact HL.out) hc hcm).mono ?_
  rintro e w1 ⟨rfl, hb1⟩
  rw [HE.out]
  unfold grpA
  go_wp2_with fail
  refine (value_any g _ hg10).mono ?_
  rintro e w2 ⟨rfl, hb2⟩
  have hz : val g % 18446744073709551616 < 18446744073709551616 := Nat.mod_lt _ (by decide)
  have hi := unzig_i64 hz
  have HDe : Hid (decE l = if bs (unzig (val g % 18446744073709551616)) = g then .returned (.tuple #[.int .i64 (unzig (val g % 18446744073709551616)), .int .i64 (g.length : Int), .bool true]) else .returned (.tuple #[.int .i64 0, .int .i64 0, .bool false])) := by
    unfold Hid decE dec bs
    rw [HG.out, zig_unzig]
    simp only
    split
    · rename_i h; split at h
      · cases h
      · rw [if_neg (by assumption)]
    · rename_i h; split at h
      · injection h with h; injection h with h1 h2; subst h1; subst h2; rw [if_pos (by assumption)]
      · cases h
  clear hz HG HE HL
  generalize unzig (val g % 18446744073709551616) = n at *
  have hy : Box w2 w1.heap.size 56 (grpA g) := (Box.new w1 _ _).below hb2 (by simp)
  have hbw : Below w.heap.size w w2 := hb1.trans ((below_new hb2).mono hb1.size)
  clear hb1 hb2
  obtain ⟨c0, c1, c2, c3, c4, c5, c6, c7, c8, c9, c10⟩ := hy.eleven
  have heq := fun w => eq_grp (bs n) g w
  have hbl := bs_len n
  by_cases hbg : bs n = g
  · have HD2 : Hid (decE l = .returned (.tuple #[.int .i64 n, .int .i64 (g.length : Int), .bool true])) := by unfold Hid; rw [HDe.out, if_pos hbg]
    rw [hbg] at heq
    have HBG := Lib.hid hbg
    simp only [BEq.rfl] at heq
    clear hbg HDe hbl
    go_wp2
    go_region_with (go_at_call 28; refine (encode_at n g _ hi (by exact HBG.out)).mono ?_; rintro e w3 ⟨rfl, hb3⟩; have hy3 := hy.drew.below hb3 (by exact hy.lt); have hbw3 := hbw.drew.trans (hb3.mono (by exact hbw.size)); obtain ⟨c0, c1, c2, c3, c4, c5, c6, c7, c8, c9, c10⟩ := hy3.eleven; unfold grpA)
    all_goals go_wp2
    all_goals go_region
    all_goals go_wp2
    all_goals go_ret3
    all_goals (refine ⟨HD2.out.symm, ?_⟩; first | exact hbw3.drew | exact hbw3)
  · have HD2 : Hid (decE l = .returned (.tuple #[.int .i64 0, .int .i64 0, .bool false])) := by unfold Hid; rw [HDe.out, if_neg hbg]
    by_cases hp : pad (bs n) = pad g
    · have hln : ((bs n).length : Int) ≠ (g.length : Int) := fun h => hbg (pad_eq hbl hp (by omega))
      rw [hp] at heq
      simp only [BEq.rfl] at heq
      clear hbg HDe hbl hp
      go_wp2
      go_region_with (go_at_call 28; refine (encode_any n _ hi).mono ?_; rintro e w3 ⟨rfl, hb3⟩; have hy3 := hy.drew.below hb3 (by exact hy.lt); have hbw3 := hbw.drew.trans (hb3.mono (by exact hbw.size)); obtain ⟨c0, c1, c2, c3, c4, c5, c6, c7, c8, c9, c10⟩ := hy3.eleven; unfold grpA)
      all_goals go_wp2
      all_goals go_ret3
      all_goals exact ⟨HD2.out.symm, hbw3⟩
    · have hpf : (pad (bs n) == pad g) = false := beq_eq_false_iff_ne.2 hp
      rw [hpf] at heq
      clear hbg HDe hbl hp hpf
      go_wp2
      go_region_with (go_at_call 28; refine (encode_any n _ hi).mono ?_; rintro e w3 ⟨rfl, hb3⟩; have hy3 := hy.drew.below hb3 (by exact hy.lt); have hbw3 := hbw.drew.trans (hb3.mono (by exact hbw.size)); obtain ⟨c0, c1, c2, c3, c4, c5, c6, c7, c8, c9, c10⟩ := hy3.eleven; unfold grpA)
      all_goals go_wp2
      all_goals go_ret3
      all_goals exact ⟨HD2.out.symm, hbw3⟩
theorem decode_all (A : Option Addr) (l : List UInt8) (c : Nat) (w : World) (hl : Lie w A l) (hc : l.length ≤ c) (hcm : c ≤ maxLen) :
    Calls Try.prog 35 #[.slice A l.length c] w (DecPost l w) := by
  rcases h : grp 10 l with _ | g
  · exact decode_none A l c w hl hc hcm h
  · exact decode_some A l c w g hl hc hcm h

/-- An integer from 0 to most. -/
def decC (l : List UInt8) (most : Int) : Option (Int × Nat) :=
  match dec l with
  | none => none
  | some (n, s) => if n < 0 ∨ most < n then none else some (n, s)
def decCE (l : List UInt8) (most : Int) : Ending :=
  match decC l most with
  | none => .returned (.tuple #[.int .i64 0, .int .i64 0, .bool false])
  | some (n, s) => .returned (.tuple #[.int .i64 n, .int .i64 (s : Int), .bool true])
def DecCPost (l : List UInt8) (most : Int) (w : World) (e : Ending) (w' : World) : Prop := e = decCE l most ∧ Below w.heap.size w w'

set_option maxHeartbeats 1000000 in
theorem decodeCount_all (A : Option Addr) (l : List UInt8) (c : Nat) (most : Int) (w : World) (hl : Lie w A l) (hc : l.length ≤ c) (hcm : c ≤ maxLen) :
    Calls Try.prog 38 #[.slice A l.length c, .int .i64 most] w (DecCPost l most w) := by
  rcases h : dec l with _ | ⟨n, s⟩
  · have HD : Hid (decE l = .returned (.tuple #[.int .i64 0, .int .i64 0, .bool false])) := by unfold Hid decE; rw [h]
    have HC : Hid (decCE l most = .returned (.tuple #[.int .i64 0, .int .i64 0, .bool false])) := by unfold Hid decCE decC; rw [h]
    clear h
    go_enter Try.func38, Try.ntmps38
    go_wp2_with fail
    refine (decode_all A l c w hl hc hcm).mono ?_
    rintro e w1 ⟨rfl, hb⟩
    rw [HD.out]
    go_wp2
    go_ret3
    exact ⟨HC.out.symm, hb⟩
  · have HD : Hid (decE l = .returned (.tuple #[.int .i64 n, .int .i64 (s : Int), .bool true])) := by unfold Hid decE; rw [h]
    have HC : Hid (decCE l most = if n < 0 ∨ most < n then .returned (.tuple #[.int .i64 0, .int .i64 0, .bool false]) else .returned (.tuple #[.int .i64 n, .int .i64 (s : Int), .bool true])) := by
      unfold Hid decCE decC; rw [h]; simp only; split
      · rename_i h; split at h
        · rw [if_pos (by assumption)]
        · cases h
      · rename_i h; split at h
        · cases h
        · injection h with h; injection h with h1 h2; subst h1; subst h2; rw [if_neg (by assumption)]
    clear h
    by_cases h0 : n < 0
    · have hd : decide (n < 0) = true := by simpa using h0
      go_enter Try.func38, Try.ntmps38
      go_wp2_with fail
      refine (decode_all A l c w hl hc hcm).mono ?_
      rintro e w1 ⟨rfl, hb⟩
      rw [HD.out]
      go_wp2
      go_ret3
      exact ⟨(HC.out.trans (if_pos (.inl h0))).symm, hb⟩
    · have hd : decide (n < 0) = false := by simpa using h0
      by_cases h1 : most < n
      · have hd1 : decide (most < n) = true := by simpa using h1
        go_enter Try.func38, Try.ntmps38
        go_wp2_with fail
        refine (decode_all A l c w hl hc hcm).mono ?_
        rintro e w1 ⟨rfl, hb⟩
        rw [HD.out]
        go_wp2
        go_ret3
        exact ⟨(HC.out.trans (if_pos (.inr h1))).symm, hb⟩
      · have hd1 : decide (most < n) = false := by simpa using h1
        go_enter Try.func38, Try.ntmps38
        go_wp2_with fail
        refine (decode_all A l c w hl hc hcm).mono ?_
        rintro e w1 ⟨rfl, hb⟩
        rw [HD.out]
        go_wp2
        go_ret3
        exact ⟨(HC.out.trans (if_neg (by omega))).symm, hb⟩
end Go.Proofs.Yteokhbcpfhjhdaa.Pk
