/-
  ExprTruths: the walk.
-/
import Derived.Test.YtdjmicgmphbjmaaDoorExL0
namespace Go.Proofs.YtdjmicgmphbjmaaDoor.Ep
open Go.RowKit Lx

/-- What the law's table holds of an operator, when those below j were asked. -/
def vv (a b : Int) (j k : Nat) : Int := if k < j then tru (holdsZ k a b) else 0
def vArr (a b : Int) (j : Nat) : Array Value := #[.int .i64 0, .int .i64 0, .int .i64 0, .int .i64 0, .int .i64 0, .int .i64 0, .int .i64 0, .int .i64 0, .int .i64 0, .int .i64 (vv a b j 9), .int .i64 (vv a b j 10), .int .i64 (vv a b j 11), .int .i64 (vv a b j 12), .int .i64 (vv a b j 13), .int .i64 (vv a b j 14), .int .i64 (vv a b j 15), .int .i64 (vv a b j 16)]
theorem vv_le (a b : Int) (j k : Nat) (h : j ≤ k) : vv a b j k = 0 := by unfold vv; rw [if_neg (by omega)]
theorem vv_lt (a b : Int) (j k : Nat) (h : k < j) : vv a b j k = tru (holdsZ k a b) := by unfold vv; rw [if_pos h]
theorem vv_step (a b : Int) (j k : Nat) (h : k ≠ j) : vv a b (j + 1) k = vv a b j k := by
  unfold vv
  by_cases h1 : k < j
  · rw [if_pos h1, if_pos (by omega)]
  · rw [if_neg h1, if_neg (by omega)]
theorem vArr_set {w : World} {g : Nat} {T : TypeId} {a b : Int} {j : Nat} (h : Box w g T (vArr a b j)) (hj : 9 ≤ j) (hj2 : j ≤ 16) : Box (w.setCell ⟨g, j, none⟩ (.int .i64 (tru (holdsZ j a b)))) g T (vArr a b (j + 1)) := by
  have e : (w.setCell ⟨g, j, none⟩ (.int .i64 (tru (holdsZ j a b)))).heap[g]? = some (.cells ((vArr a b j).setIfInBounds j (.int .i64 (tru (holdsZ j a b)))) T (0, 0)) := by
    unfold Box at h
    simp [World.setCell, Array.getElem?_modify, h]
  unfold Box
  rw [e]
  congr 2
  have : j = 9 ∨ j = 10 ∨ j = 11 ∨ j = 12 ∨ j = 13 ∨ j = 14 ∨ j = 15 ∨ j = 16 := by omega
  unfold vArr
  rcases this with rfl | rfl | rfl | rfl | rfl | rfl | rfl | rfl <;> simp [vv]
theorem vArr_cell {w : World} {g : Nat} {T : TypeId} {a b : Int} {j : Nat} (h : Box w g T (vArr a b j)) (hj : 9 ≤ j) (hj2 : j ≤ 16) : w.cell? ⟨g, j, none⟩ = some (.int .i64 0) := by
  have e := vv_le a b j j (Nat.le_refl _)
  have : j = 9 ∨ j = 10 ∨ j = 11 ∨ j = 12 ∨ j = 13 ∨ j = 14 ∨ j = 15 ∨ j = 16 := by omega
  rcases this with rfl | rfl | rfl | rfl | rfl | rfl | rfl | rfl <;> (rw [h.cell]; simp [vArr, e])
theorem two_truth (op a b : Int) (h : 9 ≤ op ∧ op ≤ 16) : twoZ op a b = (tru (holdsZ op a b), 0) := by
  unfold twoZ
  rw [if_neg (by omega), if_neg (by omega), if_neg (by omega), if_neg (by omega), if_neg (by omega)]
theorem tru_01 (c : Bool) : tru c = 0 ∨ tru c = 1 := by cases c <;> decide

def prN (s : List UInt8) : Ex := .mk 3 0 [] [.mk 1 0 s []]
theorem prN_a (a b : Int) : evalE [([97], a), ([98], b)] (prN [97]) = (tru (decide (a = 0)), 0) := by
  unfold evalE
  rw [if_pos (by decide +kernel)]
  unfold prN
  rw [valE_1 _ _ _ _ _ rfl, valE_0 _ _ _ _ _ rfl]
  rfl
theorem prN_b (a b : Int) : evalE [([97], a), ([98], b)] (prN [98]) = (tru (decide (b = 0)), 0) := by
  unfold evalE
  rw [if_pos (by decide +kernel)]
  unfold prN
  rw [valE_1 _ _ _ _ _ rfl, valE_0 _ _ _ _ _ rfl]
  rfl
theorem prN_nums (s : List UInt8) : numsE (prN s) := by simp [prN, numsE, numsL]

theorem env_keep {w w' : World} {env : List (List UInt8 × Int)} {g n c : Nat} (h : EnvV w env (.slice (some ⟨g, 0, none⟩) n c)) (hs : w.heap.size ≤ w'.heap.size) (hb : w'.heap[g]? = w.heap[g]?) : EnvV w' env (.slice (some ⟨g, 0, none⟩) n c) := by
  obtain ⟨a, cap, e, hc, hk⟩ := h.form
  refine ⟨⟨a, cap, e, hc, fun hne => ?_⟩, h.nums, h.len⟩
  obtain ⟨g', off, ha, hg, hA⟩ := hk hne
  refine ⟨g', off, ha, Nat.lt_of_lt_of_le hg hs, fun k hk' => ?_⟩
  subst ha
  injection e with e
  injection e with e
  injection e with e1 e2
  subst e1
  have hcell : ∀ o, w'.cell? ⟨g, o, none⟩ = w.cell? ⟨g, o, none⟩ := fun o => World.cell?_of_block (w := w) hb
  rw [hcell, hcell]
  exact hA k hk'

/-- What the law asks of its table. -/
theorem tr_facts (a b : Int) : (vv a b 17 9 + vv a b 17 12 = 1) ∧ (vv a b 17 11 + vv a b 17 10 = 1) ∧ (vv a b 17 13 + vv a b 17 14 = 1) ∧ (vv a b 17 9 + vv a b 17 13 + vv a b 17 11 = 1) ∧
    (vv a b 17 15 = (1 - tru (decide (a = 0))) * (1 - tru (decide (b = 0)))) ∧ (vv a b 17 16 = 1 - tru (decide (a = 0)) * tru (decide (b = 0))) := by
  have e9 : vv a b 17 9 = tru (decide (a < b)) := rfl
  have e10 : vv a b 17 10 = tru (decide (a ≤ b)) := rfl
  have e11 : vv a b 17 11 = tru (decide (b < a)) := rfl
  have e12 : vv a b 17 12 = tru (decide (b ≤ a)) := rfl
  have e13 : vv a b 17 13 = tru (decide (a = b)) := rfl
  have e14 : vv a b 17 14 = tru (!decide (a = b)) := rfl
  have e15 : vv a b 17 15 = tru (!decide (a = 0) && !decide (b = 0)) := rfl
  have e16 : vv a b 17 16 = tru (!decide (a = 0) || !decide (b = 0)) := rfl
  rw [e9, e10, e11, e12, e13, e14, e15, e16]
  refine ⟨?_, ?_, ?_, ?_, ?_, ?_⟩
  · by_cases h : a < b <;> simp [tru, h] <;> omega
  · by_cases h : b < a <;> simp [tru, h] <;> omega
  · by_cases h : a = b <;> simp [tru, h]
  · rcases Int.lt_trichotomy a b with h | h | h
    · have h1 : ¬ a = b := by omega
      have h2 : ¬ b < a := by omega
      simp [tru, h, h1, h2]
    · subst h; simp [tru]
    · have h1 : ¬ a = b := by omega
      have h2 : ¬ a < b := by omega
      simp [tru, h, h1, h2]
  · by_cases h : a = 0 <;> by_cases h' : b = 0 <;> simp [tru, h, h']
  · by_cases h : a = 0 <;> by_cases h' : b = 0 <;> simp [tru, h, h']

set_option maxRecDepth 100000 in
set_option maxHeartbeats 8000000 in
theorem truths_any (a b : Int) (w : World) (ha0 : -9223372036854775808 ≤ a) (ha1 : a ≤ 9223372036854775807) (hb0 : -9223372036854775808 ≤ b) (hb1 : b ≤ 9223372036854775807) (hTab : Tab w) (hO : Ops w) :
    Calls Tryd.prog 9 #[.int .i64 a, .int .i64 b] w fun e w' => e = .returned (.bool true) ∧ Below w.heap.size w w' := by
  go_enter Tryd.func9, Tryd.ntmps9
  go_wp2_with fail
  refine (awake_any _ hO hTab).mono ?_
  rintro e w1 ⟨rfl, hb1'⟩
  have hO1 := hO.below hb1' hO.lt
  have HE := Lib.hid ((env_two w1 [97] [98] a b ⟨ha0, ha1⟩ ⟨hb0, hb1⟩).below ((Below.refl _ _).alloc (Nat.le_refl _) (.cells (vArr a b 9) 46)) (Nat.le_refl _))
  have HX : Hid (Box ((w1.alloc (.cells #[.string ⟨#[97]⟩, .int .i64 a, .string ⟨#[98]⟩, .int .i64 b] 42)).alloc (.cells (vArr a b 9) 46)) (w1.heap.size + 1) 46 (vArr a b 9)) := by
    have := Box.new (w1.alloc (.cells #[.string ⟨#[97]⟩, .int .i64 a, .string ⟨#[98]⟩, .int .i64 b] 42)) 46 (vArr a b 9)
    unfold Hid
    simpa using this
  have HBE : Hid (Below w.heap.size w ((w1.alloc (.cells #[.string ⟨#[97]⟩, .int .i64 a, .string ⟨#[98]⟩, .int .i64 b] 42)).alloc (.cells (vArr a b 9) 46))) := (hb1'.alloc hb1'.size _).alloc (by have := hb1'.size; simp; omega) _
  have hs1 := hb1'.size
  have hz : vArr a b 9 = #[.int .i64 0, .int .i64 0, .int .i64 0, .int .i64 0, .int .i64 0, .int .i64 0, .int .i64 0, .int .i64 0, .int .i64 0, .int .i64 0, .int .i64 0, .int .i64 0, .int .i64 0, .int .i64 0, .int .i64 0, .int .i64 0, .int .i64 0] := rfl
  rw [hz] at HE HX HBE
  rw [← hz] at HX
  have HX2 : Hid (Box ((w1.alloc (.cells #[.string ⟨#[97]⟩, .int .i64 a, .string ⟨#[98]⟩, .int .i64 b] 42)).alloc (.cells #[.int .i64 0, .int .i64 0, .int .i64 0, .int .i64 0, .int .i64 0, .int .i64 0, .int .i64 0, .int .i64 0, .int .i64 0, .int .i64 0, .int .i64 0, .int .i64 0, .int .i64 0, .int .i64 0, .int .i64 0, .int .i64 0, .int .i64 0] 46)) (w1.heap.size + 1) 46 (vArr a b 9)) := by rw [hz]; rw [hz] at HX; exact HX
  clear hb1' HX hz
  go_wp2
  go_loopw [8] (fun x wr => ∃ op : Nat, 9 ≤ op ∧ op ≤ 17 ∧ x = .int .i64 op ∧ Below w.heap.size w wr ∧ Box wr (w1.heap.size + 1) 46 (vArr a b op) ∧ Ops wr ∧ EnvV wr [([97], a), ([98], b)] (.slice (some ⟨w1.heap.size, 0, none⟩) 2 2)) (fun x _ => 17 - (intOf x).toNat)
  case atStart => exact ⟨9, by omega, by omega, rfl, HBE.out, HX2.out, (hO1.alloc _).alloc _, HE.out⟩
  case round =>
    obtain ⟨op, h9, h17, rfl, hbr, hxr, hOr, hEr⟩ := hrel
    clear HE HX2 HBE
    have hxl := hxr.lt
    by_cases hlt : op ≤ 16
    · go_wp2_with fail
      refine (pair_law op _).mono ?_
      rintro e w2 ⟨g2, rfl, hT2, hb2⟩
      have hE2 := hEr.below hb2 (Nat.le_refl _)
      have hO2 := hOr.below hb2 hOr.lt
      have hx2 := hxr.below hb2 hxl
      have hb02 := hbr.trans (hb2.mono hbr.size)
      clear hb2
      go_wp2_with fail
      refine (pair_eval op a b (by omega) _ _ _ _ hO2 hT2 hE2).mono ?_
      rintro e w3 ⟨rfl, hb3⟩
      have hE3 := hE2.below hb3 (Nat.le_refl _)
      have hO3 := hO2.below hb3 hO2.lt
      have hx3 := hx2.below hb3 hx2.lt
      have hb03 := hb02.trans (hb3.mono hb02.size)
      rw [two_truth op a b (by omega)]
      have hc := vArr_cell hx3 h9 hlt
      have hf := hx3.frozen op
      have HX3 := Lib.hid (vArr_set hx3 h9 hlt)
      have h01 := tru_01 (holdsZ op a b)
      have hl3 := hx3.lt
      have hbf : Below w.heap.size w (w3.setCell ⟨w1.heap.size + 1, op, none⟩ (.int .i64 (tru (holdsZ op a b)))) := hb03.setCell (by simp; omega) _
      have HBF := Lib.hid hbf
      have HEF : Hid (EnvV (w3.setCell ⟨w1.heap.size + 1, op, none⟩ (.int .i64 (tru (holdsZ op a b)))) [([97], a), ([98], b)] (.slice (some ⟨w1.heap.size, 0, none⟩) 2 2)) := env_keep hE3 (by simp [World.setCell]) (Below.heap_setCell _ _ _ _ (by simp))
      have HOF : Hid (Ops (w3.setCell ⟨w1.heap.size + 1, op, none⟩ (.int .i64 (tru (holdsZ op a b))))) := hO3.of (by simp [World.setCell]) (Below.heap_setCell _ _ _ _ (by simp))
      clear hb3 hx2 hx3 hE2 hE3 hO2 hO3 hT2 hb02 hb03 hbf
      generalize tru (holdsZ op a b) = z at *
      rcases h01 with rfl | rfl
      all_goals
        go_wp2
        go_roundw
        case rel => exact ⟨op + 1, by omega, by omega, by go_num, HBF.out, HX3.out, HOF.out, HEF.out⟩
        case measure => simp [intOf]; omega
    · obtain rfl : op = 17 := by omega
      obtain ⟨f1, f2, f3, f4, f5, f6⟩ := tr_facts a b
      have c9 : wr.cell? ⟨w1.heap.size + 1, 9, none⟩ = some (.int .i64 (vv a b 17 9)) := hxr.cell 9
      have c10 : wr.cell? ⟨w1.heap.size + 1, 10, none⟩ = some (.int .i64 (vv a b 17 10)) := hxr.cell 10
      have c11 : wr.cell? ⟨w1.heap.size + 1, 11, none⟩ = some (.int .i64 (vv a b 17 11)) := hxr.cell 11
      have c12 : wr.cell? ⟨w1.heap.size + 1, 12, none⟩ = some (.int .i64 (vv a b 17 12)) := hxr.cell 12
      have c13 : wr.cell? ⟨w1.heap.size + 1, 13, none⟩ = some (.int .i64 (vv a b 17 13)) := hxr.cell 13
      have c14 : wr.cell? ⟨w1.heap.size + 1, 14, none⟩ = some (.int .i64 (vv a b 17 14)) := hxr.cell 14
      have c15 : wr.cell? ⟨w1.heap.size + 1, 15, none⟩ = some (.int .i64 (vv a b 17 15)) := hxr.cell 15
      have c16 : wr.cell? ⟨w1.heap.size + 1, 16, none⟩ = some (.int .i64 (vv a b 17 16)) := hxr.cell 16
      have g9 := tru_01 (holdsZ 9 a b)
      have g10 := tru_01 (holdsZ 10 a b)
      have g11 := tru_01 (holdsZ 11 a b)
      have g12 := tru_01 (holdsZ 12 a b)
      have g13 := tru_01 (holdsZ 13 a b)
      have g14 := tru_01 (holdsZ 14 a b)
      rw [← show vv a b 17 9 = tru (holdsZ 9 a b) from rfl] at g9
      rw [← show vv a b 17 10 = tru (holdsZ 10 a b) from rfl] at g10
      rw [← show vv a b 17 11 = tru (holdsZ 11 a b) from rfl] at g11
      rw [← show vv a b 17 12 = tru (holdsZ 12 a b) from rfl] at g12
      rw [← show vv a b 17 13 = tru (holdsZ 13 a b) from rfl] at g13
      rw [← show vv a b 17 14 = tru (holdsZ 14 a b) from rfl] at g14
      generalize vv a b 17 9 = x9 at *
      generalize vv a b 17 10 = x10 at *
      generalize vv a b 17 11 = x11 at *
      generalize vv a b 17 12 = x12 at *
      generalize vv a b 17 13 = x13 at *
      generalize vv a b 17 14 = x14 at *
      generalize vv a b 17 15 = x15 at *
      generalize vv a b 17 16 = x16 at *
      have j9 : 0 ≤ x9 ∧ x9 ≤ 1 := by omega
      have j10 : 0 ≤ x10 ∧ x10 ≤ 1 := by omega
      have j11 : 0 ≤ x11 ∧ x11 ≤ 1 := by omega
      have j12 : 0 ≤ x12 ∧ x12 ≤ 1 := by omega
      have j13 : 0 ≤ x13 ∧ x13 ≤ 1 := by omega
      have j14 : 0 ≤ x14 ∧ x14 ≤ 1 := by omega
      have q1 : (x9 + x12 == 1) = true := by simpa using f1
      have q2 : (x11 + x10 == 1) = true := by simpa using f2
      have q3 : (x13 + x14 == 1) = true := by simpa using f3
      have q4 : (x9 + x13 + x11 == 1) = true := by simpa using f4
      have F5 := Lib.hid f5
      have F6 := Lib.hid f6
      have ta := tru_01 (decide (a = 0))
      have tb := tru_01 (decide (b = 0))
      have hrow := Box.new wr 24 #[.int .i64 1, .int .i64 0, .string ⟨#[97]⟩, .slice none 0 0]
      have HTa := Lib.hid (tree_one (S := fun _ => True) (k := .mk 1 0 [97] []) (ka := none) (kc := 0) hrow (tree_leaf _ _ _ _ _) trivial 3)
      have hbA : Below wr.heap.size wr (wr.alloc (.cells #[.int .i64 1, .int .i64 0, .string ⟨#[97]⟩, .slice none 0 0] 24)) := (Below.refl _ _).alloc (Nat.le_refl _) _
      have HBA := Lib.hid hbA
      clear g9 g10 g11 g12 g13 g14 f1 f2 f3 f4 f5 f6 hrow hbA hlt
      go_wp2_with fail
      refine (Eval_any (prN [97]) _ _ _ [([97], a), ([98], b)] _ (hOr.alloc _) HTa.out (hEr.below HBA.out (Nat.le_refl _)) (prN_nums _)).mono ?_
      rw [prN_a]
      rintro e w2 ⟨rfl, hb2⟩
      have hbw2 := HBA.out.trans (hb2.mono (by simp))
      have hE2 := hEr.below hbw2 (Nat.le_refl _)
      have hO2 := hOr.below hbw2 hOr.lt
      have hb02 := hbr.trans (hbw2.mono hbr.size)
      rw [← hbw2.cell (p := ⟨w1.heap.size + 1, _, none⟩) hxl] at c9 c10 c11 c12 c13 c14 c15 c16
      have hl2 : w1.heap.size + 1 < w2.heap.size := by have := hbw2.size; omega
      have hrow2 := Box.new w2 24 #[.int .i64 1, .int .i64 0, .string ⟨#[98]⟩, .slice none 0 0]
      have HTb := Lib.hid (tree_one (S := fun _ => True) (k := .mk 1 0 [98] []) (ka := none) (kc := 0) hrow2 (tree_leaf _ _ _ _ _) trivial 3)
      have hbB : Below w2.heap.size w2 (w2.alloc (.cells #[.int .i64 1, .int .i64 0, .string ⟨#[98]⟩, .slice none 0 0] 24)) := (Below.refl _ _).alloc (Nat.le_refl _) _
      have HBB := Lib.hid hbB
      clear hb2 hbw2 HTa HBA hrow2 hbB
      go_wp2_with fail
      refine (Eval_any (prN [98]) _ _ _ [([97], a), ([98], b)] _ (hO2.alloc _) HTb.out (hE2.below HBB.out (Nat.le_refl _)) (prN_nums _)).mono ?_
      rw [prN_b]
      rintro e w3 ⟨rfl, hb3⟩
      have hbw3 := HBB.out.trans (hb3.mono (by simp))
      have hb03 := hb02.trans (hbw3.mono hb02.size)
      rw [← hbw3.cell (p := ⟨w1.heap.size + 1, _, none⟩) hl2] at c9 c10 c11 c12 c13 c14 c15 c16
      have hl3 : w1.heap.size + 1 < w3.heap.size := by have := hbw3.size; omega
      clear hb3 hbw3 HTb HBB hE2 hO2 hb02 hEr hOr hbr
      generalize tru (decide (a = 0)) = na at *
      generalize tru (decide (b = 0)) = nb at *
      rcases ta with rfl | rfl <;> rcases tb with rfl | rfl
      all_goals
        have k15 := F5.out
        have k16 := F6.out
        simp at k15 k16
        subst k15 k16
        clear F5 F6
        go_wp2
        go_ret
        exact ⟨rfl, hb03⟩
end Go.Proofs.YtdjmicgmphbjmaaDoor.Ep
