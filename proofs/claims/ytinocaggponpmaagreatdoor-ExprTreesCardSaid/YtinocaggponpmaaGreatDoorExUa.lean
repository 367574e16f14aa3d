/-
  Contracts of the document's Line, Sign, two, Token and sign.
  What the document's reading leaves; its lines plainly.
  The document's reading of a line with operators of a level.
  The document's reading of a comparison: one operator at most.
-/
import Derived.Test.YtinocaggponpmaaGreatDoorProg
import Derived.Test.YtinocaggponpmaaGreatDoorExM
import Derived.Test.YtinocaggponpmaaGreatDoorExR5
import Derived.WalkKit
import Derived.WalkSpells
import Derived.WalkLawsBesides
import Derived.Outline
import Derived.Lib.Hide
import Derived.BigQuiet
import Derived.Deep.QuietTactic
import Derived.Deep.RegionHeld
import Derived.Deep.Draws
import Derived.Laws.Rows
namespace Go.Proofs.YtinocaggponpmaaGreatDoor.Eu
open Go.RowKit Lx Ep

theorem ret_int {k : IntKind} {a b : Int} (h : a = b) : Ending.returned (.int k a) = .returned (.int k b) := by rw [h]
theorem ret_bool {a b : Bool} (h : a = b) : Ending.returned (.bool a) = .returned (.bool b) := by rw [h]
theorem below_drewN {B : Nat} {a w : World} (h : Below B a w) (n : Nat) : Below B a (w.drewN n) := ⟨h.os, h.tape, h.output, h.size, h.block⟩
/-- A block that is known whole. -/
def Box (w : World) (g : Nat) (t : TypeId) (cs : Array Value) : Prop := w.heap[g]? = some (.cells cs t (0, 0))
section
variable {w w' : World} {g : Nat} {t : TypeId} {cs : Array Value}
theorem Box.lt (h : Box w g t cs) : g < w.heap.size := (Array.getElem?_eq_some_iff.1 h).1
theorem Box.cell (h : Box w g t cs) (i : Nat) : w.cell? ⟨g, i, none⟩ = cs[i]? := cell_of_row w g i cs t (0, 0) h
theorem Box.new (w : World) (t : TypeId) (cs : Array Value) : Box (w.alloc (.cells cs t)) w.heap.size t cs := heap_alloc_new w _
theorem Box.below {B : Nat} (h : Box w g t cs) (hb : Below B w w') (hg : g < B) : Box w' g t cs := (hb.block g hg).trans h
theorem Box.drew (h : Box w g t cs) : Box w.drew g t cs := h
end
def Val (v : Value) (w : World) (e : Ending) (w' : World) : Prop := e = .returned v ∧ Below w.heap.size w w'
def Keep (v : Value) (w : World) (e : Ending) (w' : World) : Prop := e = .returned v ∧ w = w'

theorem quiet_l {P : Program} {f : FuncId} {args : Array Value} {w : World} {n : Nat} {v : Value}
    (h : Calls P f args (w.drewN n) (Keep v (w.drewN n))) : Calls P f args (w.drewN n) fun e w'' => e = .returned v ∧ ∃ m, w'' = w.drewN m :=
  h.mono fun _ _ ⟨he, hm⟩ => ⟨he, n, hm.symm⟩
set_option maxRecDepth 100000 in
set_option maxHeartbeats 2000000 in
theorem line_all (k : Nat) (h : k < 17) (w : World) : Calls Tryz.prog 91 #[.int .i64 (k : Int)] w (Keep (.int .i64 (opL (k : Int) + 1)) w) := by
  have : k = 0 ∨ k = 1 ∨ k = 2 ∨ k = 3 ∨ k = 4 ∨ k = 5 ∨ k = 6 ∨ k = 7 ∨ k = 8 ∨ k = 9 ∨ k = 10 ∨ k = 11 ∨ k = 12 ∨ k = 13 ∨ k = 14 ∨ k = 15 ∨ k = 16 := by omega
  clear h
  rcases this with rfl | rfl | rfl | rfl | rfl | rfl | rfl | rfl | rfl | rfl | rfl | rfl | rfl | rfl | rfl | rfl | rfl
  all_goals (go_enter Tryz.func91, Tryz.ntmps91; go_wp2; go_ret; exact ⟨ret_int (by decide), rfl⟩)

def signsC : Array Value := (opsT.map fun o => Value.string ⟨o.1.toArray⟩).toArray
theorem signsC_at {k : Nat} (h : k < 17) : signsC[k]? = some (.string ⟨(opS (k : Int)).toArray⟩) := by
  have : k = 0 ∨ k = 1 ∨ k = 2 ∨ k = 3 ∨ k = 4 ∨ k = 5 ∨ k = 6 ∨ k = 7 ∨ k = 8 ∨ k = 9 ∨ k = 10 ∨ k = 11 ∨ k = 12 ∨ k = 13 ∨ k = 14 ∨ k = 15 ∨ k = 16 := by omega
  rcases this with rfl | rfl | rfl | rfl | rfl | rfl | rfl | rfl | rfl | rfl | rfl | rfl | rfl | rfl | rfl | rfl | rfl <;> rfl
set_option maxRecDepth 100000 in
set_option maxHeartbeats 2000000 in
theorem sign_all (k : Nat) (h : k < 17) (w : World) : Calls Tryz.prog 56 #[.int .i64 (k : Int)] w (Val (.string ⟨(opS (k : Int)).toArray⟩) w) := by
  obtain ⟨hq, hv⟩ := Array.getElem?_eq_some_iff.1 (signsC_at h)
  have HV := Lib.hid hv
  clear hv
  have hb := (Below.refl w.heap.size w).alloc (Nat.le_refl _) (.cells signsC 9)
  have hk0 : (0 : Int) ≤ (k : Int) := by omega
  have hk1 : (k : Int) < 17 := by omega
  generalize (⟨(opS (k : Int)).toArray⟩ : ByteArray) = S at *
  go_enter Tryz.func56, Tryz.ntmps56
  go_wp2
  all_goals first | (exfalso; omega) | skip
  go_ret
  exact ⟨congrArg Ending.returned HV.out, hb⟩

set_option maxRecDepth 100000 in
set_option maxHeartbeats 400000 in
theorem sgn_all (t : Tok) (s : List UInt8) (w : World) :
    Calls Tryz.prog 116 #[.agg #[.int .i64 t.kind, .string ⟨t.text.toArray⟩, .int .i64 t.n, .int .i64 t.at_], .string ⟨s.toArray⟩] w (Val (.bool (decide (t.kind = 4) && (t.text == s))) w) := by
  have hb := (Below.refl w.heap.size w).alloc (Nat.le_refl _) (.cells #[.int .i64 t.kind, .string ⟨t.text.toArray⟩, .int .i64 t.n, .int .i64 t.at_] 52)
  obtain ⟨kd, tx, n, a⟩ := t
  simp only at hb ⊢
  by_cases h4 : kd = 4
  · subst h4
    go_enter Tryz.func116, Tryz.ntmps116
    go_wp2
    go_ret
    exact ⟨ret_bool (by simp), hb⟩
  · have h4' : (kd == 4) = false := beq_eq_false_iff_ne.2 h4
    go_enter Tryz.func116, Tryz.ntmps116
    go_wp2
    go_ret
    exact ⟨ret_bool (by simp [h4]), hb⟩

/-- Tokens in a row. -/
def Toks (w : World) (g : Nat) (L : List Tok) : Prop :=
  g < w.heap.size ∧ ∀ k (_ : k < L.length), w.cell? ⟨g, k * 4, none⟩ = some (.int .i64 (L.getD k endTok).kind) ∧ w.cell? ⟨g, k * 4 + 1, none⟩ = some (.string ⟨(L.getD k endTok).text.toArray⟩) ∧
      w.cell? ⟨g, k * 4 + 2, none⟩ = some (.int .i64 (L.getD k endTok).n) ∧ w.cell? ⟨g, k * 4 + 3, none⟩ = some (.int .i64 (L.getD k endTok).at_)
theorem Toks.below {w w' : World} {g : Nat} {L : List Tok} (h : Toks w g L) (hb : Below w.heap.size w w') : Toks w' g L := by
  refine ⟨Nat.lt_of_lt_of_le h.1 hb.size, fun k hk => ?_⟩
  have hc : ∀ o, w'.cell? ⟨g, o, none⟩ = w.cell? ⟨g, o, none⟩ := fun o => hb.cell (p := ⟨g, o, none⟩) h.1
  rw [hc, hc, hc, hc]
  exact h.2 k hk
def tokV (t : Tok) : Value := .agg #[.int .i64 t.kind, .string ⟨t.text.toArray⟩, .int .i64 t.n, .int .i64 t.at_]
theorem next_drop (L : List Tok) (k : Nat) : nextT (L.drop k) = L.getD k endTok := by
  unfold nextT
  rw [List.headD_eq_head?_getD, List.head?_drop, List.getD_eq_getElem?_getD]
set_option maxRecDepth 100000 in
set_option maxHeartbeats 1000000 in
theorem token_all (g c : Nat) (L : List Tok) (k : Nat) (w : World) (h : Toks w g L) (_hl : L.length ≤ 3000) (_hc : L.length ≤ c) :
    Calls Tryz.prog 77 #[.slice (some ⟨g, 0, none⟩) L.length c, .int .i64 (k : Int)] w (Val (tokV (nextT (L.drop k))) w) := by
  rw [next_drop]
  by_cases hk : k < L.length
  · obtain ⟨c0, c1, c2, c3⟩ := h.2 k hk
    have hg := h.1
    have hb1 := (Below.refl w.heap.size w).alloc (Nat.le_refl _) (.cells #[.int .i64 (L.getD k endTok).kind, .string ⟨(L.getD k endTok).text.toArray⟩, .int .i64 (L.getD k endTok).n, .int .i64 (L.getD k endTok).at_] 52)
    clear h
    generalize L.getD k endTok = t at *
    generalize hn : L.length = n at *
    have hk0 : (0 : Int) ≤ (k : Int) := by omega
    have hk1 : (k : Int) < (n : Int) := by omega
    have d1 : decide ((k : Int) < 0) = false := decide_eq_false (by omega)
    have d2 : decide ((n : Int) ≤ (k : Int)) = false := decide_eq_false (by omega)
    unfold tokV
    go_enter Tryz.func77, Tryz.ntmps77
    go_wp2
    all_goals first | (exfalso; omega) | skip
    exact bodyPost_ret (v := .agg #[.int .i64 t.kind, .string ⟨t.text.toArray⟩, .int .i64 t.n, .int .i64 t.at_]) (by simp [results, Tryz.results77, go_sem]) rfl ⟨rfl, hb1⟩
  · have e : L.getD k endTok = endTok := by rw [List.getD_eq_getElem?_getD, List.getElem?_eq_none (by omega)]; rfl
    rw [e]
    have hb1 := (Below.refl w.heap.size w).alloc (Nat.le_refl _) (.cells #[.int .i64 0, .string ⟨#[]⟩, .int .i64 0, .int .i64 0] 52)
    clear h e
    generalize hn : L.length = n at *
    have d1 : decide ((k : Int) < 0) = false := decide_eq_false (by omega)
    have d2 : decide ((n : Int) ≤ (k : Int)) = true := decide_eq_true (by omega)
    have hV : tokV endTok = .agg #[.int .i64 0, .string ⟨#[]⟩, .int .i64 0, .int .i64 0] := rfl
    rw [hV]
    clear hV
    go_enter Tryz.func77, Tryz.ntmps77
    go_wp2
    all_goals first | (exfalso; omega) | skip
    exact bodyPost_ret (v := .agg #[.int .i64 0, .string ⟨#[]⟩, .int .i64 0, .int .i64 0]) (by simp [results, Tryz.results77, go_sem]) rfl ⟨rfl, hb1⟩

/-! ### two -/
theorem ops_drop {k : Nat} (h : k < 17) : opsT.drop k = (opS (k : Int), opL (k : Int), opK (k : Int)) :: opsT.drop (k + 1) := by
  have : k = 0 ∨ k = 1 ∨ k = 2 ∨ k = 3 ∨ k = 4 ∨ k = 5 ∨ k = 6 ∨ k = 7 ∨ k = 8 ∨ k = 9 ∨ k = 10 ∨ k = 11 ∨ k = 12 ∨ k = 13 ∨ k = 14 ∨ k = 15 ∨ k = 16 := by omega
  rcases this with rfl | rfl | rfl | rfl | rfl | rfl | rfl | rfl | rfl | rfl | rfl | rfl | rfl | rfl | rfl | rfl | rfl <;> rfl
theorem opK_two {k : Nat} (h : k < 17) (h4 : 4 ≤ k) : opK (k : Int) = 2 := by
  have : ∀ k : Fin 17, 4 ≤ k.val → opK (k.val : Int) = 2 := by decide
  exact this ⟨k, h⟩ h4
theorem oper_four (ts : List Tok) (lv : Int) : operT ts lv 2 = operGo ts lv 2 (opsT.drop 4) 4 := by
  unfold operT
  have e : opsT = ([], 5, 0) :: ([], 5, 0) :: ([45], 5, 1) :: ([33], 5, 1) :: opsT.drop 4 := rfl
  rw [e]
  simp [operGo]
theorem oper_hit {ts : List Tok} {lv : Int} {k : Nat} (h : k < 17) (h4 : 4 ≤ k) (hl : opL (k : Int) = lv) (hs : sgnT ts (opS (k : Int)) = true) : operGo ts lv 2 (opsT.drop k) k = (k : Int) := by
  rw [ops_drop h, operGo, if_pos (by simp [hl, opK_two h h4, hs])]
theorem oper_miss {ts : List Tok} {lv : Int} {k : Nat} (h : k < 17) (hm : ¬ (opL (k : Int) = lv ∧ sgnT ts (opS (k : Int)) = true)) : operGo ts lv 2 (opsT.drop k) k = operGo ts lv 2 (opsT.drop (k + 1)) (k + 1) := by
  rw [ops_drop h, operGo, if_neg (by
    simp only [Bool.and_eq_true, decide_eq_true_eq]
    exact fun q => hm ⟨q.1.1, q.2⟩)]
theorem oper_end (ts : List Tok) (lv : Int) : operGo ts lv 2 (opsT.drop 17) 17 = -1 := rfl
theorem oper_no {ts : List Tok} (h : (nextT ts).kind ≠ 4) (lv : Int) : ∀ (l : List (List UInt8 × Int × Int)) (i : Nat), operGo ts lv 2 l i = -1
  | [], _ => rfl
  | o :: os, i => by
    rw [operGo, if_neg (by simp [sgnT, h])]
    exact oper_no h lv os (i + 1)

def TwoRel (ts : List Tok) (lv : Int) (gB : Nat) (t : Tok) (w : World) (i : Value) (wr : World) : Prop :=
  ∃ k : Nat, i = .int .i64 (k : Int) ∧ 4 ≤ k ∧ k ≤ 17 ∧ operT ts lv 2 = operGo ts lv 2 (opsT.drop k) k ∧ Box wr gB 52 #[.int .i64 t.kind, .string ⟨t.text.toArray⟩, .int .i64 t.n, .int .i64 t.at_] ∧ Below w.heap.size w wr
set_option maxRecDepth 100000 in
set_option maxHeartbeats 4000000 in
theorem two_all (ts : List Tok) (lv : Int) (w : World) (h0 : 0 ≤ lv) (h5 : lv ≤ 5) :
    Calls Tryz.prog 76 #[.int .i64 (lv + 1), tokV (nextT ts)] w (Val (.int .i64 (operT ts lv 2)) w) := by
  have hb1 := (Below.refl w.heap.size w).alloc (Nat.le_refl _) (.cells #[.int .i64 (nextT ts).kind, .string ⟨(nextT ts).text.toArray⟩, .int .i64 (nextT ts).n, .int .i64 (nextT ts).at_] 52)
  have hx1 := Box.new w 52 #[.int .i64 (nextT ts).kind, .string ⟨(nextT ts).text.toArray⟩, .int .i64 (nextT ts).n, .int .i64 (nextT ts).at_]
  unfold tokV
  by_cases h4 : (nextT ts).kind = 4
  · have HS : Hid (∀ s, sgnT ts s = ((nextT ts).text == s)) := fun s => by unfold sgnT; simp [h4]
    have H4 := oper_four ts lv
    rw [h4] at hx1 hb1 ⊢
    generalize ht : nextT ts = t at *
    have HO := Lib.hid H4
    clear H4 ht
    go_enter Tryz.func76, Tryz.ntmps76
    go_wp2
    go_loopw [5] (TwoRel ts lv w.heap.size t w) (fun i _ => 17 - (intOf i).toNat)
    case atStart => exact ⟨4, rfl, by omega, by omega, HO.out, by rw [h4]; exact hx1, hb1⟩
    case round =>
      clear hx1 hb1
      obtain ⟨k, rfl, k4, k17, hop, hx, hw⟩ := hrel
      by_cases hlt : k ≤ 16
      · have HL := Lib.hid (fun wx => line_all k (by omega) wx)
        have HG := Lib.hid (fun wx => sign_all k (by omega) wx)
        have hhit := Lib.hid (@oper_hit ts lv k (by omega) k4)
        have hmiss := Lib.hid (@oper_miss ts lv k (by omega))
        have hbd : 0 ≤ opL (k : Int) ∧ opL (k : Int) ≤ 5 := by
          have : ∀ k : Fin 17, 0 ≤ opL (k.val : Int) ∧ opL (k.val : Int) ≤ 5 := by decide
          exact this ⟨k, by omega⟩
        have HOP := Lib.hid hop
        have c1 : wr.cell? ⟨w.heap.size, 1, none⟩ = some (.string ⟨t.text.toArray⟩) := hx.cell 1
        have c1d : wr.drew.cell? ⟨w.heap.size, 1, none⟩ = some (.string ⟨t.text.toArray⟩) := hx.cell 1
        clear hop
        generalize hOL : opL (k : Int) = ol at *
        generalize hOS : opS (k : Int) = os at *
        clear hOL hOS
        by_cases hl : ol = lv
        · subst hl
          by_cases hs : t.text = os
          · subst hs
            have hr := Lib.hid (HOP.out.trans (hhit.out rfl (by rw [HS.out]; simp)))
            clear hhit hmiss HOP HS
            go_wp2_with fail
            go_region_held (fun w' => w'.cell? ⟨w.heap.size, 1, none⟩ = some (.string ⟨t.text.toArray⟩)) (first | exact c1d | exact e1 | assumption) (first | (go_at_call 91; refine (HL.out _).mono ?_; rintro e w3 ⟨rfl, rfl⟩) | (go_at_call 56; refine (HG.out _).mono ?_; rintro e w4 ⟨rfl, hb4⟩; have e1 : w4.cell? ⟨w.heap.size, 1, none⟩ = some (.string ⟨t.text.toArray⟩) := (hb4.cell (p := ⟨w.heap.size, 1, none⟩) hx.lt).trans c1d; have hB4 := hw.drew.trans (hb4.mono (by exact hw.size))))
            all_goals go_wp2
            all_goals go_ret
            all_goals exact ⟨ret_int hr.out.symm, hB4⟩
          · have q1 : (os == t.text) = false := beq_eq_false_iff_ne.2 (fun e => hs e.symm)
            have q2 : (t.text == os) = false := beq_eq_false_iff_ne.2 hs
            have hr := Lib.hid (HOP.out.trans (hmiss.out (by rw [HS.out, q2]; simp)))
            clear hhit hmiss HOP HS
            go_wp2_with fail
            go_region_held (fun w' => w'.cell? ⟨w.heap.size, 1, none⟩ = some (.string ⟨t.text.toArray⟩)) (first | exact c1d | exact e1 | assumption) (first | (go_at_call 91; refine (HL.out _).mono ?_; rintro e w3 ⟨rfl, rfl⟩) | (go_at_call 56; refine (HG.out _).mono ?_; rintro e w4 ⟨rfl, hb4⟩; have e1 : w4.cell? ⟨w.heap.size, 1, none⟩ = some (.string ⟨t.text.toArray⟩) := (hb4.cell (p := ⟨w.heap.size, 1, none⟩) hx.lt).trans c1d; have hB4 := hw.drew.trans (hb4.mono (by exact hw.size))))
            all_goals
              have hx4 := hx.drew.below hb4 hx.lt
              go_wp2
              go_roundw
              case rel => exact ⟨k + 1, by go_num, by omega, by omega, hr.out, hx4, hB4⟩
              case measure => simp [intOf]; omega
        · have q1 : (ol == lv) = false := beq_eq_false_iff_ne.2 hl
          have q2 : (ol + 1 == lv + 1) = false := beq_eq_false_iff_ne.2 (by omega)
          have hr := Lib.hid (HOP.out.trans (hmiss.out (fun q => hl q.1)))
          clear hhit hmiss HOP HS HG
          go_wp2_with fail
          go_quiet ((first | (go_at_call 91; exact quiet_l (HL.out _))))
          go_wp2
          go_roundw
          case rel => exact ⟨k + 1, by go_num, by omega, by omega, hr.out, hx, below_drewN hw _⟩
          case measure => simp [intOf]; omega
      · obtain rfl : k = 17 := by omega
        rw [oper_end] at hop
        have hr := Lib.hid hop
        clear hop HS HO
        go_wp2
        go_ret
        exact ⟨ret_int hr.out.symm, hw⟩
  · have hr : Hid (operT ts lv 2 = -1) := oper_no h4 lv opsT 0
    have q1 : ((nextT ts).kind == 4) = false := beq_eq_false_iff_ne.2 h4
    clear hx1
    generalize nextT ts = t at *
    go_enter Tryz.func76, Tryz.ntmps76
    go_wp2
    go_ret
    exact ⟨ret_int hr.out.symm, hb1⟩
end Go.Proofs.YtinocaggponpmaaGreatDoor.Eu

namespace Go.Proofs.YtinocaggponpmaaGreatDoor.Ep
open Go.RowKit Lx

/-- What the document's reading, from place i on, with b tokens to take, leaves. -/
def UPost (S : Nat → Prop) (L : List Tok) (i b : Nat) (w : World) (r : Res) (e : Ending) (w' : World) : Prop :=
  match r with
  | .ok t b' ts => ∃ v, e = .returned (.tuple #[v, .int .i64 0, .int .i64 ((i + (b - b') : Nat) : Int)]) ∧ TreeV S w' t v ∧ b' < b ∧ ts = L.drop (i + (b - b')) ∧ Below w.heap.size w w'
  | .er f b' => e = .returned (.tuple #[exV 0 0 [] none 0 0, .int .i64 f, .int .i64 ((i + (b - b') : Nat) : Int)]) ∧ f ≠ 0 ∧ b' ≤ b ∧ Below w.heap.size w w'
/-- The document reads a line, from any place on, with less than D tokens to take, as F says. -/
def URead (g c : Nat) (L : List Tok) (first : Nat) (line : Int) (F : Nat → List Tok → Res) (D : Nat) : Prop :=
  ∀ (i b : Nat) (w : World), b < D → b ≤ 64 → i + b = first + 64 → Eu.Toks w g L →
    Calls Tryz.prog 45 #[.slice (some ⟨g, 0, none⟩) L.length c, .int .i64 (first : Int), .int .i64 (i : Int), .int .i64 line] w (UPost (fun k => w.heap.size ≤ k) L i b w (F b (L.drop i)))
def UUn (g c : Nat) (L : List Tok) (first : Nat) (F : Nat → List Tok → Res) (D : Nat) : Prop :=
  ∀ (i b : Nat) (w : World), b < D → b ≤ 64 → i + b = first + 64 → Eu.Toks w g L →
    Calls Tryz.prog 75 #[.slice (some ⟨g, 0, none⟩) L.length c, .int .i64 (first : Int), .int .i64 (i : Int)] w (UPost (fun k => w.heap.size ≤ k) L i b w (F b (L.drop i)))
/-- What a reading handed back, whichever it was. -/
structure UGot (S : Nat → Prop) (L : List Tok) (i b : Nat) (w : World) (r : Res) (z0 z1 : Int) (s : ByteArray) (a : Option Addr) (n cp : Nat) (f : Int) (k : Nat) (w' : World) : Prop where
  below : Below w.heap.size w w'
  what : (f = 0 ∧ ∃ t b' ts, r = .ok t b' ts ∧ b' < b ∧ ts = L.drop (i + (b - b')) ∧ k = i + (b - b') ∧ z0 = t.op ∧ z1 = t.n ∧ s = ⟨t.name.toArray⟩ ∧ n = t.kids.length ∧ TreeV S w' t (exV t.op t.n t.name a t.kids.length cp)) ∨
    (f ≠ 0 ∧ ∃ b', r = .er f b' ∧ b' ≤ b ∧ k = i + (b - b') ∧ z0 = 0 ∧ z1 = 0 ∧ s = ⟨#[]⟩ ∧ a = none ∧ n = 0 ∧ cp = 0)
theorem upost_got {S : Nat → Prop} {L : List Tok} {i b : Nat} {w w' : World} {r : Res} {e : Ending} (h : UPost S L i b w r e w') :
    ∃ z0 z1 s a n cp f, ∃ k : Nat, e = .returned (.tuple #[.agg #[.int .i64 z0, .int .i64 z1, .string s, .slice a n cp], .int .i64 f, .int .i64 (k : Int)]) ∧ UGot S L i b w r z0 z1 s a n cp f k w' := by
  unfold UPost at h
  cases r with
  | ok t b' ts =>
    obtain ⟨v, rfl, hT, hb, hts, hB⟩ := h
    obtain ⟨a, cap, rfl, -, -⟩ := hT.open
    exact ⟨t.op, t.n, ⟨t.name.toArray⟩, a, t.kids.length, cap, 0, _, rfl, hB, Or.inl ⟨rfl, t, b', ts, rfl, hb, hts, rfl, rfl, rfl, rfl, rfl, hT⟩⟩
  | er f b' =>
    obtain ⟨rfl, hf, hb, hB⟩ := h
    exact ⟨0, 0, ⟨#[]⟩, none, 0, 0, f, _, rfl, hB, Or.inr ⟨hf, b', rfl, hb, rfl, rfl, rfl, rfl, rfl, rfl, rfl⟩⟩
theorem upost_ok {S : Nat → Prop} {L : List Tok} {i b b' : Nat} {w w' : World} {t : Ex} {v : Value} {ts : List Tok} (hb : b' < b) (hts : ts = L.drop (i + (b - b'))) (hT : TreeV S w' t v) (hB : Below w.heap.size w w') :
    UPost S L i b w (.ok t b' ts) (.returned (.tuple #[v, .int .i64 0, .int .i64 ((i + (b - b') : Nat) : Int)])) w' := ⟨v, rfl, hT, hb, hts, hB⟩
theorem upost_er {S : Nat → Prop} {L : List Tok} {i b b' : Nat} {w w' : World} {f : Int} (hf : f ≠ 0) (hb : b' ≤ b) (hB : Below w.heap.size w w') :
    UPost S L i b w (.er f b') (.returned (.tuple #[.agg #[.int .i64 0, .int .i64 0, .string ⟨#[]⟩, .slice none 0 0], .int .i64 f, .int .i64 ((i + (b - b') : Nat) : Int)])) w' := ⟨rfl, hf, hb, hB⟩
theorem two_ln (ts : List Tok) (ln : Int) (w : World) (h0 : 1 ≤ ln) (h5 : ln ≤ 6) :
    Calls Tryz.prog 76 #[.int .i64 ln, Eu.tokV (nextT ts)] w (Eu.Val (.int .i64 (operT ts (ln - 1) 2)) w) := by
  have := Eu.two_all ts (ln - 1) w (by omega) (by omega)
  rw [show ln - 1 + 1 = ln by omega] at this
  exact this

/-- What holds at the head of a round. -/
def DRel (S : Nat → Prop) (g : Nat) (L : List Tok) (G : Nat → Ex → Nat → List Tok → Res) (i b : Nat) (w : World) (n m : Nat) (R : Res) (f k : Value) (wr : World) : Prop :=
  Below w.heap.size w wr ∧ Eu.Toks wr g L ∧ Box wr n 25 #[.int .i64 0, .int .i64 0, .string ⟨#[]⟩, .slice none 0 0] ∧ n < m ∧ m < wr.heap.size ∧
  ((∃ (t : Ex) (a : Option Addr) (cap b' fuel : Nat), f = .int .i64 0 ∧ k = .int .i64 ((i + (b - b') : Nat) : Int) ∧ b' < b ∧ b' < fuel ∧ R = G fuel t b' (L.drop (i + (b - b'))) ∧
      Box wr m 25 #[.int .i64 t.op, .int .i64 t.n, .string ⟨t.name.toArray⟩, .slice a t.kids.length cap] ∧ TreeV S wr t (exV t.op t.n t.name a t.kids.length cap)) ∨
   (∃ (z : Int) (b' : Nat), f = .int .i64 z ∧ z ≠ 0 ∧ k = .int .i64 ((i + (b - b') : Nat) : Int) ∧ b' ≤ b ∧ R = .er z b'))
end Go.Proofs.YtinocaggponpmaaGreatDoor.Ep

namespace Go.Proofs.YtinocaggponpmaaGreatDoor.Ep
open Go.RowKit Lx

theorem Toks.set4 {w : World} {g : Nat} {L : List Tok} (h : Eu.Toks w g L) {q : Nat} (hq : g ≠ q) (x0 x1 x2 x3 : Value) :
    Eu.Toks ((((w.setCell ⟨q, 0, none⟩ x0).setCell ⟨q, 1, none⟩ x1).setCell ⟨q, 2, none⟩ x2).setCell ⟨q, 3, none⟩ x3) g L := by
  refine ⟨by rw [size4]; exact h.1, fun k hk => ?_⟩
  have hc : ∀ o, ((((w.setCell ⟨q, 0, none⟩ x0).setCell ⟨q, 1, none⟩ x1).setCell ⟨q, 2, none⟩ x2).setCell ⟨q, 3, none⟩ x3).cell? ⟨g, o, none⟩ = w.cell? ⟨g, o, none⟩ := fun o => World.cell?_of_block (w := w) (block4 w q x0 x1 x2 x3 g hq)
  rw [hc, hc, hc, hc]
  exact h.2 k hk
theorem Toks.alloc {w : World} {g : Nat} {L : List Tok} (h : Eu.Toks w g L) (o : Obj) : Eu.Toks (w.alloc o) g L := h.below ((Below.refl _ w).alloc (Nat.le_refl _) o)

/-- The first operand was read, and lies in a box of its own. -/
theorem drel_start {g : Nat} {L : List Tok} {G : Nat → Ex → Nat → List Tok → Res} {F : Nat → List Tok → Res} {i b : Nat} {w w1 : World} {z0 z1 : Int} {s : ByteArray} {a : Option Addr} {n cp : Nat} {f : Int} {k : Nat} {R : Res} (hT : Eu.Toks w g L)
    (hRok : ∀ t b' ts, F b (L.drop i) = .ok t b' ts → ∃ fuel, b' < fuel ∧ R = G fuel t b' ts) (hRer : ∀ f b', F b (L.drop i) = .er f b' → R = .er f b')
    (h : UGot (fun k => (w.alloc (.cells #[.int .i64 0, .int .i64 0, .string ⟨#[]⟩, .slice none 0 0] 25)).heap.size ≤ k) L i b (w.alloc (.cells #[.int .i64 0, .int .i64 0, .string ⟨#[]⟩, .slice none 0 0] 25)) (F b (L.drop i)) z0 z1 s a n cp f k w1) :
    DRel (fun k => w.heap.size + 1 ≤ k ∧ k ≠ w1.heap.size) g L G i b w w.heap.size w1.heap.size R (.int .i64 f) (.int .i64 (k : Int)) (w1.alloc (.cells #[.int .i64 z0, .int .i64 z1, .string s, .slice a n cp] 25)) := by
  have hb := h.below
  have hx1 := (Box.new w 25 #[.int .i64 0, .int .i64 0, .string ⟨#[]⟩, .slice none 0 0]).below hb (by simp)
  have hs : w.heap.size + 1 ≤ w1.heap.size := by have := hb.size; simpa using this
  have hb1 : Below w.heap.size w w1 := ((Below.refl w.heap.size w).alloc (Nat.le_refl _) _).trans (hb.mono (by simp))
  refine ⟨hb1.alloc hb1.size _, Toks.alloc (hT.below hb1) _, hx1.alloc _, by omega, by simp, ?_⟩
  rcases h.what with ⟨rfl, t, b', ts, hr, hb', hts, rfl, rfl, rfl, rfl, rfl, hTr⟩ | ⟨hf, b', hr, hb', rfl, -⟩
  · obtain ⟨fuel, hfu, hR⟩ := hRok t b' ts hr
    refine Or.inl ⟨t, a, cp, b', fuel, rfl, rfl, hb', hfu, by rw [hR, hts], Box.new _ _ _, ?_⟩
    refine TreeV.alloc (TreeV.low ?_ _ _ (TreeV.within hTr)) _
    rintro q ⟨h1, h2⟩
    simp at h1
    omega
  · exact Or.inr ⟨f, b', rfl, hf, rfl, hb', hRer f b' hr⟩

/-- The right operand was read, and both lie under the operator. -/
theorem drel_next {g : Nat} {L : List Tok} {G : Nat → Ex → Nat → List Tok → Res} {i b : Nat} {w wr w3 : World} {m : Nat} {t : Ex} {ta : Option Addr} {tcap : Nat} {z0 z1 : Int} {s : ByteArray} {a : Option Addr} {nk cp : Nat} {tr : Ex} {b'' : Nat} {ts : List Tok} {R : Res} {fu : Nat} {o : Int} {k : Nat}
    (hbw : Below w.heap.size w wr) (hn : w.heap.size < m) (hTk : Eu.Toks w g L) (hb3 : Below wr.heap.size wr w3)
    (hxn : Box wr w.heap.size 25 #[.int .i64 0, .int .i64 0, .string ⟨#[]⟩, .slice none 0 0])
    (hxm : Box wr m 25 #[.int .i64 t.op, .int .i64 t.n, .string ⟨t.name.toArray⟩, .slice ta t.kids.length tcap])
    (hT : TreeV (fun q => w.heap.size + 1 ≤ q ∧ q ≠ m) wr t (exV t.op t.n t.name ta t.kids.length tcap))
    (h0 : z0 = tr.op) (h1 : z1 = tr.n) (h2 : s = ⟨tr.name.toArray⟩) (h3 : nk = tr.kids.length) (hTr : TreeV (fun q => wr.heap.size ≤ q) w3 tr (exV tr.op tr.n tr.name a tr.kids.length cp))
    (hk : k = i + (b - b'')) (hb' : b'' < b) (hfu : b'' < fu) (hts : ts = L.drop k) (hR : R = G fu (.mk o 0 [] [t, tr]) b'' ts) :
    DRel (fun q => w.heap.size + 1 ≤ q ∧ q ≠ m) g L G i b w w.heap.size m R (.int .i64 0) (.int .i64 (k : Int)) ((((((w3.setCell ⟨m, 0, none⟩ (.int .i64 o)).setCell ⟨m, 1, none⟩ (.int .i64 0)).setCell ⟨m, 2, none⟩ (.string ⟨#[]⟩)).setCell ⟨m, 3, none⟩ (.slice (some ⟨w3.heap.size + 1, 0, none⟩) 2 2)).alloc (.cells #[.int .i64 z0, .int .i64 z1, .string s, .slice a nk cp] 25)).alloc (.cells #[.int .i64 t.op, .int .i64 t.n, .string ⟨t.name.toArray⟩, .slice ta t.kids.length tcap, .int .i64 z0, .int .i64 z1, .string s, .slice a nk cp] 25)) := by
  subst h0 h1 h2 h3 hk
  have hml := hxm.lt
  have hnl := hxn.lt
  have hs3 : wr.heap.size ≤ w3.heap.size := hb3.size
  have hB3 : Below w.heap.size w w3 := hbw.trans (hb3.mono hbw.size)
  have hgm : g ≠ m := by have := hTk.1; omega
  have keep : ∀ (S : Nat → Prop) (x : Ex) (v : Value), (∀ q, S q → q ≠ m) → TreeV S w3 x v → TreeV S ((((w3.setCell ⟨m, 0, none⟩ (.int .i64 o)).setCell ⟨m, 1, none⟩ (.int .i64 0)).setCell ⟨m, 2, none⟩ (.string ⟨#[]⟩)).setCell ⟨m, 3, none⟩ (.slice (some ⟨w3.heap.size + 1, 0, none⟩) 2 2)) x v := fun S x v hS h => TreeV.keep (by rw [size4]; exact Nat.le_refl _) (fun q hq _ => block4 _ _ _ _ _ _ _ (hS q hq)) _ _ h
  have hx := (hxn.below hb3 hnl).off4 (q := m) (by omega) (.int .i64 o) (.int .i64 0) (.string ⟨#[]⟩) (.slice (some ⟨w3.heap.size + 1, 0, none⟩) 2 2)
  have hm := (hxm.below hb3 hml).set4 (.int .i64 o) (.int .i64 0) (.string ⟨#[]⟩) (.slice (some ⟨w3.heap.size + 1, 0, none⟩) 2 2)
  have hB := below_set4 (g := m) hB3 (by omega) (.int .i64 o) (.int .i64 0) (.string ⟨#[]⟩) (.slice (some ⟨w3.heap.size + 1, 0, none⟩) 2 2)
  have hK := Toks.set4 (hTk.below hB3) hgm (.int .i64 o) (.int .i64 0) (.string ⟨#[]⟩) (.slice (some ⟨w3.heap.size + 1, 0, none⟩) 2 2)
  have h1 := keep _ _ _ (fun q hq => hq.2) (TreeV.below hT hb3 (Nat.le_refl _))
  have h2 := keep _ _ _ (fun q hq => by omega) hTr
  have hsz := size4 w3 m (.int .i64 o) (.int .i64 0) (.string ⟨#[]⟩) (.slice (some ⟨w3.heap.size + 1, 0, none⟩) 2 2)
  generalize hVV : ((((w3.setCell ⟨m, 0, none⟩ (.int .i64 o)).setCell ⟨m, 1, none⟩ (.int .i64 0)).setCell ⟨m, 2, none⟩ (.string ⟨#[]⟩)).setCell ⟨m, 3, none⟩ (.slice (some ⟨w3.heap.size + 1, 0, none⟩) 2 2)) = V at *
  have hrow := Box.new (V.alloc (.cells #[.int .i64 tr.op, .int .i64 tr.n, .string ⟨tr.name.toArray⟩, .slice a tr.kids.length cp] 25)) 25 #[.int .i64 t.op, .int .i64 t.n, .string ⟨t.name.toArray⟩, .slice ta t.kids.length tcap, .int .i64 tr.op, .int .i64 tr.n, .string ⟨tr.name.toArray⟩, .slice a tr.kids.length cp]
  have e4 : (V.alloc (.cells #[.int .i64 tr.op, .int .i64 tr.n, .string ⟨tr.name.toArray⟩, .slice a tr.kids.length cp] 25)).heap.size = w3.heap.size + 1 := by simp [hsz]
  rw [e4] at hrow
  have hBs := hB.size
  refine ⟨(hB.alloc hBs _).alloc (by simp; omega) _, Toks.alloc (Toks.alloc hK _) _, (hx.alloc _).alloc _, hn, by simp [hsz]; omega, Or.inl ⟨.mk o 0 [] [t, tr], some ⟨w3.heap.size + 1, 0, none⟩, 2, b'', fu, rfl, rfl, hb', hfu, by rw [hR, hts], (hm.alloc _).alloc _, ?_⟩⟩
  exact tree_two hrow ((h1.alloc _).alloc _) (TreeV.low (fun q hq => ⟨by have := hbw.size; omega, by omega⟩) _ _ ((h2.alloc _).alloc _)) ⟨by have := hbw.size; omega, by omega⟩ o

set_option maxRecDepth 100000 in
set_option maxHeartbeats 4000000 in
theorem uread_chain (g c : Nat) (L : List Tok) (first : Nat) (ln : Int) (F : Nat → List Tok → Res) (D : Nat) (hF : URead g c L first (ln + 1) F D) (h1 : 1 ≤ ln) (h5 : ln ≤ 5) (h3 : ln ≠ 3) (hl : L.length ≤ 3000) (hc : L.length ≤ c) (hfi : first ≤ 3000) :
    URead g c L first ln (chainT F (ln - 1)) D := by
  intro i b w hD hb hib hT
  have d6 : (ln == 6) = false := beq_eq_false_iff_ne.2 (by omega)
  have d3 : (ln == 3) = false := beq_eq_false_iff_ne.2 h3
  have hT0 := Toks.alloc hT (.cells #[.int .i64 0, .int .i64 0, .string ⟨#[]⟩, .slice none 0 0] 25)
  have HF := Lib.hid hF
  clear hF h3
  go_enter Tryz.func45, Tryz.ntmps45
  go_wp2_with fail
  refine (HF.out i b _ hD hb hib hT0).mono ?_
  intro e w1 hpost
  obtain ⟨z0, z1, s, a, n, cp, f, k, rfl, hgot⟩ := upost_got hpost
  clear hpost
  have HC := Lib.hid (drel_start (G := chainGo F (ln - 1)) (R := chainT F (ln - 1) b (L.drop i)) hT (fun t b' ts h => ⟨b' + 1, by omega, by unfold chainT; rw [h]⟩) (fun f b' h => by unfold chainT; rw [h]) hgot)
  have hw1 : w.heap.size < w1.heap.size := by have := hgot.below.size; simp at this; omega
  clear hgot hT0
  generalize hRR : chainT F (ln - 1) b (L.drop i) = R at HC
  have HRR := Lib.hid hRR
  clear hRR
  go_wp2
  go_loopw [13] (fun y wr => DRel (fun q => w.heap.size + 1 ≤ q ∧ q ≠ w1.heap.size) g L (chainGo F (ln - 1)) i b w w.heap.size w1.heap.size R (.int .i64 f) y wr) (fun y _ => first + 65 - (intOf y).toNat)
  case atStart => exact HC.out
  case round =>
    clear HC
    obtain ⟨hbw, hTw, hxn, hnm, hml, hst⟩ := hrel
    rcases hst with ⟨t, ta, tcap, b', fuel, hff, rfl, hb', hfu, hR, hxm, hTr⟩ | ⟨z, b', hff, hz, rfl, hb', hR⟩
    · injection hff with _ hff
      subst hff
      have HR := Lib.hid hR
      clear hR
      have hk1 : i + (b - b') ≤ first + 64 := by omega
      have HKE : Hid (i + (b - b') = first + 64 - b') := by unfold Hid; omega
      generalize hk : i + (b - b') = k at *
      have HK := Lib.hid hk
      clear hk
      go_wp2_with fail
      refine (Eu.token_all g c L k _ hTw hl hc).mono ?_
      rintro e w2 ⟨rfl, hb2⟩
      go_wp2_with fail
      refine (two_ln (L.drop k) ln _ h1 (by omega)).mono ?_
      rintro e w3 ⟨rfl, hb3⟩
      have hb23 := hb2.trans (hb3.mono hb2.size)
      have hTw3 := hTw.below hb23
      have hxn3 := hxn.below hb23 hxn.lt
      have hxm3 := hxm.below hb23 hxm.lt
      have hB3 := hbw.trans (hb23.mono hbw.size)
      have hTr3 := TreeV.below hTr hb23 (Nat.le_refl _)
      clear hb2 hb3 hb23 hTw hxn hxm hbw hTr hml
      obtain ⟨r0, r1, r2, r3, s0, s1, s2, s3⟩ := hxn3.four
      obtain ⟨c0, c1, c2, c3, f0, f1, f2, f3⟩ := hxm3.four
      have hnl := hxn3.lt
      have hml := hxm3.lt
      have HO : Hid (operT (L.drop k) (ln - 1) 2 < 0 ∨ ¬ operT (L.drop k) (ln - 1) 2 < 0) := Lib.hid (by omega)
      obtain ⟨fu, rfl⟩ : ∃ fu, fuel = fu + 1 := ⟨fuel - 1, by omega⟩
      rcases HO.out with ho | ho
      · have hd : decide (operT (L.drop k) (ln - 1) 2 < 0) = true := by simpa using ho
        have HE : Hid (R = .ok t b' (L.drop (i + (b - b')))) := by unfold Hid; rw [HK.out, HR.out, chainGo_step, if_pos ho]
        clear ho HR HO
        generalize operT (L.drop k) (ln - 1) 2 = o at *
        go_wp2
        rw [HRR.out, HE.out, ← HK.out]
        exact bodyPost_ret (v := .tuple #[exV t.op t.n t.name ta t.kids.length tcap, .int .i64 0, .int .i64 ((i + (b - b') : Nat) : Int)]) (by simp [results, Tryz.results45, go_sem, exV, r0, r1, r2, r3]) rfl
          (upost_ok hb' rfl (TreeV.low (fun k hk => by omega) _ _ (TreeV.keep (by rw [size4]; exact Nat.le_refl _) (fun q hq _ => block4 _ _ _ _ _ _ _ (by omega)) _ _ hTr3)) (below_set4 hB3 (Nat.le_refl _) _ _ _ _))
      · have hd : decide (operT (L.drop k) (ln - 1) 2 < 0) = false := by simpa using ho
        have HR2 : Hid (R = match joinR F (ln - 1) t b' (L.drop k) with | .er f b' => .er f b' | .ok t b' ts' => chainGo F (ln - 1) fu t b' ts') := by unfold Hid; rw [HR.out, chainGo_step, if_neg ho]; rfl
        clear ho HR HO
        by_cases h0 : b' = 0
        · have hge : decide ((64 : Int) ≤ (k : Int) - (first : Int)) = true := decide_eq_true (by have := HKE.out; omega)
          have HE : Hid (R = .er 2 0) := by unfold Hid; rw [HR2.out, joinR, if_pos h0]
          clear HR2
          generalize operT (L.drop k) (ln - 1) 2 = o at *
          go_wp2
          rw [HRR.out, HE.out, ← HK.out, h0]
          exact bodyPost_ret (v := .tuple #[exV 0 0 [] none 0 0, .int .i64 2, .int .i64 ((i + (b - 0) : Nat) : Int)]) (by simp [results, Tryz.results45, go_sem, exV, r0, r1, r2, r3]) rfl
            (upost_er (by decide) (by omega) (below_set4 hB3 (Nat.le_refl _) _ _ _ _))
        · have hlt : decide ((64 : Int) ≤ (k : Int) - (first : Int)) = false := decide_eq_false (by have := HKE.out; omega)
          have HJ : Hid (joinR F (ln - 1) t b' (L.drop k) = match F (b' - 1) (L.drop (k + 1)) with | .er f b'' => .er f b'' | .ok r b'' ts' => .ok (.mk (operT (L.drop k) (ln - 1) 2) 0 [] [t, r]) b'' ts') := by
            unfold Hid joinR; rw [if_neg h0, List.tail_drop]; cases F (b' - 1) (L.drop (k + 1)) <;> rfl
          have hka : k + 1 + (b' - 1) = first + 64 := by have := HKE.out; omega
          generalize hO : operT (L.drop k) (ln - 1) 2 = o at *
          clear hO
          go_wp2_with fail
          refine (HF.out (k + 1) (b' - 1) _ (by omega) (by omega) hka hTw3).mono ?_
          intro e w4 hpost
          obtain ⟨z0', z1', s', a', n', cp', f', k', rfl, hgot⟩ := upost_got hpost
          clear hpost hka
          have hb4 := hgot.below
          have hxn4 := hxn3.below hb4 hnl
          have hxm4 := hxm3.below hb4 hml
          have hbx4 := Box.new w4 25 #[.int .i64 z0', .int .i64 z1', .string s', .slice a' n' cp']
          have hB4 := hB3.trans (hb4.mono hB3.size)
          have hml4 : w1.heap.size < w4.heap.size := Nat.lt_of_lt_of_le hml hb4.size
          have hnl4 : w.heap.size < w4.heap.size := Nat.lt_of_lt_of_le hnl hb4.size
          have hml5 : w1.heap.size < w4.heap.size + 1 := by omega
          have hnl5 : w.heap.size < w4.heap.size + 1 := by omega
          clear r0 r1 r2 r3 s0 s1 s2 s3 c0 c1 c2 c3 f0 f1 f2 f3
          obtain ⟨r0, r1, r2, r3, s0, s1, s2, s3⟩ := hxn4.four
          obtain ⟨c0, c1, c2, c3, f0, f1, f2, f3⟩ := hxm4.four
          obtain ⟨q0, q1, q2, q3, g0, g1, g2, g3⟩ := hbx4.four
          rcases hgot.what with ⟨rfl, tr, b'', ts, hr, hb'', hts, hk', e0, e1, e2, e3, hTr4⟩ | ⟨hf', b'', hr, hb'', hk', -⟩
          · have HE : Hid (R = chainGo F (ln - 1) fu (.mk o 0 [] [t, tr]) b'' ts) := by unfold Hid; rw [HR2.out, HJ.out, hr]
            have HN := Lib.hid (drel_next (i := i) (b := b) (o := o) (k := k') hB3 hnm hT hb4 hxn3 hxm3 hTr3 e0 e1 e2 e3 hTr4 (by have := HK.out; omega) (by omega) (by omega) (by rw [hts, hk']) HE.out)
            have hm1 : first + 65 - k' < first + 65 - k := by omega
            clear HE HR2 HJ hgot hr hts hk' e0 e1 e2 e3 hTr4
            go_wp2
            go_roundw
            case rel => exact HN.out
            case measure => simp [intOf]; omega
          · have HE : Hid (R = .er f' b'') := by unfold Hid; rw [HR2.out, HJ.out, hr]
            have hd2 : (f' != 0) = true := by simpa using hf'
            have HKK : Hid (k' = i + (b - b'')) := by unfold Hid; have := HK.out; omega
            clear HR2 HJ hgot hr hk'
            go_wp2
            rw [HRR.out, HE.out, HKK.out]
            exact bodyPost_ret (v := .tuple #[exV 0 0 [] none 0 0, .int .i64 f', .int .i64 ((i + (b - b'') : Nat) : Int)]) (by simp [results, Tryz.results45, go_sem, exV, r0, r1, r2, r3, hnl4]) rfl
              (upost_er hf' (by omega) ((below_set4 hB4 (Nat.le_refl _) _ _ _ _).alloc (below_set4 hB4 (Nat.le_refl _) _ _ _ _).size _))
    · injection hff with _ hff
      subst hff
      have hd : (f == 0) = false := by simpa using hz
      obtain ⟨r0, r1, r2, r3, s0, s1, s2, s3⟩ := hxn.four
      have hnl := hxn.lt
      have HR := Lib.hid hR
      clear hR
      go_wp2
      rw [HRR.out, HR.out]
      exact bodyPost_ret (v := .tuple #[exV 0 0 [] none 0 0, .int .i64 f, .int .i64 ((i + (b - b') : Nat) : Int)]) (by simp [results, Tryz.results45, go_sem, exV, r0, r1, r2, r3]) rfl
        (upost_er hz hb' (below_set4 hbw (Nat.le_refl _) _ _ _ _))
end Go.Proofs.YtinocaggponpmaaGreatDoor.Ep

namespace Go.Proofs.YtinocaggponpmaaGreatDoor.Ep
open Go.RowKit Lx

/-- Two operands under an operator, in a row that was just made. -/
theorem tree_next {w3 V : World} {S1 S2 S : Nat → Prop} {t tr : Ex} {ta a : Option Addr} {tcap cp : Nat} {o : Int} {b0 b1 : Int} {bs : ByteArray} {b3 : Value} (hsz : V.heap.size = w3.heap.size) (hbk : ∀ q, (S1 q ∨ S2 q) → q < w3.heap.size → V.heap[q]? = w3.heap[q]?)
    (h1 : TreeV S1 w3 t (exV t.op t.n t.name ta t.kids.length tcap)) (h2 : TreeV S2 w3 tr (exV tr.op tr.n tr.name a tr.kids.length cp)) (hS : ∀ q, S1 q ∨ S2 q ∨ q = w3.heap.size + 1 → S q) :
    TreeV S ((V.alloc (.cells #[.int .i64 b0, .int .i64 b1, .string bs, b3] 25)).alloc (.cells #[.int .i64 t.op, .int .i64 t.n, .string ⟨t.name.toArray⟩, .slice ta t.kids.length tcap, .int .i64 tr.op, .int .i64 tr.n, .string ⟨tr.name.toArray⟩, .slice a tr.kids.length cp] 25))
      (.mk o 0 [] [t, tr]) (exV o 0 [] (some ⟨w3.heap.size + 1, 0, none⟩) 2 2) := by
  have g1 := TreeV.keep (w' := V) (by omega) (fun q hq hlt => hbk q (Or.inl hq) hlt) _ _ h1
  have g2 := TreeV.keep (w' := V) (by omega) (fun q hq hlt => hbk q (Or.inr hq) hlt) _ _ h2
  have hrow := Box.new (V.alloc (.cells #[.int .i64 b0, .int .i64 b1, .string bs, b3] 25)) 25 #[.int .i64 t.op, .int .i64 t.n, .string ⟨t.name.toArray⟩, .slice ta t.kids.length tcap, .int .i64 tr.op, .int .i64 tr.n, .string ⟨tr.name.toArray⟩, .slice a tr.kids.length cp]
  have e4 : (V.alloc (.cells #[.int .i64 b0, .int .i64 b1, .string bs, b3] 25)).heap.size = w3.heap.size + 1 := by simp [hsz]
  rw [e4] at hrow
  exact tree_two hrow (TreeV.low (fun q hq => hS q (Or.inl hq)) _ _ ((g1.alloc _).alloc _)) (TreeV.low (fun q hq => hS q (Or.inr (Or.inl hq))) _ _ ((g2.alloc _).alloc _)) (hS _ (Or.inr (Or.inr rfl))) o
/-- One operator at most. -/
def pairGo (F : Nat → List Tok → Res) (lv : Int) (t : Ex) (b : Nat) (ts : List Tok) : Res := if operT ts lv 2 < 0 then .ok t b ts else joinR F lv t b ts
theorem pair_ok {F : Nat → List Tok → Res} {lv : Int} {b b' : Nat} {ts ts' : List Tok} {t : Ex} (h : F b ts = .ok t b' ts') : pairT F lv b ts = pairGo F lv t b' ts' := by
  unfold pairT pairGo joinR
  rw [h]
  simp only
  split
  · rfl
  · split
    · rfl
    · cases F (b' - 1) ts'.tail <;> rfl
theorem two_ln3 (ts : List Tok) (w : World) :
    Calls Tryz.prog 76 #[.int .i64 3, Eu.tokV (nextT ts)] w (Eu.Val (.int .i64 (operT ts 2 2)) w) := Eu.two_all ts 2 w (by omega) (by omega)
set_option maxRecDepth 100000 in
set_option maxHeartbeats 4000000 in
theorem uread_pair (g c : Nat) (L : List Tok) (first : Nat) (F : Nat → List Tok → Res) (D : Nat) (hF : URead g c L first 4 F D) (hl : L.length ≤ 3000) (hc : L.length ≤ c) (hfi : first ≤ 3000) :
    URead g c L first 3 (pairT F 2) D := by
  intro i b w hD hb hib hT
  have hT0 := Toks.alloc hT (.cells #[.int .i64 0, .int .i64 0, .string ⟨#[]⟩, .slice none 0 0] 25)
  have HF := Lib.hid hF
  clear hF
  go_enter Tryz.func45, Tryz.ntmps45
  go_wp2_with fail
  refine (HF.out i b _ hD hb hib hT0).mono ?_
  intro e w1 hpost
  obtain ⟨z0, z1, s, a, n, cp, f, k, rfl, hgot⟩ := upost_got hpost
  clear hpost
  have HC := Lib.hid (drel_start (G := fun _ => pairGo F 2) (R := pairT F 2 b (L.drop i)) hT (fun t b' ts h => ⟨b' + 1, by omega, pair_ok h⟩) (fun f b' h => by unfold pairT; rw [h]) hgot)
  have hw1 : w.heap.size < w1.heap.size := by have := hgot.below.size; simp at this; omega
  clear hgot hT0
  generalize hRR : pairT F 2 b (L.drop i) = R at HC
  have HRR := Lib.hid hRR
  clear hRR
  go_wp2
  go_loopw [13] (fun y wr => DRel (fun q => w.heap.size + 1 ≤ q ∧ q ≠ w1.heap.size) g L (fun _ => pairGo F 2) i b w w.heap.size w1.heap.size R (.int .i64 f) y wr) (fun y _ => first + 65 - (intOf y).toNat)
  case atStart => exact HC.out
  case round =>
    clear HC
    obtain ⟨hbw, hTw, hxn, hnm, hml, hst⟩ := hrel
    rcases hst with ⟨t, ta, tcap, b', fuel, hff, rfl, hb', hfu, hR, hxm, hTr⟩ | ⟨z, b', hff, hz, rfl, hb', hR⟩
    · injection hff with _ hff
      subst hff
      have HR := Lib.hid hR
      clear hR
      have hk1 : i + (b - b') ≤ first + 64 := by omega
      have HKE : Hid (i + (b - b') = first + 64 - b') := by unfold Hid; omega
      generalize hk : i + (b - b') = k at *
      have HK := Lib.hid hk
      clear hk
      go_wp2_with fail
      refine (Eu.token_all g c L k _ hTw hl hc).mono ?_
      rintro e w2 ⟨rfl, hb2⟩
      go_wp2_with fail
      refine (two_ln3 (L.drop k) _).mono ?_
      rintro e w3 ⟨rfl, hb3⟩
      have hb23 := hb2.trans (hb3.mono hb2.size)
      have hTw3 := hTw.below hb23
      have hxn3 := hxn.below hb23 hxn.lt
      have hxm3 := hxm.below hb23 hxm.lt
      have hB3 := hbw.trans (hb23.mono hbw.size)
      have hTr3 := TreeV.below hTr hb23 (Nat.le_refl _)
      clear hb2 hb3 hb23 hTw hxn hxm hbw hTr hml
      obtain ⟨r0, r1, r2, r3, s0, s1, s2, s3⟩ := hxn3.four
      obtain ⟨c0, c1, c2, c3, f0, f1, f2, f3⟩ := hxm3.four
      have hnl := hxn3.lt
      have hml := hxm3.lt
      have HO : Hid (operT (L.drop k) 2 2 < 0 ∨ ¬ operT (L.drop k) 2 2 < 0) := Lib.hid (by omega)
      rcases HO.out with ho | ho
      · have hd : decide (operT (L.drop k) 2 2 < 0) = true := by simpa using ho
        have HE : Hid (R = .ok t b' (L.drop (i + (b - b')))) := by unfold Hid; rw [HK.out, HR.out]; show pairGo _ _ _ _ _ = _; rw [pairGo, if_pos ho]
        clear ho HR HO
        generalize operT (L.drop k) 2 2 = o at *
        go_wp2
        rw [HRR.out, HE.out, ← HK.out]
        exact bodyPost_ret (v := .tuple #[exV t.op t.n t.name ta t.kids.length tcap, .int .i64 0, .int .i64 ((i + (b - b') : Nat) : Int)]) (by simp [results, Tryz.results45, go_sem, exV, r0, r1, r2, r3]) rfl
          (upost_ok hb' rfl (TreeV.low (fun k hk => by omega) _ _ (TreeV.keep (by rw [size4]; exact Nat.le_refl _) (fun q hq _ => block4 _ _ _ _ _ _ _ (by omega)) _ _ hTr3)) (below_set4 hB3 (Nat.le_refl _) _ _ _ _))
      · have hd : decide (operT (L.drop k) 2 2 < 0) = false := by simpa using ho
        have HR2 : Hid (R = joinR F 2 t b' (L.drop k)) := by unfold Hid; rw [HR.out]; show pairGo _ _ _ _ _ = _; rw [pairGo, if_neg ho]
        clear ho HR HO
        by_cases h0 : b' = 0
        · have hge : decide ((64 : Int) ≤ (k : Int) - (first : Int)) = true := decide_eq_true (by have := HKE.out; omega)
          have HE : Hid (R = .er 2 0) := by unfold Hid; rw [HR2.out, joinR, if_pos h0]
          clear HR2
          generalize operT (L.drop k) 2 2 = o at *
          go_wp2
          rw [HRR.out, HE.out, ← HK.out, h0]
          exact bodyPost_ret (v := .tuple #[exV 0 0 [] none 0 0, .int .i64 2, .int .i64 ((i + (b - 0) : Nat) : Int)]) (by simp [results, Tryz.results45, go_sem, exV, r0, r1, r2, r3]) rfl
            (upost_er (by decide) (by omega) (below_set4 hB3 (Nat.le_refl _) _ _ _ _))
        · have hlt : decide ((64 : Int) ≤ (k : Int) - (first : Int)) = false := decide_eq_false (by have := HKE.out; omega)
          have HJ : Hid (joinR F 2 t b' (L.drop k) = match F (b' - 1) (L.drop (k + 1)) with | .er f b'' => .er f b'' | .ok r b'' ts' => .ok (.mk (operT (L.drop k) 2 2) 0 [] [t, r]) b'' ts') := by
            unfold Hid joinR; rw [if_neg h0, List.tail_drop]; cases F (b' - 1) (L.drop (k + 1)) <;> rfl
          have hka : k + 1 + (b' - 1) = first + 64 := by have := HKE.out; omega
          generalize hO : operT (L.drop k) 2 2 = o at *
          clear hO
          go_wp2_with fail
          refine (HF.out (k + 1) (b' - 1) _ (by omega) (by omega) hka hTw3).mono ?_
          intro e w4 hpost
          obtain ⟨z0', z1', s', a', n', cp', f', k', rfl, hgot⟩ := upost_got hpost
          clear hpost hka
          have hb4 := hgot.below
          have hxn4 := hxn3.below hb4 hnl
          have hxm4 := hxm3.below hb4 hml
          have hbx4 := Box.new w4 25 #[.int .i64 z0', .int .i64 z1', .string s', .slice a' n' cp']
          have hB4 := hB3.trans (hb4.mono hB3.size)
          have hml4 : w1.heap.size < w4.heap.size := Nat.lt_of_lt_of_le hml hb4.size
          have hnl4 : w.heap.size < w4.heap.size := Nat.lt_of_lt_of_le hnl hb4.size
          have hml5 : w1.heap.size < w4.heap.size + 1 := by omega
          have hnl5 : w.heap.size < w4.heap.size + 1 := by omega
          clear r0 r1 r2 r3 s0 s1 s2 s3 c0 c1 c2 c3 f0 f1 f2 f3
          obtain ⟨r0, r1, r2, r3, s0, s1, s2, s3⟩ := hxn4.four
          obtain ⟨c0, c1, c2, c3, f0, f1, f2, f3⟩ := hxm4.four
          obtain ⟨q0, q1, q2, q3, g0, g1, g2, g3⟩ := hbx4.four
          rcases hgot.what with ⟨rfl, tr, b'', ts, hr, hb'', hts, hk', e0, e1, e2, e3, hTr4⟩ | ⟨hf', b'', hr, hb'', hk', -⟩
          · have HE : Hid (R = .ok (.mk o 0 [] [t, tr]) b'' ts) := by unfold Hid; rw [HR2.out, HJ.out, hr]
            have HKK : Hid (k' = i + (b - b'')) := by unfold Hid; have := HK.out; omega
            have HTS : Hid (ts = L.drop (i + (b - b''))) := by unfold Hid; rw [hts]; congr 1; have := HK.out; omega
            have hsB : w.heap.size ≤ w3.heap.size := hB3.size
            subst e0 e1 e2 e3
            have HT := Lib.hid (fun (V : World) hsz hbk => tree_next (V := V) (S := fun q => w.heap.size ≤ q) (o := o) (b0 := tr.op) (b1 := tr.n) (bs := ⟨tr.name.toArray⟩) (b3 := .slice a' tr.kids.length cp') hsz hbk (TreeV.below hTr3 hb4 (Nat.le_refl _)) hTr4 (fun q hq => by omega))
            clear HR2 HJ hgot hr hts hk' hTr4 hTr3 hxm3 hxn3
            go_wp2
            rw [HRR.out, HE.out, HKK.out]
            refine bodyPost_ret (v := .tuple #[exV o 0 [] (some ⟨w4.heap.size + 1, 0, none⟩) 2 2, .int .i64 0, .int .i64 ((i + (b - b'') : Nat) : Int)]) (by simp [results, Tryz.results45, go_sem, exV, r0, r1, r2, r3, hnl4, hnl5]) rfl
              (upost_ok (by omega) HTS.out (HT.out _ ?_ ?_) (((below_set4 (below_set4 hB4 ?_ _ _ _ _) (Nat.le_refl _) _ _ _ _).alloc ?_ _).alloc ?_ _))
            · rw [size4, size4]
            · intro q hq hlt
              rw [block4 _ _ _ _ _ _ _ (by omega), block4 _ _ _ _ _ _ _ (by omega)]
            · omega
            · rw [size4, size4]; omega
            · simp [World.setCell]; omega
          · have HE : Hid (R = .er f' b'') := by unfold Hid; rw [HR2.out, HJ.out, hr]
            have hd2 : (f' != 0) = true := by simpa using hf'
            have HKK : Hid (k' = i + (b - b'')) := by unfold Hid; have := HK.out; omega
            clear HR2 HJ hgot hr hk'
            go_wp2
            rw [HRR.out, HE.out, HKK.out]
            exact bodyPost_ret (v := .tuple #[exV 0 0 [] none 0 0, .int .i64 f', .int .i64 ((i + (b - b'') : Nat) : Int)]) (by simp [results, Tryz.results45, go_sem, exV, r0, r1, r2, r3, hnl4]) rfl
              (upost_er hf' (by omega) ((below_set4 hB4 (Nat.le_refl _) _ _ _ _).alloc (below_set4 hB4 (Nat.le_refl _) _ _ _ _).size _))
    · injection hff with _ hff
      subst hff
      have hd : (f == 0) = false := by simpa using hz
      obtain ⟨r0, r1, r2, r3, s0, s1, s2, s3⟩ := hxn.four
      have hnl := hxn.lt
      have HR := Lib.hid hR
      clear hR
      go_wp2
      rw [HRR.out, HR.out]
      exact bodyPost_ret (v := .tuple #[exV 0 0 [] none 0 0, .int .i64 f, .int .i64 ((i + (b - b') : Nat) : Int)]) (by simp [results, Tryz.results45, go_sem, exV, r0, r1, r2, r3]) rfl
        (upost_er hz hb' (below_set4 hbw (Nat.le_refl _) _ _ _ _))
end Go.Proofs.YtinocaggponpmaaGreatDoor.Ep
