/-
  The contracts of page.divide, slices.Clone, bytes.Equal and page.Read.
-/
import Derived.Test.YthgoapcafjijfaaPgW2
namespace Go.Proofs.Ythgoapcafjijfaa.Pg
open Go.RowKit

/-- Contents end where their rooms do. -/
def Tight (xs : List Value) : Prop := ∀ i A n c, xs[i * 2 + 1]? = some (.slice A n c) → n = c
theorem Tight.nil_ : Tight [] := fun i A n c h => by simp at h
theorem Tight.snoc {xs : List Value} (h : Tight xs) (k : Nat) (hk : xs.length = k * 2) (v : Value) (A : Option Addr) (n : Nat) : Tight (xs ++ [v, .slice A n n]) := fun i B m c hi => by
  by_cases hl : i < k
  · rw [List.getElem?_append_left (by omega)] at hi
    exact h i B m c hi
  · rw [List.getElem?_append_right (by omega)] at hi
    by_cases hik : i = k
    · subst hik
      rw [show i * 2 + 1 - xs.length = 1 by omega] at hi
      simp at hi
      omega
    · rw [List.getElem?_eq_none (by simp; omega)] at hi
      cases hi

/-- Records of a row of one's own, their contents in one block, each with no room behind. -/
def OwnRecs (base gC : Nat) (w : World) (A : Option Addr) (c : Nat) (l : List Rec) : Prop :=
  ∃ xs, w.ownsRow base 37 2 (.slice A l.length c) l.length xs ∧ PCells (fun b => b ≠ gC) w l xs ∧ Tight xs
def DivPost (o : Option (List Rec)) (gC : Nat) (w : World) (e : Ending) (w' : World) : Prop :=
  (∃ l A c, o = some l ∧ e = .returned (.tuple #[.slice A l.length c, .bool true]) ∧ OwnRecs w.heap.size gC w' A c l ∧ Below w.heap.size w w') ∨
  (o = none ∧ e = .returned (.tuple #[.slice none 0 0, .bool false]) ∧ Below w.heap.size w w')
def DivRel (b : List UInt8) (gC : Nat) (w : World) (v a i : Value) (wr : World) : Prop :=
  ∃ (k q : Nat) (A : Option Addr) (c : Nat) (acc : List Rec), i = .int .i64 (k : Int) ∧ a = .int .i64 (q : Int) ∧ v = .slice A k c ∧ acc.length = k ∧ k ≤ gb b 0 ∧ q ≤ 256 ∧
    divP b (gb b 0) 1 = (divP b (gb b 0 - k) q).map (acc ++ ·) ∧ OwnRecs w.heap.size gC wr A c acc ∧ Below w.heap.size w wr

theorem cut_lie {w : World} {g : Nat} {b : List UInt8} (h : ∀ j, j < b.length → w.cell? ⟨g, j, none⟩ = some (.int .u8 ((gb b j : Nat) : Int))) (hg : g < w.heap.size) {i j : Nat} (hij : i ≤ j) (hj : j ≤ b.length) {A : Option Addr} (hA : i < j → A = some ⟨g, i, none⟩) : LieX (fun k => k ≠ g) w A (cutB b i j) := fun hl => by
  rw [cut_len hij hj] at hl
  refine ⟨⟨g, i, none⟩, hA (by omega), hg, by simp, fun k hk => ?_⟩
  rw [cut_len hij hj] at hk
  have e : (⟨g, i, none⟩ : Addr).add k = ⟨g, i + k, none⟩ := by unfold Addr.add; split <;> simp_all
  rw [e, h (i + k) (by omega)]
  have e2 : gb b (i + k) = ((cutB b i j)[k]'(by rw [cut_len hij hj]; exact hk)).toNat := by
    unfold gb cutB
    rw [List.getElem_take, List.getElem_drop, List.getD_eq_getElem?_getD, List.getElem?_eq_getElem (by omega)]
    rfl
  rw [e2]

theorem div_end {b : List UInt8} {gC N0 : Nat} {w wr w2 : World} {A A' A2 : Option Addr} {c c' C E : Nat} {acc : List Rec} {p : Rec} {xs : List Value} {kk : ByteArray} {cs : Array Value}
    (hgr : gC < wr.heap.size) (hg : gC < w.heap.size) (hw : Below w.heap.size w wr) (ho : wr.ownsRow w.heap.size 37 2 (.slice A acc.length c) acc.length xs) (hpc : PCells (fun b => b ≠ gC) wr acc xs) (htt : Tight xs)
    (hrec : p = (kk, cutB b C E)) (hl2n : (cutB b C E).length = E - C) (l2 : LieX (fun k => k ≠ gC) wr A2 (cutB b C E)) (hsz : N0 ≤ maxLen) (hk : kk.size ≤ maxLen)
    (ho2 : w2.ownsRow w.heap.size 37 2 (.slice A' (acc.length + 1) c') (acc.length + 1) (xs ++ [.string kk, .slice A2 (E - C) (E - C)]))
    (hg2 : (wr.drew.alloc (.cells cs 37)).grownBy w2 (Value.slice A acc.length c).ownBlock) (hle : E - C = N0) :
    OwnRecs w.heap.size gC w2 A' c' (acc ++ [p]) ∧ Below w.heap.size w w2 := by
  subst hrec
  have e1 : (wr.drew.alloc (.cells cs 37)).heap.size = wr.drew.heap.size + 1 := by simp
  have e2 : wr.drew.heap.size = wr.heap.size := rfl
  have e3 := hw.size
  have hf : Fr (fun b => b ≠ gC) wr w2 := by
    refine ⟨hg2.os, hg2.tape, hg2.output, Nat.le_trans (by omega) hg2.size, fun k hk hs => ?_⟩
    have : k = gC := by simpa using hs
    subst this
    rw [hg2.block k (by omega) (fun e => by have := (ho.lt k e.symm).1; omega)]
    exact Below.heap_alloc wr.drew _ k hk
  refine ⟨⟨xs ++ [.string kk, .slice A2 (E - C) (E - C)], ?_, ?_, htt.snoc acc.length hpc.1 _ _ _⟩, ?_⟩
  · rw [List.length_append, List.length_singleton]
    exact ho2
  · refine (hpc.fr hf).append (PCells.one ⟨A2, E - C, rfl, by show _ = Value.slice A2 (cutB b C E).length _; rw [hl2n], by show (cutB b C E).length ≤ _; omega, by omega, l2.fr hf, hk⟩)
  · exact (hw.drew.alloc (by exact hw.size) (.cells cs 37)).grown hg2 (by omega) (fun k hk => (ho.lt k hk).1)

set_option maxRecDepth 100000 in
set_option maxHeartbeats 4000000 in
theorem divide_all (b : List UInt8) (gC cC : Nat) (w : World) (hb : b.length = 256) (hL : ∀ j, j < 256 → w.cell? ⟨gC, j, none⟩ = some (.int .u8 ((gb b j : Nat) : Int))) (hg : gC < w.heap.size) (hc : 256 ≤ cC) (_hm : cC ≤ maxLen) :
    Calls Try.prog 23 #[.slice (some ⟨gC, 0, none⟩) 256 cC] w (DivPost (divP b (gb b 0) 1) gC w) := by
  have hn := gb_lt b 0
  have c0 := hL 0 (by omega)
  have HD : Hid (divP b (gb b 0) 1 = (divP b (gb b 0 - 0) 1).map ([] ++ ·)) := by
    show _ = _
    cases divP b (gb b 0) 1 <;> simp
  go_enter Try.func23, Try.ntmps23
  go_wp2
  go_loopw [4, 5, 13] (DivRel b gC w) (fun _ _ i _ => gb b 0 - (intOf i).toNat)
  case atStart => exact ⟨0, 1, none, 0, [], rfl, rfl, rfl, rfl, by omega, by omega, HD.out, ⟨[], World.ownsRow_nil _ _ _ _, PCells.nil_, Tight.nil_⟩, Below.refl _ _⟩
  case round =>
    clear HD
    obtain ⟨k, q, A, c, acc, rfl, rfl, rfl, rfl, hk, hq, hdv, how, hw⟩ := hrel
    clear c0
    have hLr : ∀ j, j < 256 → wr.cell? ⟨gC, j, none⟩ = some (.int .u8 ((gb b j : Nat) : Int)) := fun j hj => (hw.cell (p := ⟨gC, j, none⟩) hg).trans (hL j hj)
    have hgr : gC < wr.heap.size := Nat.lt_of_lt_of_le hg hw.size
    generalize hN : gb b 0 = N at *
    by_cases hlt : acc.length < N
    · obtain ⟨r, hr⟩ : ∃ r, N - acc.length = r + 1 := ⟨N - acc.length - 1, by omega⟩
      rw [hr] at hdv
      by_cases hs : b.length < q + 2
      · rw [div_short hs] at hdv
        have HN := Lib.hid hdv
        have hq2 : 256 < q + 2 := by omega
        clear hdv hL hLr how hr hs hb
        go_wp2
        all_goals first | (exfalso; omega) | skip
        go_ret2
        exact .inr ⟨HN.out, rfl, hw⟩
      · have c1 := hLr q (by omega)
        have c2 := hLr (q + 1) (by omega)
        have x0 := gb_lt b q
        have x1 := gb_lt b (q + 1)
        by_cases ht : b.length < endA b q
        · rw [div_long hs ht] at hdv
          have HN := Lib.hid hdv
          have hq2 : ¬ 256 < q + 2 := by omega
          unfold endA at ht
          rw [hb] at ht
          clear hdv hL hLr how hr hs hb
          generalize gb b q = n0 at *
          generalize gb b (q + 1) = n1 at *
          have wK : IntKind.i64.wrap ((q : Int) + 2 + (n0 : Int)) = (q : Int) + 2 + (n0 : Int) := by rw [IntKind.wrap_i64]; omega
          have wE : IntKind.i64.wrap ((q : Int) + 2 + (n0 : Int) + (n1 : Int)) = (q : Int) + 2 + (n0 : Int) + (n1 : Int) := by rw [IntKind.wrap_i64]; omega
          go_wp2
          all_goals first | (exfalso; omega) | skip
          go_ret2
          exact .inr ⟨HN.out, rfl, hw⟩
        · rw [div_step hs ht] at hdv
          obtain ⟨K, hK⟩ : ∃ K, K = q + 2 := ⟨_, rfl⟩
          obtain ⟨C, hC⟩ : ∃ C, C = K + gb b q := ⟨_, rfl⟩
          obtain ⟨E, hE⟩ : ∃ E, E = C + gb b (q + 1) := ⟨_, rfl⟩
          have hEA : endA b q = E := by unfold endA; omega
          rw [hEA] at ht hdv
          have hE2 : E ≤ 256 := by omega
          obtain ⟨A1, hA1⟩ : ∃ A1 : Option Addr, (if cC = K then some (⟨gC, 0, none⟩ : Addr) else some ⟨gC, K, none⟩) = A1 := ⟨_, rfl⟩
          obtain ⟨A2, hA2⟩ : ∃ A2 : Option Addr, (if E = C then some (⟨gC, 0, none⟩ : Addr) else some ⟨gC, C, none⟩) = A2 := ⟨_, rfl⟩
          have l1 : LieX (fun k => k ≠ gC) wr A1 (cutB b K C) := cut_lie (by rw [hb]; exact hLr) hgr (by omega) (by omega) (fun h => by rw [← hA1, if_neg (by omega)])
          have l2 : LieX (fun k => k ≠ gC) wr A2 (cutB b C E) := cut_lie (by rw [hb]; exact hLr) hgr (by omega) (by omega) (fun h => by rw [← hA2, if_neg (by omega)])
          have hrec : recA b q = (⟨(cutB b K C).toArray⟩, cutB b C E) := by
            unfold recA
            rw [← hK, ← hC, ← hE]
          have hcv := conv_lie (cC - K) l1.lie.drew
          rw [cut_len (by omega) (by omega)] at hcv
          have hl2n : (cutB b C E).length = E - C := cut_len (by omega) (by omega)
          obtain ⟨xs, ho, hpc, htt⟩ := how
          obtain ⟨A', c', w2, hr2, ho2, hg2, hl2⟩ := run_append_rec (.string ⟨(cutB b K C).toArray⟩) (.slice A2 (E - C) (E - C)) rfl rfl ho.drew (by omega) (by exact hw.size)
          obtain ⟨hnx, hBn⟩ := div_end (p := recA b q) hgr hg hw ho hpc htt hrec hl2n l2 (N0 := E - C) (by unfold maxLen; omega) (by show (cutB b K C).toArray.size ≤ maxLen; rw [List.size_toArray, cut_len (by omega) (by omega)]; unfold maxLen; omega) ho2 hg2 rfl
          have hdv2 : divP b N 1 = (divP b (N - (acc.length + 1)) E).map ((acc ++ [recA b q]) ++ ·) := by
            rw [hdv, show N - (acc.length + 1) = r by omega]
            cases divP b r E <;> simp
          have HDV := Lib.hid hdv2
          have HNX := Lib.hid hnx
          have HR := Lib.hid hr2
          have HCV := Lib.hid hcv
          clear hdv2 hnx hr2 hdv hrec l1 l2 hl2n ho hpc htt ho2 hg2 hl2 hL hLr hr hs ht hEA hcv
          generalize (cutB b K C).toArray = kk at *
          generalize recA b q = pp at *
          generalize gb b q = n0 at *
          generalize gb b (q + 1) = n1 at *
          have u1 : (q : Int) + 2 = (K : Int) := by omega
          have u2 : IntKind.i64.wrap ((K : Int) + (n0 : Int)) = (C : Int) := by rw [IntKind.wrap_i64]; omega
          have u3 : IntKind.i64.wrap ((C : Int) + (n1 : Int)) = (E : Int) := by rw [IntKind.wrap_i64]; omega
          have v1 : ¬ (256 : Int) < (K : Int) := by omega
          have v2 : ¬ (256 : Int) < (E : Int) := by omega
          have v3 : (K : Int) ≤ (C : Int) := by omega
          have v4 : (C : Int) ≤ (E : Int) := by omega
          have v5 : (C : Int) ≤ (cC : Int) := by omega
          have v6 : (E : Int) ≤ (cC : Int) := by omega
          have v7 : (0 : Int) ≤ (K : Int) := by omega
          have v8 : (0 : Int) ≤ (C : Int) := by omega
          clear hK hC hE hb
          have hcv := HCV.out
          go_wp2_with fail
          go_region_law (refine step_append_run (by rfl) _ _ _ _ (by rfl) (by rfl) (by rfl) HR.out ?_)
          clear HR HCV hcv hA1 hA2
          go_wp2
          go_roundw
          case rel => exact ⟨acc.length + 1, E, A', c', acc ++ [pp], by go_num, rfl, rfl, by simp, by omega, hE2, by rw [hN]; exact HDV.out, HNX.out, hBn⟩
          case measure => simp [intOf]; omega
    · have hz : N - acc.length = 0 := by omega
      rw [hz] at hdv
      have HDV : Hid (divP b N 1 = some acc) := by
        show _ = _
        rw [hdv]
        simp [divP]
      have hnl : ¬ (acc.length : Int) < (N : Int) := by omega
      have HOW := Lib.hid how
      clear hdv hL hLr hz how
      go_wp2
      all_goals first | (exfalso; omega) | skip
      go_ret2
      exact .inl ⟨acc, A, c, HDV.out, rfl, HOW.out, hw⟩

def ClonePost (l : List UInt8) (w : World) (e : Ending) (w' : World) : Prop :=
  ∃ A c, e = .returned (.slice A l.length c) ∧ w'.ownsRow w.heap.size 5 1 (.slice A l.length c) l.length (u8C l) ∧ Below w.heap.size w w'
theorem own_empty (w : World) (fr : World) (h : fr = w.alloc (.cells #[] 5)) : fr.ownsRow w.heap.size 5 1 (.slice (some ⟨w.heap.size, 0, none⟩) 0 0) 0 [] := by
  subst h
  exact ⟨rfl, .inr ⟨w.heap.size, 0, #[], rfl, Nat.le_refl _, heap_alloc_new w _, Nat.le_refl _, by unfold maxLen; omega, rfl, rfl⟩⟩
set_option maxHeartbeats 1000000 in
theorem clone_all (A : Option Addr) (l : List UInt8) (c : Nat) (w : World) (hl : Lie w A l) (hs : l.length ≤ 140737488355328) (h0 : 0 < l.length) :
    Calls Try.prog 24 #[.slice A l.length c] w (ClonePost l w) := by
  obtain ⟨ad, rfl, _⟩ := hl h0
  have hnil : ∀ w : World, (binOp .eql 25 (.slice (some ad) l.length c) (.slice none 0 0)).run Try.prog w = .ok (.bool false) w := fun w => Lib.run_eql_slice_nil (P := Try.prog) w 25 5 (some ad) l.length c 0 0 Try.underlying25
  go_enter Try.func24, Try.ntmps24
  go_wp2_with (at_builtin; refine wpList_append_lie rfl (.tmp 5) (.tmp 6) rfl rfl (own_empty w _ rfl) rfl (hl.alloc _) ?c1 ?c2 ?c3 ?_)
  case c1 => unfold maxLen; omega
  case c2 => omega
  case c3 => simp
  intro A' c' w1 hown hgr hat
  go_wp2
  go_ret
  exact ⟨A', c', rfl, hown, ((Below.refl _ w).alloc (Nat.le_refl _) _).grown hgr (by simp) (fun k hk => by simp [Value.ownBlock] at hk; omega)⟩

set_option maxRecDepth 100000 in
set_option maxHeartbeats 400000 in
theorem equal_all (A B : Option Addr) (a b : List UInt8) (c c' : Nat) (w : World) (h1 : Lie w A a) (h2 : Lie w B b) :
    Calls Try.prog 25 #[.slice A a.length c, .slice B b.length c'] w (Same (.bool (decide (a = b))) w) := by
  have v1 := conv_lie c h1
  have v2 := conv_lie c' h2
  clear h1 h2
  go_enter Try.func25, Try.ntmps25
  go_wp2
  go_ret
  refine ⟨ret_bool ?_, rfl⟩
  by_cases e : a = b
  · subst e
    simp
  · simp [e]
theorem full_lie {w : World} {g : Nat} {t : TypeId} {l : List UInt8} (h : Box w g t (u8C l).toArray) : Lie w (some ⟨g, 0, none⟩) l := fun _ =>
  ⟨_, rfl, h.lt, fun j hj => by rw [lit_add, h.cell j]; simp [u8C, List.getElem?_eq_getElem hj]⟩
end Go.Proofs.Ythgoapcafjijfaa.Pg
