/-
  WalAgain, walked.
-/
import Derived.Test.YtkklplccngdalaaWlL5
namespace Go.Proofs.Ytkklplccngdalaa.Dk
open Go.RowKit

set_option maxRecDepth 100000 in
set_option maxHeartbeats 1000000 in
/-- The law asks nothing. -/
theorem again_out (A A2 : Option Addr) (l : List Gp) (c : Nat) (cut : Int) (cuts : List Int) (c2 : Nat) (w : World) (hc : l.length ≤ c) (hm : c ≤ maxLen) (hl : Gps w.heap.size w A l) (hno : ¬ smallP l 6 ∨ 6 < cuts.length) :
    Calls Try.prog 6 #[.slice A l.length c, .int .i64 cut, .slice A2 cuts.length c2] w (TruePost w) := by
  have HA := Lib.hid (awake_all w)
  have HS : Hid (∀ w', Below w.heap.size w w' → Calls Try.prog 11 #[.slice A l.length c, .int .i64 6] w' (Same (.bool (decide (smallP l 6))) w')) := fun w' hb => small_all _ A l c 6 w' (hl.below hb) hc hm (by omega)
  have HO : Hid (∀ w, Calls Try.prog 12 #[.int .i64 60] w (OpenedPost 60 w)) := fun w => opened_all 60 60 w rfl (by omega) (by omega)
  clear hl
  by_cases hs : smallP l 6
  · have h6 : 6 < cuts.length := hno.resolve_left fun h => h hs
    rw [decide_eq_true hs] at HS
    have b1 : decide ((6 : Int) < (cuts.length : Int)) = true := by simp; omega
    clear hno
    go_enter Try.func6, Try.ntmps6
    go_wp2_with fail
    refine HA.out.mono ?_
    rintro e w1 ⟨rfl, hb1⟩
    go_wp2_with fail
    refine (HS.out _ hb1).mono ?_
    rintro e w' ⟨rfl, rfl⟩
    go_wp2_with fail
    refine (HO.out _).mono ?_
    rintro e w2 ⟨g, s, q, rfl, _, _, _, _, hb2⟩
    have hb3 := hb1.trans (hb2.mono hb1.size)
    clear hb1 hb2 HA HS HO
    go_wp2
    all_goals first | (exfalso; omega) | skip
    go_ret
    exact ⟨rfl, hb3⟩
  · rw [decide_eq_false hs] at HS
    clear hno
    go_enter Try.func6, Try.ntmps6
    go_wp2_with fail
    refine HA.out.mono ?_
    rintro e w1 ⟨rfl, hb1⟩
    go_wp2_with fail
    refine (HS.out _ hb1).mono ?_
    rintro e w' ⟨rfl, rfl⟩
    go_wp2_with fail
    refine (HO.out _).mono ?_
    rintro e w2 ⟨g, s, q, rfl, _, _, _, _, hb2⟩
    have hb3 := hb1.trans (hb2.mono hb1.size)
    clear hb1 hb2 HA HS HO
    go_wp2
    go_ret
    exact ⟨rfl, hb3⟩

/-- Behind groups, each cut off or not: a log that is dead, or in use. -/
def AgRel (l : List Gp) (q g s : Nat) (w : World) (i : Value) (wr : World) : Prop :=
  ∃ (k : Nat) (D : Dsk) (b : Bool) (M : List (List UInt8)), i = .int .i64 (k : Int) ∧ k ≤ l.length ∧ Lg wr q g s D b ∧ D.L.length = 60 ∧ Inv 60 D.L M ∧ ((b || !D.on) = false → St 60 D.L M) ∧ i64 D.left ∧ 0 ≤ D.wr ∧ D.wr ≤ 20000 * k ∧ Below w.heap.size w wr
/-- What was read so far. -/
def RdRel (M : List (List UInt8)) (q g s : Nat) (D : Dsk) (w : World) (v i : Value) (wr : World) : Prop :=
  ∃ (k : Nat) (A : Option Addr) (c : Nat), i = .int .i64 (k : Int) ∧ v = .slice A k c ∧ k ≤ M.length ∧ Lg wr q g s D false ∧ wr.ownsRow w.heap.size 9 1 (.slice A k c) k ((M.take k).map fun x => Value.string ⟨x.toArray⟩) ∧ (∀ b, (Value.slice A k c).ownBlock = some b → ¬ Tri q g s b) ∧ Below w.heap.size w wr

/-- A Commit of whatever group, by a log of whatever state. -/
def AnyPost (n q g s : Nat) (d : Dsk) (w : World) (e : Ending) (w' : World) : Prop :=
  ∃ (v : Value) (D : Dsk) (b : Bool) (M : List (List UInt8)), e = .returned v ∧ Lg w' q g s D b ∧ D.L.length = n ∧ Inv n D.L M ∧ ((b || !D.on) = false → St n D.L M) ∧ i64 D.left ∧ d.wr ≤ D.wr ∧ D.wr ≤ d.wr + 10000 ∧ Fr (Tri q g s) w w'
theorem commit_any {w : World} {q g s n : Nat} {d : Dsk} {b : Bool} {l : List GI} {M : List (List UInt8)} {A : Option Addr} (c : Nat) (h : Lg w q g s d b) (hL : d.L.length = n) (hn : 4 ≤ n) (h2048 : n ≤ 2048) (hI : Inv n d.L M) (hS : (b || !d.on) = false → St n d.L M) (hG : Grp (Tri q g s) w A l) (hc : l.length ≤ c) (hm : c ≤ maxLen) (hi : i64 d.left) (hwr : 0 ≤ d.wr ∧ d.wr ≤ 1000000) :
    Calls Try.prog 17 #[.pointer (some ⟨q, 0, none⟩), .slice A l.length c] w (AnyPost n q g s d w) := by
  cases hd : (b || !d.on)
  · have hb : b = false := by cases b <;> simp_all
    have ho : d.on = true := by cases h : d.on <;> simp_all
    subst hb
    by_cases hok : okG (room n) l
    · refine (commit_inv c h ho hL hn h2048 (hS hd) hG hok hc hm hi (by omega)).mono ?_
      rintro e w' ⟨D, a1, a2, a3, a4, a5, a6⟩
      rcases a6 with ⟨o1, S1, rfl, L1, _, _⟩ | ⟨o1, _, _, rfl, L1, I1⟩
      · exact ⟨_, D, false, _, rfl, L1, a1, .inl S1, fun _ => S1, a2, a3, a4, a5⟩
      · by_cases hif : ((l.length + nIx l + 1 : Nat) : Int) ≤ d.left
        · rw [if_pos hif] at I1
          exact ⟨_, D, true, _, rfl, L1, a1, I1, fun h => by simp at h, a2, a3, a4, a5⟩
        · rw [if_neg hif] at I1
          exact ⟨_, D, true, _, rfl, L1, a1, I1, fun h => by simp at h, a2, a3, a4, a5⟩
    · refine (commit_bad c h ho hG (by rw [hL]; exact hok) hc hm).mono ?_
      rintro e w' ⟨rfl, L1, f1⟩
      exact ⟨_, d, false, M, rfl, L1, hL, hI, fun _ => hS hd, hi, Int.le_refl _, by omega, f1⟩
  · refine (commit_dead l.length c h hd).mono ?_
    rintro e w' ⟨rfl, L1, f1⟩
    exact ⟨_, d, true, M, rfl, L1, hL, hI, fun h => by simp at h, hi, Int.le_refl _, by omega, f1⟩

theorem own_fr {S : Nat → Prop} {w w' : World} {base : Nat} {e : TypeId} {size : Nat} {v : Value} {n : Nat} {xs : List Value} (h : w.ownsRow base e size v n xs) (hf : Fr S w w') (hn : ∀ b, v.ownBlock = some b → ¬ S b) : w'.ownsRow base e size v n xs := by
  refine ⟨h.1, ?_⟩
  rcases h.2 with h | ⟨g, cap, cur, hv, hbg, hh, r⟩
  · exact .inl h
  · refine .inr ⟨g, cap, cur, hv, hbg, (hf.block g (Array.getElem?_eq_some_iff.1 hh).1 (hn g ?_)).trans hh, r⟩
    rw [hv]
    rfl
theorem Lg.grown {w w' : World} {q g s : Nat} {d : Dsk} {b : Bool} {row : Option Nat} (h : Lg w q g s d b) (hg : w.grownBy w' row) (hn : ∀ k, row = some k → ¬ Tri q g s k) : Lg w' q g s d b :=
  h.fr (S := fun k => some k = row) ⟨hg.os, hg.tape, hg.output, hg.size, fun k hk hs => hg.block k hk hs⟩ (fun k hk e => hn k e.symm hk)
/-- append(own, x): one text onto a row of one's own, and where it lies. -/
theorem run_append_str2 {w : World} {base : Nat} {A : Option Addr} {n c : Nat} {xs : List Value} (x : ByteArray) (hown : w.ownsRow base 9 1 (.slice A n c) n xs) (hn : n ≤ 4000) (hbase : base ≤ w.heap.size) :
    ∃ A' c' w', (Builtin.append_ #[51, 51] 51 #[.slice A n c, .slice (some ⟨w.heap.size, 0, none⟩) 1 1]).run Try.prog (w.alloc (.cells #[.string x] 9)) = .ok (.slice A' (n + 1) c') w' ∧
      w'.ownsRow base 9 1 (.slice A' (n + 1) c') (n + 1) (xs ++ [.string x]) ∧ (w.alloc (.cells #[.string x] 9)).grownBy w' (Value.slice A n c).ownBlock ∧
      ((Value.slice A' (n + 1) c').ownBlock = (Value.slice A n c).ownBlock ∨ (Value.slice A' (n + 1) c').ownBlock = some (w.heap.size + 1)) := by
  obtain ⟨i0, hi0, hz0, hz1, hz2⟩ := info_parts info_str
  have hown' := own_keep hown ((Below.refl _ w).alloc (Nat.le_refl _) (.cells #[.string x] 9))
  obtain ⟨v', w', hr, ho, hg, _, hl⟩ := run_append_own_at (P := Try.prog) (w.alloc (.cells #[.string x] 9)) base 51 51 9 i0 _ 1 16 Try.underlying51 hi0 hz0 hz1 hz2 rfl (by omega)
    _ n xs hown' ⟨w.heap.size, 0, none⟩ 1 1 [.string x] rfl (World.news_of_block (cs := #[.string x]) (t := 9) (fr := (0, 0)) (heap_alloc_new w _)) (by simp [Value.oneCell']) (by unfold maxLen; omega) (by omega) (by simp; omega)
  rcases ho.2 with ⟨_, h0⟩ | ⟨g, cap, cur, rfl, _⟩
  · omega
  · exact ⟨some ⟨g, 0, none⟩, cap, w', hr, ho, hg, by simpa using hl⟩
theorem md_row {w : World} {base c : Nat} {A : Option Addr} {M : List (List UInt8)} (h1 : 1 ≤ M.length) (ho : w.ownsRow base 9 1 (.slice A M.length c) M.length (M.map fun l => Value.string ⟨l.toArray⟩)) :
    ∃ s, (Value.slice A M.length c).ownBlock = some s ∧ Md (w.alloc (.cells #[.slice A M.length c] 55)) w.heap.size s M := by
  rcases ho.2 with ⟨_, h0⟩ | ⟨s, cap, cur, hv, hb, hh, hn, hm, hsz, ht⟩
  · omega
  · injection hv with hv1 hv2 hv3
    subst hv1
    subst hv3
    have hy : Box w s 9 cur := hh
    have hy2 := hy.alloc (.cells #[.slice (some ⟨s, 0, none⟩) M.length c] 55)
    have hlt := hy.lt
    refine ⟨s, rfl, ⟨c, Box.new w _ _, hn, hm⟩, by omega, hy2.lt, fun i hi => ⟨?_, hy2.frozen i⟩⟩
    have hi2 : (M.map fun l => Value.string ⟨l.toArray⟩)[i]? = some (.string ⟨M[i].toArray⟩) := by rw [List.getElem?_map, List.getElem?_eq_getElem hi]; rfl
    rw [← ht, List.getElem?_take, if_pos (by omega), Array.getElem?_toList] at hi2
    rw [hy2.cell i, hi2]

set_option maxRecDepth 100000 in
set_option maxHeartbeats 4000000 in
theorem again_in (A A2 : Option Addr) (l : List Gp) (c : Nat) (cut : Int) (cuts : List Int) (c2 : Nat) (w : World) (hc : l.length ≤ c) (hm : c ≤ maxLen) (hl : Gps w.heap.size w A l) (hcut : i64 cut) (hcu : Nums w A2 cuts) (hs : smallP l 6) (h6 : cuts.length ≤ 6) :
    Calls Try.prog 6 #[.slice A l.length c, .int .i64 cut, .slice A2 cuts.length c2] w (TruePost w) := by
  have HA := Lib.hid (awake_all w)
  have HS : Hid (∀ w', Below w.heap.size w w' → Calls Try.prog 11 #[.slice A l.length c, .int .i64 6] w' (Same (.bool true) w')) := fun w' hb => by
    have := small_all _ A l c 6 w' (hl.below hb) hc hm (by omega)
    rw [decide_eq_true hs] at this
    exact this
  have HO : Hid (∀ w, Calls Try.prog 12 #[.int .i64 60] w (OpenedPost 60 w)) := fun w => opened_all 60 60 w rfl (by omega) (by omega)
  have b1 : decide ((6 : Int) < (cuts.length : Int)) = false := by simp; omega
  have hl6 := hs.1
  have hS0 : St 60 (new 60).L (List.replicate (room 60) (full 0)) := St.new (by omega)
  go_enter Try.func6, Try.ntmps6
  go_wp2_with fail
  refine HA.out.mono ?_
  rintro e w1 ⟨rfl, hb1⟩
  go_wp2_with fail
  refine (HS.out _ hb1).mono ?_
  rintro e w' ⟨rfl, rfl⟩
  go_wp2_with fail
  refine (HO.out _).mono ?_
  rintro e w2 ⟨g, s, q, rfl, hg, hs2, hq, hL2, hb2⟩
  have hb3 := hb1.trans (hb2.mono hb1.size)
  have hsz1 := hb1.size
  clear hb1 hb2 HA HS HO
  go_wp2_with fail
  refine (cut_all cut hL2.2.1).mono ?_
  rintro e w3 ⟨rfl, k3, f3⟩
  obtain ⟨L3, f3'⟩ := hL2.disk k3 f3 rfl
  have hB3 := hb3.trans (f3'.below hb3.size (fun b hb => by rcases hb with rfl | rfl | rfl <;> omega))
  have hrel0 : AgRel l q g s w (.int .i64 0) w3 := ⟨0, _, false, _, rfl, by omega, L3, new_len 60, .inl hS0, fun _ => hS0, cut_i64 hcut _, by show (0 : Int) ≤ 0; omega, by show (0 : Int) ≤ 20000 * 0; omega, hB3⟩
  have HR0 := Lib.hid hrel0
  clear hL2 k3 f3 f3' L3 hb3 hB3 hrel0 hS0
  go_wp2
  go_loopw [12] (AgRel l q g s w) (fun i _ => l.length - (intOf i).toNat)
  case atStart => exact HR0.out
  case round =>
    clear HR0
    obtain ⟨k, D, b, M, rfl, hk, hLg, hDL, hDI, hDS, hDi, hw0, hw1, hbl⟩ := hrel
    by_cases hlt : k < l.length
    · obtain ⟨ad, v0, v1, v2, rfl, g0, g1, g2, hgv⟩ := (hl.below hbl).at_ hlt
      have hsm := hs.2 _ (List.getElem_mem hlt)
      have hk0 : (0 : Int) ≤ (k : Int) := Int.natCast_nonneg _
      have hkl : (k : Int) < (l.length : Int) := by omega
      have hlt3 := hLg.lt
      have HM := Lib.hid (made_gp (X := Tri q g s) hgv (fun b hb => by rcases hb with rfl | rfl | rfl <;> omega) (by omega))
      have HLg := Lib.hid hLg
      have HB := Lib.hid hbl
      have HI := Lib.hid hDI
      have HDS := Lib.hid hDS
      clear hgv hLg hbl hDI hDS hlt3
      generalize l[k].made = G at *
      go_wp2_with fail
      refine HM.out.mono ?_
      rintro e w4 ⟨A3, c3, rfl, hc3, hm3, hG3, hb4⟩
      have HC := Lib.hid (commit_any c3 (HLg.out.below hb4) hDL (by omega) (by omega) HI.out HDS.out hG3 hc3 hm3 hDi (by omega))
      have hB4 := HB.out.trans (hb4.mono HB.out.size)
      clear HM HLg HB HI HDS hG3 hb4
      go_wp2_with fail
      refine HC.out.mono ?_
      rintro e w5 ⟨v, D5, b5, M5, rfl, L5, a1, a2, a3, a4, a5, a6, a7⟩
      have hB5 := hB4.trans (a7.below hB4.size (fun b hb => by rcases hb with rfl | rfl | rfl <;> omega))
      clear HC hB4 a7
      go_wp2
      go_roundw
      case rel => exact ⟨k + 1, D5, b5, M5, by go_num, by omega, L5, a1, a2, a3, a4, by omega, by omega, hB5⟩
      case measure => simp [intOf]; omega
    · obtain rfl : k = l.length := by omega
      have hcuB : ∀ ad, A2 = some ad → 0 < cuts.length → ad.block < w.heap.size := fun ad e hp => by
        obtain ⟨ad', e', hlt, _⟩ := hcu.2 hp
        rw [e] at e'
        injection e' with e'
        rw [e']
        exact hlt
      have HRC := Lib.hid (recovered_all (A := A2) cuts c2 hLg.2.1 hDL (by omega) (by omega) hDI hDi (by omega) (hcu.below hbl hcuB) (fun ad e hp h => by have := hcuB ad e hp; rcases h with h | h <;> omega) (by omega))
      have HB := Lib.hid hbl
      clear hLg hDI hDS hbl hcu hcuB hl
      go_wp2_with fail
      refine HRC.out.mono ?_
      rintro e w4 ⟨D4, q4, rfl, hq4, L4, o4, n4, S4, i4, hwa, hwb, f4⟩
      have hB4 := HB.out.trans (f4.below HB.out.size (fun b hb => by rcases hb with rfl | rfl <;> omega))
      have hq5 := Nat.le_trans HB.out.size hq4
      clear HRC HB f4
      have hMl := S4.2.2.1
      have hrm : room 60 = 29 := rfl
      have HKR : Hid (∀ k, k < M.length → k < room 60) := fun k hk => by omega
      have HR1 : Hid (RdRel M q4 g s D4 w (.slice none 0 0) (.int .i64 0) w4) := ⟨0, none, 0, rfl, rfl, by omega, L4, World.ownsRow_nil _ _ _ _, fun b h => by simp [Value.ownBlock] at h, hB4⟩
      have HS5 : Hid (∀ wq, Lg wq q4 g s D4 false → Calls Try.prog 25 #[.pointer (some ⟨q4, 0, none⟩)] wq (Same (.int .i64 (M.length : Int)) wq)) := fun wq hq => by
        have := lsectors_all hq
        rw [n4, ← hMl] at this
        exact this
      have hM30 : M.length ≤ 29 ∧ 29 ≤ M.length := by omega
      have HML := Lib.hid hMl
      clear L4 hB4 hMl hrm
      go_wp2
      go_loopw [13, 14] (RdRel M q4 g s D4 w) (fun _ i _ => M.length - (intOf i).toNat)
      case atStart => exact HR1.out
      case round =>
        clear HR1
        obtain ⟨k, A5, c5, rfl, rfl, hk5, L5, ho5, hnt5, hb5⟩ := hrel
        by_cases hlt : k < M.length
        · have hsec : D4.L[dataAt D4.L.length k]? = some M[k] := by rw [n4, S4.2.2.2 k (HKR.out k hlt)]; exact List.getElem?_eq_getElem hlt
          have h256 : M[k].length = 256 := by
            obtain ⟨hk2, hk3⟩ := List.getElem?_eq_some_iff.1 hsec
            exact L5.2.1.2.2.2.1 _ (hk3 ▸ List.getElem_mem hk2)
          have HR := Lib.hid (lread_ok (k : Int) k M[k] L5 o4 (by omega) (by rw [n4]; exact HKR.out k hlt) rfl hsec)
          have htM := take_snoc hlt
          have HT : Hid ((M.take k).map (fun x => Value.string ⟨x.toArray⟩) ++ [.string ⟨M[k].toArray⟩] = (M.take (k + 1)).map fun x => Value.string ⟨x.toArray⟩) := by rw [htM, List.map_append]; exact Lib.hid rfl
          have HL5 := Lib.hid L5
          have HO5 := Lib.hid ho5
          have HB5 := Lib.hid hb5
          have HN5 := Lib.hid hnt5
          have hkl : (k : Int) < (M.length : Int) := by omega
          clear L5 ho5 hb5 hnt5 htM hsec
          generalize M[k] = F at *
          go_wp2_with fail
          refine (HS5.out _ HL5.out).mono ?_
          rintro e w' ⟨rfl, rfl⟩
          go_wp2_with fail
          refine HR.out.mono ?_
          rintro e w6 ⟨gb, rfl, hgb, hxb, L6, f6⟩
          have cv := conv_box 256 hxb h256
          have ho6 := own_fr HO5.out f6 HN5.out
          have hsz6 := f6.size
          have hszw := HB5.out.size
          obtain ⟨A7, c7, w7, hr, ho7, hg7, hl7⟩ := run_append_str2 ⟨F.toArray⟩ ho6 (by omega) (by omega)
          rw [HT.out] at ho7
          have L7 := (L6.alloc (.cells #[.string ⟨F.toArray⟩] 9)).grown hg7 HN5.out
          have hlt6 := L6.lt
          have hn7 : ∀ b, (Value.slice A7 (k + 1) c7).ownBlock = some b → ¬ Tri q4 g s b := fun b hb => by
            rcases hl7 with h | h
            · exact HN5.out b (h ▸ hb)
            · rw [h] at hb
              injection hb with hb
              intro t
              rcases t with t | t | t <;> omega
          have hOL := fun j hj => (HO5.out.lt j hj).1
          have hB6 := HB5.out.trans (f6.below hszw (fun b hb => by rcases hb with rfl | rfl | rfl <;> omega))
          have hB7 := (hB6.alloc hB6.size (.cells #[.string ⟨F.toArray⟩] 9)).grown hg7 (by simp; omega) (fun j hj => hOL j hj)
          have H7 : Hid (RdRel M q4 g s D4 w (.slice A7 (k + 1) c7) (.int .i64 ((k + 1 : Nat) : Int)) w7) := ⟨k + 1, A7, c7, rfl, rfl, by omega, L7, ho7, hn7, hB7⟩
          clear HL5 HO5 HB5 HN5 HT HR L6 f6 hxb ho6 ho7 hg7 hl7 L7 hn7 hOL hB6 hB7 hlt6
          generalize (⟨F.toArray⟩ : ByteArray) = fb at *
          go_wp2_with (first | (at_builtin; refine wpList_append_run rfl _ _ _ _ rfl rfl rfl hr ?_) | fail)
          go_roundw
          case rel => exact H7.out
          case measure => simp [intOf]; omega
        · obtain rfl : k = M.length := by omega
          rw [List.take_length] at ho5
          obtain ⟨sm, hsm, hMd0⟩ := md_row (by omega) ho5
          have HO6 := Lib.hid (open_st L5.2.1 o4 (by omega) (by omega) (by rw [show D4.L[0]? = some (headB 0) from S4.2.1]))
          have HMD : Hid (∀ wq, Below wr.heap.size wr wq → Md (wq.alloc (.cells #[.slice A5 M.length c5] 55)) wq.heap.size sm M) := fun wq hb => by
            obtain ⟨sm', hsm', h⟩ := md_row (w := wq) (by omega) (own_keep ho5 hb)
            rw [hsm] at hsm'
            injection hsm' with hsm'
            rw [hsm']
            exact h
          have hsmlt := (ho5.lt sm hsm).2
          have hnsm := hnt5 sm hsm
          have HL5 := Lib.hid L5
          have HB5 := Lib.hid hb5
          have hlt5 := L5.lt
          clear ho5 hMd0 hnt5 L5 hb5
          go_wp2_with fail
          refine (HS5.out _ HL5.out).mono ?_
          rintro e w' ⟨rfl, rfl⟩
          clear HS5
          go_wp2_with fail
          refine (writes_all HL5.out.2.1).mono ?_
          rintro e w' ⟨rfl, rfl⟩
          clear HL5
          go_wp2_with fail
          refine HO6.out.mono ?_
          rintro e w8 ⟨q8, rfl, hq8, L8, hb8⟩
          have hB8 := HB5.out.trans (hb8.mono HB5.out.size)
          have HMD8 := HMD.out w8 hb8
          have hsz8 := hb8.size
          have HL8 := Lib.hid L8
          have hlt8 := L8.lt
          clear HO6 HMD hb8 HB5
          go_wp2_with fail
          refine (writes_all HL8.out.2.1).mono ?_
          rintro e w' ⟨rfl, rfl⟩
          have HAL : Hid (Calls Try.prog 22 #[.pointer (some ⟨q8, 0, none⟩), .pointer (some ⟨w8.heap.size, 0, none⟩)] (w8.alloc (.cells #[.slice A5 M.length c5] 55)) (AlPost true q8 g s D4 (w8.alloc (.cells #[.slice A5 M.length c5] 55)))) := by
            have := alike_all (m := M) (HL8.out.alloc (.cells #[.slice A5 M.length c5] 55)) o4 n4 (by omega) (by omega) S4 HMD8 (fun t => by rcases t with t | t | t <;> omega) (fun t => by
              rcases t with t | t
              · omega
              · exact hnsm (.inr t)) HML.out
            rw [decide_eq_true rfl] at this
            exact this
          have hB9 := hB8.alloc hB8.size (.cells #[.slice A5 M.length c5] 55)
          have hszw := hB8.size
          clear HMD8 L8 HL8 hB8
          go_wp2_with fail
          generalize w8.alloc (.cells #[.slice A5 M.length c5] 55) = w9 at *
          refine HAL.out.mono ?_
          rintro e w10 ⟨rfl, _, f10⟩
          have hq9 : w.heap.size ≤ q8 := by omega
          have hBz := hB9.trans (f10.below hB9.size (fun b hb => by rcases hb with rfl | rfl | rfl <;> omega))
          clear HAL f10 hB9
          go_wp2
          go_ret
          exact ⟨rfl, hBz⟩
theorem again_walk (A : Option Addr) (l : List Gp) (c : Nat) (cut : Int) (A2 : Option Addr) (cuts : List Int) (c2 : Nat) (w : World) (hc : l.length ≤ c) (hm : c ≤ maxLen) (hl : Gps w.heap.size w A l) (hcut : i64 cut) (_ : cuts.length ≤ c2) (_ : c2 ≤ maxLen) (hcu : Nums w A2 cuts) :
    Calls Try.prog 6 #[.slice A l.length c, .int .i64 cut, .slice A2 cuts.length c2] w (TruePost w) := by
  by_cases h : smallP l 6 ∧ cuts.length ≤ 6
  · exact again_in A A2 l c cut cuts c2 w hc hm hl hcut hcu h.1 h.2
  · refine again_out A A2 l c cut cuts c2 w hc hm hl ?_
    by_cases hs : smallP l 6
    · exact .inr (by have : ¬ cuts.length ≤ 6 := fun h6 => h ⟨hs, h6⟩; omega)
    · exact .inl hs
end Go.Proofs.Ytkklplccngdalaa.Dk
