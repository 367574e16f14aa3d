/-
  The document's log: contracts of New, Right, Behind.
-/
import Derived.Test.YtkklplccngdalaaWlR
namespace Go.Proofs.Ytkklplccngdalaa.Dk
open Go.RowKit

def strs (n : Nat) (x : ByteArray) : List Value := List.replicate n (.string x)
theorem strs_succ (n : Nat) (x : ByteArray) : strs n x ++ [.string x] = strs (n + 1) x := by unfold strs; exact List.replicate_succ'.symm
theorem own_keep {w w' : World} {base : Nat} {e : TypeId} {size : Nat} {v : Value} {n : Nat} {xs : List Value} (h : w.ownsRow base e size v n xs) (hb : Below w.heap.size w w') : w'.ownsRow base e size v n xs := by
  refine ⟨h.1, ?_⟩
  rcases h.2 with h | ⟨g, cap, cur, hv, hbg, hh, r⟩
  · exact .inl h
  · exact .inr ⟨g, cap, cur, hv, hbg, (hb.block g (Array.getElem?_eq_some_iff.1 hh).1).trans hh, r⟩
/-- append(own, x): one text onto a row of one's own. -/
theorem run_append_str {w : World} {base : Nat} {A : Option Addr} {n c : Nat} {xs : List Value} (x : ByteArray) (hown : w.ownsRow base 9 1 (.slice A n c) n xs) (hn : n ≤ 4000) (hbase : base ≤ w.heap.size) :
    ∃ A' c' w', (Builtin.append_ #[51, 51] 51 #[.slice A n c, .slice (some ⟨w.heap.size, 0, none⟩) 1 1]).run Try.prog (w.alloc (.cells #[.string x] 9)) = .ok (.slice A' (n + 1) c') w' ∧
      w'.ownsRow base 9 1 (.slice A' (n + 1) c') (n + 1) (xs ++ [.string x]) ∧ (w.alloc (.cells #[.string x] 9)).grownBy w' (Value.slice A n c).ownBlock := by
  obtain ⟨i0, hi0, hz0, hz1, hz2⟩ := info_parts info_str
  have hown' := own_keep hown ((Below.refl _ w).alloc (Nat.le_refl _) (.cells #[.string x] 9))
  obtain ⟨v', w', hr, ho, hg, _, _⟩ := run_append_own_at (P := Try.prog) (w.alloc (.cells #[.string x] 9)) base 51 51 9 i0 _ 1 16 Try.underlying51 hi0 hz0 hz1 hz2 rfl (by omega)
    _ n xs hown' ⟨w.heap.size, 0, none⟩ 1 1 [.string x] rfl (World.news_of_block (cs := #[.string x]) (t := 9) (fr := (0, 0)) (heap_alloc_new w _)) (by simp [Value.oneCell']) (by unfold maxLen; omega) (by omega) (by simp; omega)
  rcases ho.2 with ⟨_, h0⟩ | ⟨g, cap, cur, rfl, _⟩
  · omega
  · exact ⟨some ⟨g, 0, none⟩, cap, w', hr, ho, hg⟩

/-- The model out of its row of texts. -/
theorem md_own {w : World} {g c : Nat} {A : Option Addr} {M : List (List UInt8)} (h1 : 1 ≤ M.length) (hx : Box w g 55 #[.slice A M.length c]) (ho : w.ownsRow (g + 1) 9 1 (.slice A M.length c) M.length (M.map fun l => Value.string ⟨l.toArray⟩)) : ∃ s, g + 1 ≤ s ∧ Md w g s M := by
  rcases ho.2 with ⟨_, h0⟩ | ⟨s, cap, cur, hv, hb, hh, hn, hm, hsz, ht⟩
  · omega
  · injection hv with hv1 hv2 hv3
    subst hv1
    subst hv3
    have hy : Box w s 9 cur := hh
    refine ⟨s, hb, ⟨c, hx, hn, hm⟩, by omega, hy.lt, fun i hi => ⟨?_, hy.frozen i⟩⟩
    have hi2 : (M.map fun l => Value.string ⟨l.toArray⟩)[i]? = some (.string ⟨M[i].toArray⟩) := by rw [List.getElem?_map, List.getElem?_eq_getElem hi]; rfl
    rw [← ht, List.getElem?_take, if_pos (by omega), Array.getElem?_toList] at hi2
    rw [hy.cell i, hi2]

def RNewRel (n g : Nat) (x : ByteArray) (w : World) (i : Value) (wr : World) : Prop :=
  ∃ (k : Nat) (A : Option Addr) (c : Nat), i = .int .i64 (k : Int) ∧ k ≤ n ∧ Box wr g 55 #[.slice A k c] ∧ wr.ownsRow (g + 1) 9 1 (.slice A k c) k (strs k x) ∧ Below g w wr

set_option maxRecDepth 100000 in
set_option maxHeartbeats 2000000 in
theorem rnew_all (n : Nat) (w : World) (h1 : 4 ≤ n) (h2 : n ≤ 2048) : Calls Try.prog 13 #[.int .i64 (n : Int)] w (MdPost (List.replicate (room n) (full 0)) w) := by
  have hx0 := Box.new w 55 #[.slice none 0 0]
  have hB0 := (Below.refl w.heap.size w).alloc (Nat.le_refl _) (.cells #[.slice none 0 0] 55)
  have HN := Lib.hid nought_all
  have HR1 := Lib.hid (fun w => rroom_all n w (by omega))
  have hr1 := room_pos h1
  have hr2 := room_lt (n := n)
  obtain ⟨X, hX⟩ : ∃ X : ByteArray, X = ⟨(full 0).toArray⟩ := ⟨_, rfl⟩
  rw [← hX] at HN
  have HX := Lib.hid hX
  have HY : Hid (∀ R, (strs R X) = (List.replicate R (full 0)).map fun l => Value.string ⟨l.toArray⟩) := fun R => by rw [List.map_replicate, hX]; rfl
  clear hX
  generalize room n = R at *
  go_enter Try.func13, Try.ntmps13
  go_wp2_with fail
  go_loopw [4] (RNewRel R w.heap.size X w) (fun i _ => R - (intOf i).toNat)
  case atStart => exact ⟨0, none, 0, rfl, by omega, hx0, World.ownsRow_nil _ _ _ _, hB0⟩
  case round =>
    obtain ⟨k, A, c, rfl, hk, hx, ho, hbw⟩ := hrel
    clear hx0 hB0
    by_cases hlt : k < R
    · have b5 : (k : Int) < (R : Int) := by omega
      have c0 : wr.cell? ⟨w.heap.size, 0, none⟩ = some (.slice A k c) := hx.cell 0
      have hlg := hx.lt
      have hrow : ∀ j, (Value.slice A k c).ownBlock = some j → w.heap.size + 1 ≤ j := fun j hj => (ho.lt j hj).1
      have HR := Lib.hid hrow
      clear hrow
      go_wp2_with fail
      refine (HR1.out _).mono ?_
      rintro e w' ⟨rfl, rfl⟩
      go_wp2_with fail
      go_region_law
        (first | (rw [if_pos (by simp [Region.wanted])]; go_simp; go_at_call 30; (with_reducible refine (HN.out _).mono ?_); rintro e w1 ⟨rfl, hb1⟩; have hx1 := hx.drew.below hb1 hlg; have c1 : w1.cell? ⟨w.heap.size, 0, none⟩ = some (.slice A k c) := hx1.cell 0; have ho1 := own_keep (ho.drew) hb1; obtain ⟨A', c', w2, hr, ho2, hg2⟩ := run_append_str X ho1 (by omega) (by have := hx1.lt; omega); have hx2 := (hx1.alloc (.cells #[.string X] 9)).grown hg2 (fun e => by have := HR.out _ e.symm; omega); have c2 : (w1.alloc (.cells #[.string X] 9)).cell? ⟨w.heap.size, 0, none⟩ = some (.slice A k c) := (hx1.alloc _).cell 0; have c3 : w2.cell? ⟨w.heap.size, 0, none⟩ = some (.slice A k c) := hx2.cell 0; have q2 := hx2.frozen 0) | (refine step_append_run (by rfl) _ _ _ _ (by rfl) (by rfl) (by rfl) hr ?_))
      all_goals
        have hx3 := hx2.set_ 0 (.slice A' (k + 1) c')
        have ho3 := ownsRow_setCell_below ho2 (a := ⟨w.heap.size, 0, none⟩) (by simp) (.slice A' (k + 1) c')
        rw [strs_succ] at ho3
        have hb2 : Below w.heap.size w w2 := ((hbw.drew.trans (hb1.mono (by exact Nat.le_of_lt hlg))).alloc (by have := hx1.lt; omega) (.cells #[.string X] 9)).grown hg2 (by have := hx1.lt; simp; omega) (fun j hj => by have := HR.out j hj; omega)
        have hb3 := hb2.setCell (p := ⟨w.heap.size, 0, none⟩) (Nat.le_refl _) (.slice A' (k + 1) c')
        clear hx ho hx1 ho1 hr ho2 hg2 hx2 c1 c2 c3 q2 hb1 hb2 hbw c0
        go_wp2
        go_roundw
        case rel => exact ⟨k + 1, A', c', by go_num, by omega, hx3, ho3, hb3⟩
        case measure => simp [intOf]; omega
    · obtain rfl : k = R := by omega
      go_wp2_with fail
      refine (HR1.out _).mono ?_
      rintro e w' ⟨rfl, rfl⟩
      go_wp2
      have hlr : (List.replicate k (full 0)).length = k := List.length_replicate
      rw [HY.out] at ho
      obtain ⟨s, hs, hR⟩ := md_own (M := List.replicate k (full 0)) (by omega) (by rw [hlr]; exact hx) (by rw [hlr]; exact ho)
      go_ret
      exact ⟨_, s, rfl, Nat.le_refl _, by omega, hR, hbw⟩

/-! ### Right -/
def RightRel (P : Nat) (l : List GI) (w : World) (i : Value) (wr : World) : Prop := ∃ k : Nat, i = .int .i64 (k : Int) ∧ k ≤ l.length ∧ okG P (l.take k) ∧ Below w.heap.size w wr
def InnerRel (l : List GI) (x : Int) (k : Nat) (w : World) (i : Value) (wr : World) : Prop := ∃ j : Nat, i = .int .i64 (j : Int) ∧ j ≤ k ∧ x ∉ (l.take j).map Prod.fst ∧ Below w.heap.size w wr

set_option maxRecDepth 100000 in
set_option maxHeartbeats 2000000 in
theorem right_all {w : World} {g s : Nat} {M : List (List UInt8)} (A : Option Addr) (l : List GI) (c : Nat) (X : Nat → Prop) (h : Md w g s M) (hG : Grp X w A l) (_hc : l.length ≤ c) (_hm : c ≤ maxLen) (hl : l.length ≤ 1000000000) (_hM : M.length ≤ 2048) :
    Calls Try.prog 15 #[.pointer (some ⟨g, 0, none⟩), .slice A l.length c] w (BPost (decide (okG M.length l)) w) := by
  go_enter Try.func15, Try.ntmps15
  go_wp2
  go_loopw [5] (RightRel M.length l w) (fun i _ => l.length - (intOf i).toNat)
  case atStart => exact ⟨0, rfl, by omega, okG_nil _, Below.refl _ _⟩
  case round =>
    obtain ⟨k, rfl, hk, hok, hnx⟩ := hrel
    by_cases hlt : k < l.length
    · obtain ⟨ad, B, c', rfl, hlt2, g1, g2, g3, g4, g5, g6⟩ := (hG.below hnx).at_ hlt
      obtain ⟨cap, hc1, hc2, m0⟩ := (h.below hnx).cells
      have hnot : ¬ okG M.length (l.take k ++ [l[k]]) → decide (okG M.length l) = false := fun hn => by
        refine decide_eq_false fun ho => hn ?_
        have := okG_take ho (k + 1)
        rwa [take_snoc hlt] at this
      have hsnoc := okG_snoc (P := M.length) (l := l.take k) (x := l[k])
      have htk := take_snoc hlt
      have HS := Lib.hid hsnoc
      have HT := Lib.hid htk
      have HN := Lib.hid hnot
      have hx1 : i64 l[k].1 := g6
      unfold i64 at hx1
      have hk0 : (0 : Int) ≤ (k : Int) := Int.natCast_nonneg _
      have hkl : (k : Int) < (l.length : Int) := by omega
      have HB := Lib.hid hnx
      have hlast : okI M.length l[k] ↔ 0 ≤ l[k].1 ∧ l[k].1 < (M.length : Int) ∧ l[k].2.length = 256 := Iff.rfl
      have HO := Lib.hid hlast
      clear hsnoc htk hnot hlast g5 g6 hnx h
      generalize hX : l[k] = x at *
      obtain ⟨x1, x2⟩ := x
      simp only at g1 g2 g3 HO hx1
      generalize hm2 : x2.length = m at *
      clear hm2
      by_cases hneg : x1 < 0
      · have b1 : decide (x1 < 0) = true := by simpa using hneg
        have hd := HN.out fun ho => by have := (HO.out.1 (HS.out.1 ho).2.1).1; omega
        clear hG
        go_wp2_with fail
        go_quiet (fail)
        go_wp2
        go_ret
        exact ⟨ret_bool hd.symm, below_drewN HB.out _⟩
      · have b1 : decide (x1 < 0) = false := by simpa using hneg
        by_cases hbig : (M.length : Int) ≤ x1
        · have b2 : decide ((M.length : Int) ≤ x1) = true := by simpa using hbig
          have hd := HN.out fun ho => by have := (HO.out.1 (HS.out.1 ho).2.1).2.1; omega
          clear hG
          go_wp2_with fail
          go_quiet (fail)
          go_wp2
          go_ret
          exact ⟨ret_bool hd.symm, below_drewN HB.out _⟩
        · have b2 : decide ((M.length : Int) ≤ x1) = false := by simpa using hbig
          by_cases h256 : m = 256
          · subst h256
            have hokI := HO.out.2 ⟨by omega, by omega, rfl⟩
            go_wp2_with fail
            go_quiet (fail)
            go_wp2
            go_loopw [6] (InnerRel l x1 k w) (fun i _ => k - (intOf i).toNat)
            case atStart => exact ⟨0, rfl, by omega, by simp, below_drewN HB.out _⟩
            case round =>
              obtain ⟨j, rfl, hj, hnin, hnx2⟩ := hrel
              by_cases hjk : j < k
              · have hjl : j < l.length := by omega
                obtain ⟨ad2, B2, c2, had2, _, a1, _, _, _, _, a6⟩ := (hG.below hnx2).at_ hjl
                obtain ⟨ad3, B3, c3, had3, _, a1', _, _, _, _, _⟩ := (hG.below hnx2).at_ hlt
                injection had2 with had2
                injection had3 with had3
                subst had2
                rw [← had3, hX] at a1'
                have hsj := take_snoc hjl
                have hj0 : (0 : Int) ≤ (j : Int) := Int.natCast_nonneg _
                have hjl2 : (j : Int) < (l.length : Int) := by omega
                have HSJ := Lib.hid hsj
                have HB2 := Lib.hid hnx2
                have hmem : l[j].1 ∈ (l.take k).map Prod.fst := List.mem_map_of_mem (by rw [List.mem_take_iff_getElem]; exact ⟨j, by omega, rfl⟩)
                have HMM := Lib.hid hmem
                clear hG hsj hnx2 had3 hmem
                generalize hY : l[j] = y at *
                obtain ⟨y1, y2⟩ := y
                simp only at a1 a1' HMM
                unfold i64 at a6
                by_cases heq : y1 = x1
                · have b6 : (y1 == x1) = true := by simpa using heq
                  have hd := HN.out fun ho => (HS.out.1 ho).2.2 (heq ▸ HMM.out)
                  go_wp2_with fail
                  go_quiet (fail)
                  go_wp2
                  go_ret
                  exact ⟨ret_bool hd.symm, below_drewN HB2.out _⟩
                · have b6 : (y1 == x1) = false := by simpa using heq
                  have hn2 : x1 ∉ (l.take (j + 1)).map Prod.fst := by
                    rw [HSJ.out, List.map_append]
                    simp only [List.mem_append, not_or]
                    exact ⟨hnin, by simpa using fun e => heq e.symm⟩
                  have HN2 := Lib.hid hn2
                  clear hn2
                  go_wp2_with fail
                  go_quiet (fail)
                  go_wp2
                  go_roundw
                  case rel => exact ⟨j + 1, by go_num, by omega, HN2.out, below_drewN HB2.out _⟩
                  case measure => simp [intOf]; omega
              · obtain rfl : j = k := by omega
                have hok2 := HS.out.2 ⟨hok, hokI, hnin⟩
                rw [← HT.out] at hok2
                clear hG
                go_wp2
                go_roundw
                case rel => exact ⟨j + 1, by go_num, by omega, hok2, hnx2⟩
                case measure => simp [intOf]; omega
          · have b3 : ((m : Int) == 256) = false := beq_eq_false_iff_ne.2 (by omega)
            have b4 : (m == 256) = false := beq_eq_false_iff_ne.2 h256
            have b5 : ((m : Int) != 256) = true := by simp; omega
            have hd := HN.out fun ho => h256 (HO.out.1 (HS.out.1 ho).2.1).2.2
            clear hG
            go_wp2_with fail
            go_quiet (fail)
            go_wp2
            go_ret
            exact ⟨ret_bool hd.symm, below_drewN HB.out _⟩
    · obtain rfl : k = l.length := by omega
      rw [List.take_length] at hok
      clear h hG
      go_wp2
      go_ret
      exact ⟨ret_bool (decide_eq_true hok).symm, hnx⟩
end Go.Proofs.Ytkklplccngdalaa.Dk
