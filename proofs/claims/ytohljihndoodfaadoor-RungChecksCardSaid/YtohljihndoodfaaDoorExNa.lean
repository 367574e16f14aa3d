/-
  The program's names and Names (the second part of layer 2's text of names).
-/
import Derived.Test.YtohljihndoodfaaDoorExNp
import Derived.Test.YtohljihndoodfaaDoorExBk
import Derived.Test.YtohljihndoodfaaDoorShelf2
import Derived.Test.YtohljihndoodfaaDoorExW3
import Derived.Lib.SlicesCompact
import Derived.Deep.AppendLies
import Derived.Lib.OwnBridge
import Derived.Sort.OwnSorted

namespace Go.Proofs.YtohljihndoodfaaDoor.Ep
open Go.RowKit Lx Go.Sort

theorem info_strN : (Tryd.prog.info? 9).map (fun i => (i.zero, i.size, i.bytes)) = some (some (.string ⟨#[]⟩), 1, 16) := by kernel_rfl
theorem newS (w : World) (s : List UInt8) : ∀ j u, ([Value.string ⟨s.toArray⟩])[j]? = some u → (w.alloc (.cells #[.string ⟨s.toArray⟩] 9)).cell? ((⟨w.heap.size, 0, none⟩ : Addr).add j) = some u := by
  intro j u h
  cases j with
  | zero => simp at h; subst h; simp [Addr.add]
  | succ j => simp at h
theorem oneS (s : List UInt8) : ∀ u ∈ [Value.string ⟨s.toArray⟩], u.oneCell' = true := by
  intro u hu
  simp at hu
  subst hu
  rfl
theorem own_keepN {w w' : World} {base : Nat} {e : TypeId} {size : Nat} {v : Value} {n : Nat} {xs : List Value} (h : w.ownsRow base e size v n xs) (hb : Below w.heap.size w w') : w'.ownsRow base e size v n xs := by
  refine ⟨h.1, ?_⟩
  rcases h.2 with h | ⟨g, cap, cur, hv, hbg, hh, r⟩
  · exact .inl h
  · exact .inr ⟨g, cap, cur, hv, hbg, (hb.block g (Array.getElem?_eq_some_iff.1 hh).1).trans hh, r⟩
theorem own_geN {w : World} {base : Nat} {e : TypeId} {size : Nat} {v : Value} {n : Nat} {xs : List Value} (h : w.ownsRow base e size v n xs) : ∀ k, v.ownBlock = some k → base ≤ k := by
  rcases h.2 with ⟨rfl, -⟩ | ⟨g, cap, cur, rfl, hbg, -⟩
  · intro k hk; cases hk
  · intro k hk; injection hk with hk; subst hk; exact hbg
theorem own_sliceN {w : World} {base : Nat} {e : TypeId} {size : Nat} {v : Value} {n : Nat} {xs : List Value} (h : w.ownsRow base e size v n xs) : ∃ a cap, v = .slice a n cap := by
  rcases h.2 with ⟨rfl, rfl⟩ | ⟨g, cap, cur, rfl, -⟩
  · exact ⟨none, 0, rfl⟩
  · exact ⟨_, _, rfl⟩

/-- The row that was handed in, with names behind it. -/
def NmPost (base : Nat) (R : List (List UInt8)) (w : World) (e : Ending) (w' : World) : Prop :=
  ∃ v, e = .returned v ∧ w'.ownsRow base 9 1 v R.length (R.map encStr) ∧ Below base w w'

set_option maxRecDepth 100000 in
set_option maxHeartbeats 2000000 in
theorem names_leaf (base : Nat) (S : List (List UInt8)) (v : Value) (n : Int) (nm : List UInt8) (a : Option Addr) (len cap : Nat) (w : World) (hb : base ≤ w.heap.size) (hown : w.ownsRow base 9 1 v S.length (S.map encStr)) (hl : S.length ≤ 1000000) :
    Calls Tryd.prog 80 #[v, .agg #[.int .i64 1, .int .i64 n, .string ⟨nm.toArray⟩, .slice a len cap]] w (NmPost base (S ++ [nm]) w) := by
  obtain ⟨inf, hinf, hz0, hz1, hz2⟩ := info_parts info_strN
  have hb1 : Below w.heap.size w (w.alloc (.cells #[.int .i64 1, .int .i64 n, .string ⟨nm.toArray⟩, .slice a len cap] 34)) := (Below.refl _ _).alloc (Nat.le_refl _) _
  have hb2 := hb1.alloc (by simp) (.cells #[.string ⟨nm.toArray⟩] 9)
  have hown2 := own_keepN hown hb2
  have hge := own_geN hown
  have HN := Lib.hid (newS (w.alloc (.cells #[.int .i64 1, .int .i64 n, .string ⟨nm.toArray⟩, .slice a len cap] 34)) nm)
  obtain ⟨va, vc, rfl⟩ := own_sliceN hown
  have HB := Lib.hid (hb2.mono hb)
  clear hown hb1 hb2
  go_enter Tryd.func80, Tryd.ntmps80
  go_wp2_with (at_builtin; refine wpList_append_lies _ rfl _ _ 23 rfl base 9 inf (.string ⟨#[]⟩) 1 16 Tryd.underlying23 hinf hz0 hz1 hz2 rfl (by decide) _ _ _ rfl hown2 ⟨w.heap.size + 1, 0, none⟩ 1 1 [.string ⟨nm.toArray⟩] rfl rfl ?c1 ?c2 ?c3 ?c4 ?c5 ?c6 (w.heap.size + 1 + 1) ?c7 ?_)
  case c1 => have := HN.out; simpa using this
  case c2 => exact oneS nm
  case c3 => decide
  case c4 => unfold maxLen; omega
  case c5 => omega
  case c6 => simp; omega
  case c7 => simp
  intro g1 cap1 w2 h1 hgr hor hlt
  have hB : Below base w w2 := HB.out.grown hgr (by simp; omega) hge
  have H1 : Hid (w2.ownsRow base 9 1 (.slice (some ⟨g1, 0, none⟩) (S.length + 1) cap1) (S ++ [nm]).length ((S ++ [nm]).map encStr)) := by
    unfold Hid
    rw [List.length_append, List.map_append]
    exact h1
  clear h1 hgr hor hge HN hown2
  go_wp2
  go_ret
  exact ⟨_, rfl, H1.out, hB⟩

theorem namesL_take (ks : List Ex) (k : Nat) (h : k < ks.length) : namesL (ks.take (k + 1)) = namesL (ks.take k) ++ namesE ks[k] := by
  induction ks generalizing k with
  | nil => simp at h
  | cons x ks ih =>
    cases k with
    | zero => simp [namesL]
    | succ k =>
      have := ih k (by simpa using h)
      simp only [List.take_succ_cons, namesL, List.getElem_cons_succ]
      rw [this, List.append_assoc]
theorem namesL_le (ks : List Ex) : ∀ k, (namesL (ks.take k)).length ≤ (namesL ks).length := by
  induction ks with
  | nil => intro k; simp [namesL]
  | cons x ks ih =>
    intro k
    cases k with
    | zero => simp [namesL]
    | succ k =>
      have := ih k
      simp only [List.take_succ_cons, namesL, List.length_append]
      omega

def NmRel (base : Nat) (S : List (List UInt8)) (ks : List Ex) (w : World) (l i : Value) (wr : World) : Prop :=
  ∃ k : Nat, i = .int .i64 (k : Int) ∧ k ≤ ks.length ∧ wr.ownsRow base 9 1 l (S ++ namesL (ks.take k)).length ((S ++ namesL (ks.take k)).map encStr) ∧ Below base w wr
set_option maxRecDepth 100000 in
set_option maxHeartbeats 4000000 in
theorem names_any (t : Ex) : ∀ (lo : Nat → Prop) (base : Nat) (S : List (List UInt8)) (v x : Value) (w : World), goodE t → base ≤ w.heap.size → (∀ k, lo k → k < base) → TreeV lo w t x → w.ownsRow base 9 1 v S.length (S.map encStr) → S.length + (namesE t).length ≤ 1000000 →
    Calls Tryd.prog 80 #[v, x] w (NmPost base (S ++ namesE t) w) := by
  induction t using Ex.ind with
  | h op n nm ks ih =>
    intro lo base S v x w hg hb hlo hT hown hlen
    unfold TreeV at hT
    obtain ⟨a, cap, rfl, hcap, hk⟩ := hT
    rw [goodE] at hg
    have hin := (formed_true hg.1).1
    unfold exV
    by_cases h1 : op = 1
    · subst h1
      rw [namesE, if_pos rfl]
      rw [namesE, if_pos rfl] at hlen
      exact names_leaf base S v n nm a _ cap w hb hown (by omega)
    · rw [namesE, if_neg h1]
      rw [namesE, if_neg h1] at hlen
      have hks2 : ks.length ≤ 2 := by
        rcases opK_012 hin with h | h | h
        · rw [kids_0 hg.1 h]; simp
        · obtain ⟨k, rfl⟩ := kids_1 hg.1 h; simp
        · obtain ⟨k, l, rfl⟩ := kids_2 hg.1 h; simp
      have d1 : (op == 1) = false := beq_eq_false_iff_ne.2 h1
      have HK := Lib.hid hk
      have IH := Lib.hid ih
      have HG := Lib.hid ((goodL_all _).1 hg.2.2)
      have HO := Lib.hid hown
      have HLO := Lib.hid hlo
      obtain ⟨va, vc, rfl⟩ := own_sliceN hown
      have hb1 : Below base w (w.alloc (.cells #[.int .i64 op, .int .i64 n, .string ⟨nm.toArray⟩, .slice a ks.length cap] 34)) := (Below.refl _ _).alloc hb _
      have HB1 := Lib.hid hb1
      have HO1 := Lib.hid (own_keepN hown ((Below.refl w.heap.size w).alloc (Nat.le_refl _) (.cells #[.int .i64 op, .int .i64 n, .string ⟨nm.toArray⟩, .slice a ks.length cap] 34)))
      clear hk ih hg hown hb1 hlo
      generalize hL : ks.length = len at *
      have HL := Lib.hid hL
      clear hL
      go_enter Tryd.func80, Tryd.ntmps80
      go_wp2_with fail
      go_loopw [0, 18] (NmRel base S ks w) (fun _ i _ => len - (intOf i).toNat)
      case atStart => exact ⟨0, rfl, by omega, by simpa [namesL] using HO1.out, HB1.out⟩
      case round =>
        clear HO1 HB1
        obtain ⟨k, rfl, hkl, hownr, hbw⟩ := hrel
        rw [HL.out] at hkl
        by_cases hlt : k < len
        · have hki : k < ks.length := by rw [HL.out]; exact hlt
          have hne : ks ≠ [] := by intro e; rw [e] at hki; simp at hki
          obtain ⟨g, off, rfl, hg1, hg2, hTL⟩ := HK.out hne
          have hTr := TreeL.keep (w' := wr) hbw.size (fun b hb _ => hbw.block b (HLO.out b hb)) g hg1 hg2 off ks hTL
          obtain ⟨ka, kcap, c0, c1, c2, c3, hkt⟩ := TreeL.at_ ks off k hki hTr
          have hbb : base ≤ wr.heap.size := Nat.le_trans hb hbw.size
          have hIH := Lib.hid (IH.out (ks[k]) (List.getElem_mem hki) lo base _ _ (exV (ks[k]).op (ks[k]).n (ks[k]).name ka (ks[k]).kids.length kcap) (wr.alloc (.cells #[.int .i64 (ks[k]).op, .int .i64 (ks[k]).n, .string ⟨(ks[k]).name.toArray⟩, .slice ka (ks[k]).kids.length kcap] 34)) (HG.out _ (List.getElem_mem hki)) (by simp; omega) HLO.out (hkt.alloc _) (own_keepN hownr ((Below.refl _ _).alloc (Nat.le_refl _) _))
            (by
              have e1 := namesL_take ks k hki
              have e2 := namesL_le ks (k + 1)
              rw [e1] at e2
              simp only [List.length_append] at e2 ⊢
              omega))
          rw [List.append_assoc, ← namesL_take ks k hki] at hIH
          have hgr : g < wr.heap.size := Nat.lt_of_lt_of_le hg2 hbw.size
          have hki1 : (k : Int) < (len : Int) := by omega
          have hbA : Below base w (wr.alloc (.cells #[.int .i64 (ks[k]).op, .int .i64 (ks[k]).n, .string ⟨(ks[k]).name.toArray⟩, .slice ka (ks[k]).kids.length kcap] 34)) := hbw.alloc hbb _
          generalize ks[k] = kid at *
          obtain ⟨ra, rc, rfl⟩ := own_sliceN hownr
          clear hTr hTL HK IH HG hownr hkt hbw
          unfold exV at hIH
          generalize hRR : S ++ namesL (ks.take (k + 1)) = RR at *
          have HRR := Lib.hid hRR
          clear hRR
          generalize (S ++ namesL (ks.take k)).length = rl at *
          go_wp2_with fail
          refine hIH.out.mono ?_
          rintro e w3 ⟨v3, rfl, hown3, hb3⟩
          have hB3 := hbA.trans hb3
          have HO3 : Hid (w3.ownsRow base 9 1 v3 (S ++ namesL (ks.take (k + 1))).length ((S ++ namesL (ks.take (k + 1))).map encStr)) := by unfold Hid; rw [HRR.out]; exact hown3
          clear hown3 hIH hbA hb3
          go_wp2
          go_roundw
          case rel => exact ⟨k + 1, by go_num, by rw [HL.out]; omega, HO3.out, hB3⟩
          case measure => simp [intOf]; omega
        · obtain rfl : k = len := by omega
          obtain ⟨ra, rc, rfl⟩ := own_sliceN hownr
          have HF : Hid (wr.ownsRow base 9 1 (.slice ra (S ++ namesL (ks.take k)).length rc) (S ++ namesL ks).length ((S ++ namesL ks).map encStr)) := by
            unfold Hid
            have : ks.take k = ks := List.take_of_length_le (by rw [HL.out]; exact Nat.le_refl _)
            rw [this] at hownr ⊢
            exact hownr
          clear hownr HK IH HG
          generalize (S ++ namesL (ks.take k)).length = rl at *
          go_wp2
          go_ret
          exact ⟨_, rfl, HF.out, hbw⟩
end Go.Proofs.YtohljihndoodfaaDoor.Ep

namespace Go.Proofs.YtohljihndoodfaaDoor.Ep
open Go.RowKit Lx Go.Sort

theorem names_len (t : Ex) : goodE t → ∀ m, 0 ≤ spareE t m → ((namesE t).length : Int) + spareE t m ≤ m := by
  induction t using Ex.ind with
  | h op n nm ks ih =>
    intro hg m hs
    rw [goodE] at hg
    obtain ⟨hf, hn, hgl⟩ := hg
    obtain ⟨he, hm, -⟩ := spareE_eq op n nm ks m hs
    rw [he] at hs ⊢
    have hin := (formed_true hf).1
    rcases opK_012 hin with hz | hz | hz
    · have hk := kids_0 hf hz
      subst hk
      rw [spareL_nil, namesE]
      split <;> simp [namesL] <;> omega
    · obtain ⟨k, rfl⟩ := kids_1 hf hz
      have h1' : op ≠ 1 := by rintro rfl; exact absurd hz (by decide)
      rw [goodL] at hgl
      rw [spareL_cons, spareL_nil] at hs ⊢
      rw [namesE, if_neg h1', namesL, namesL, List.append_nil]
      have h1 := ih k (by simp) hgl.1 _ hs
      split at h1 <;> rename_i hc <;> simp [hc] at * <;> omega
    · obtain ⟨k, l, rfl⟩ := kids_2 hf hz
      have h1' : op ≠ 1 := by rintro rfl; exact absurd hz (by decide)
      rw [goodL, goodL] at hgl
      rw [spareL_cons, spareL_cons, spareL_nil] at hs ⊢
      rw [namesE, if_neg h1', namesL, namesL, namesL, List.append_nil, List.length_append]
      have hs1 : 0 ≤ spareE k (if enclB op k.op 0 = true then m - 1 - 2 else m - 1) := by
        by_cases hneg : spareE k (if enclB op k.op 0 = true then m - 1 - 2 else m - 1) < 0
        · rw [spareE_nonpos l _ (by split <;> omega)] at hs; omega
        · omega
      have h1 := ih k (by simp) hgl.1 _ hs1
      have h2 := ih l (by simp) hgl.2.1 _ hs
      generalize spareE k (if enclB op k.op 0 = true then m - 1 - 2 else m - 1) = z at *
      by_cases ha : enclB op k.op 0 = true <;> by_cases hb : enclB op l.op 1 = true <;> simp [ha, hb] at * <;> omega
theorem may_names {t : Ex} (h : mayB t = true) (hn : numsE t) : (namesE t).length ≤ 64 := by
  have h1 : 0 ≤ spareE t 64 := by simpa [mayB] using h
  have := names_len t (may_good h hn) 64 h1
  omega

/-- A slice reads as these texts. -/
def SRow (w : World) (v : Value) (R : List (List UInt8)) : Prop :=
  ∃ a cap, v = .slice a R.length cap ∧ R.length ≤ cap ∧ (R ≠ [] → ∃ g, a = some ⟨g, 0, none⟩ ∧ g < w.heap.size ∧ ∀ k (_ : k < R.length), w.cell? ⟨g, k, none⟩ = some (.string ⟨(R.getD k []).toArray⟩))
theorem SRow.nil (w : World) : SRow w (.slice none 0 0) [] := ⟨none, 0, rfl, Nat.le_refl _, fun h => absurd rfl h⟩
theorem SRow.below {w w' : World} {v : Value} {R : List (List UInt8)} {B : Nat} (h : SRow w v R) (hb : Below B w w') (hB : w.heap.size ≤ B) : SRow w' v R := by
  obtain ⟨a, cap, hv, hc, hk⟩ := h
  refine ⟨a, cap, hv, hc, fun hne => ?_⟩
  obtain ⟨g, ha, hg, hcs⟩ := hk hne
  refine ⟨g, ha, Nat.lt_of_lt_of_le hg hb.size, fun k hk => ?_⟩
  rw [hb.cell (p := ⟨g, k, none⟩) (Nat.lt_of_lt_of_le hg hB)]
  exact hcs k hk
theorem SRow.own {w : World} {base : Nat} {v : Value} {n : Nat} {R : List (List UInt8)} (hn : n = R.length) (h : w.ownsRow base 9 1 v n (R.map encStr)) : SRow w v R := by
  subst hn
  rcases h.2 with ⟨rfl, h0⟩ | ⟨g, cap, cur, rfl, hbg, hh, h1, h2, h3, h4⟩
  · have : R = [] := List.length_eq_zero_iff.1 h0
    subst this
    exact SRow.nil w
  · refine ⟨some ⟨g, 0, none⟩, cap, rfl, h1, fun _ => ⟨g, rfl, (Array.getElem?_eq_some_iff.1 hh).1, fun k hk => ?_⟩⟩
    have := h.cells (g := g) rfl k (.string ⟨(R.getD k []).toArray⟩) (by
      rw [List.getElem?_map, List.getElem?_eq_getElem hk, List.getD_eq_getElem?_getD, List.getElem?_eq_getElem hk]
      rfl)
    have e : (⟨g, 0, none⟩ : Addr).add k = ⟨g, k, none⟩ := by
      unfold Addr.add
      split
      · subst_vars; rfl
      · simp
    rw [e] at this
    exact this

def NsPost (R : List (List UInt8)) (w : World) (e : Ending) (w' : World) : Prop := ∃ v, e = .returned v ∧ SRow w' v R ∧ Below w.heap.size w w'

/-- Behind the sort and the compacting. -/
theorem ns_left {w w1 : World} {g cap nn q : Nat} {os : Array Obj} {ss : List (List UInt8)} {B : Nat} (hown : w1.ownsRow B 9 1 (.slice (some ⟨g, 0, none⟩) ss.length cap) ss.length (ss.map encStr)) (hbel : Below B w w1) (hBw : B ≤ w1.heap.size) :
    SRow (putRow encStr (Sort.ahead (grow (putRow encStr (Sort.ahead w1 nn) g 0 (ss.mergeSort fun x y => decide (x ≤ y)).toArray) os) q) g 0 (Lib.compact (ss.mergeSort fun x y => decide (x ≤ y)) ++ List.replicate (ss.length - (Lib.compact (ss.mergeSort fun x y => decide (x ≤ y))).length) []).toArray)
      (.slice (some ⟨g, 0, none⟩) (Lib.compact (ss.mergeSort fun x y => decide (x ≤ y))).length cap) (Lib.compact (ss.mergeSort fun x y => decide (x ≤ y))) ∧
    Below B w (putRow encStr (Sort.ahead (grow (putRow encStr (Sort.ahead w1 nn) g 0 (ss.mergeSort fun x y => decide (x ≤ y)).toArray) os) q) g 0 (Lib.compact (ss.mergeSort fun x y => decide (x ≤ y)) ++ List.replicate (ss.length - (Lib.compact (ss.mergeSort fun x y => decide (x ≤ y))).length) []).toArray) := by
  have hl2 : (ss.mergeSort fun x y => decide (x ≤ y)).length = ss.length := List.length_mergeSort ss
  have hle := Lib.compact_length_le (ss.mergeSort fun x y => decide (x ≤ y))
  rcases hown.2 with ⟨h0, _⟩ | ⟨g', cap', cur, hv, hbase, hb, h1, h2, h3, h4⟩
  · cases h0
  cases hv
  have hs := ownsRow_sorted (n := nn) (os := os) (ts := ss.mergeSort fun x y => decide (x ≤ y)) hl2 hbase hb h1 h2 h3
  have hc := Lib.ownsRow_putRow (q := q) (k := (Lib.compact (ss.mergeSort fun x y => decide (x ≤ y))).length) (ys := Lib.compact (ss.mergeSort fun x y => decide (x ≤ y)) ++ List.replicate (ss.length - (Lib.compact (ss.mergeSort fun x y => decide (x ≤ y))).length) []) hs (by simp; omega) (by omega)
  rw [List.take_left] at hc
  exact ⟨SRow.own rfl hc, Lib.below_putRow (hbel.grown (grownBy_sorted _) hBw (fun j hj => by cases hj; exact hbase)) hbase⟩

set_option maxRecDepth 100000 in
set_option maxHeartbeats 4000000 in
theorem Names_any (t : Ex) (S : Nat → Prop) (x : Value) (w : World) (hO : Ops w) (hT : TreeV S w t x) (hN : numsE t) :
    Calls Tryd.prog 78 #[x] w (NsPost (namesP t) w) := by
  obtain ⟨a, cap, rfl, -, -⟩ := hT.open
  have hx0 := Box.new w 34 #[.int .i64 t.op, .int .i64 t.n, .string ⟨t.name.toArray⟩, .slice a t.kids.length cap]
  have hlO := hO.lt
  unfold exV
  go_enter Tryd.func78, Tryd.ntmps78
  go_wp2_with fail
  refine (May_any t S _ _ (hO.alloc _) (hT.alloc _)).mono ?_
  rintro e w1 ⟨rfl, hb1⟩
  have hbw1 := below_new hb1
  have hx1 := hx0.below hb1 hx0.lt
  have hT1 := TreeV.below hT hbw1 (Nat.le_refl _)
  have hs1 := hbw1.size
  clear hb1 hx0 hT
  cases hm : mayB t with
  | false =>
    have HX : Hid (namesP t = []) := by unfold Hid namesP; rw [hm]; rfl
    clear hm
    go_wp2
    go_ret
    exact ⟨_, rfl, by rw [HX.out]; exact SRow.nil _, hbw1⟩
  | true =>
    have HX : Hid (namesP t = (namesE t).foldl insN []) := by unfold Hid namesP; rw [hm]; rfl
    have hg := may_good hm hN
    have hlen := may_names hm hN
    clear hm
    obtain ⟨x0, x1, x2, x3, -, -, -, -⟩ := hx1.four
    have hTw := TreeV.low (lo' := fun k => k < w1.heap.size) (fun k hk => hk.2) _ _ (TreeV.within1 hT1)
    have HNM := Lib.hid (names_any t (fun k => k < w1.heap.size) w1.heap.size [] (.slice none 0 0) _ w1 hg (Nat.le_refl _) (fun _ h => h) hTw (World.ownsRow_nil _ _ _ _) (by simp; omega))
    rw [List.nil_append] at HNM
    rw [← names_same] at HX
    clear hTw hT1
    unfold exV at HNM
    have hlen2 := hlen
    generalize namesE t = ss at *
    go_wp2_with fail
    refine HNM.out.mono ?_
    rintro e w2 ⟨v2, rfl, hown2, hb2⟩
    have hB2 : Below w.heap.size w w2 := hbw1.trans (hb2.mono hs1)
    have hs2 := hb2.size
    clear HNM x0 x1 x2 x3 hx1
    obtain ⟨a2, c2, rfl⟩ := own_sliceN hown2
    by_cases hz : ss = []
    · subst hz
      have HE : Hid (namesP t = []) := by unfold Hid; rw [HX.out, names_same]; rfl
      clear HX hown2
      go_wp2_with fail
      refine (Tryd.slices_Sort_string_none _ _ _).mono ?_
      rintro e w3 ⟨rfl, rfl⟩
      go_wp2_with fail
      refine (Tryd.slices_Compact_string_empty _ _ _).mono ?_
      rintro e w4 ⟨rfl, rfl⟩
      go_wp2
      go_ret
      refine ⟨_, rfl, ?_, hB2⟩
      rw [HE.out]
      exact ⟨a2, c2, rfl, Nat.zero_le _, fun h => absurd rfl h⟩
    · obtain ⟨g, cap', hv, hbg, hgl, hncap, hcm, hll, hH⟩ := Lib.holds_of_ownsRow hown2 (by
        intro h
        injection h with h1 h2 h3
        exact hz (List.length_eq_zero_iff.1 h2))
      injection hv with hv1 hv2 hv3
      subst hv1 hv3
      have hpos : 0 < ss.length := List.length_pos_iff.2 hz
      have hsort := Tryd.slices_Sort_string g 0 c2 ss w2 hH hgl (by omega)
      have HSO := Lib.hid hsort
      have HOW := Lib.hid hown2
      have HHH := Lib.hid hH
      have hl2 : (ss.mergeSort fun x y => decide (x ≤ y)).length = ss.length := List.length_mergeSort ss
      have HCO : Hid (∀ nn os, Calls Tryd.prog 82 #[.slice (some ⟨g, 0, none⟩) ss.length c2] (grow (putRow encStr (Sort.ahead w2 nn) g 0 (ss.mergeSort fun x y => decide (x ≤ y)).toArray) os) fun e w' => e = .returned (.slice (some ⟨g, 0, none⟩) (Lib.compact (ss.mergeSort fun x y => decide (x ≤ y))).length c2) ∧ ∃ q, w' = putRow encStr (Sort.ahead (grow (putRow encStr (Sort.ahead w2 nn) g 0 (ss.mergeSort fun x y => decide (x ≤ y)).toArray) os) q) g 0 (Lib.compact (ss.mergeSort fun x y => decide (x ≤ y)) ++ List.replicate (ss.length - (Lib.compact (ss.mergeSort fun x y => decide (x ≤ y))).length) []).toArray) := by
        intro nn os
        have hH2 : Holds encStr (grow (putRow encStr (Sort.ahead w2 nn) g 0 (ss.mergeSort fun x y => decide (x ≤ y)).toArray) os) g 0 (ss.mergeSort fun x y => decide (x ≤ y)).toArray :=
          holds_grow encStr _ os g 0 _ (by simpa [putRow, mapBlock, Sort.ahead] using hgl) (holds_putRow encStr _ g 0 _ _ (holds_ahead encStr w2 nn g 0 _ hH) (by simp))
        have := Tryd.slices_Compact_string g 0 c2 (ss.mergeSort fun x y => decide (x ≤ y)) _ hH2 (by omega) (by omega)
        rw [hl2] at this
        exact this
      clear hown2 hH hsort hll hl2
      go_wp2_with fail
      refine HSO.out.mono ?_
      rintro e w3 ⟨rfl, nn, os, hw3⟩
      have HW3 := Lib.hid hw3
      have HCO2 : Hid (Calls Tryd.prog 82 #[.slice (some ⟨g, 0, none⟩) ss.length c2] w3 fun e w' => e = .returned (.slice (some ⟨g, 0, none⟩) (Lib.compact (ss.mergeSort fun x y => decide (x ≤ y))).length c2) ∧ ∃ q, w' = putRow encStr (Sort.ahead (grow (putRow encStr (Sort.ahead w2 nn) g 0 (ss.mergeSort fun x y => decide (x ≤ y)).toArray) os) q) g 0 (Lib.compact (ss.mergeSort fun x y => decide (x ≤ y)) ++ List.replicate (ss.length - (Lib.compact (ss.mergeSort fun x y => decide (x ≤ y))).length) []).toArray) := by
        unfold Hid; rw [hw3]; exact HCO.out nn os
      clear hw3 HCO HSO
      go_wp2_with fail
      refine HCO2.out.mono ?_
      rintro e w4 ⟨rfl, q, hw4⟩
      have HW4 := Lib.hid hw4
      clear hw4 HCO2
      have hfin := ns_left (nn := nn) (os := os) (q := q) HOW.out hb2 hs2
      rw [← HW4.out] at hfin
      have HF1 : Hid (SRow w4 (.slice (some ⟨g, 0, none⟩) (Lib.compact (ss.mergeSort fun x y => decide (x ≤ y))).length c2) (namesP t)) := by unfold Hid; rw [HX.out]; exact hfin.1
      have hB4 : Below w.heap.size w w4 := hbw1.trans (hfin.2.mono hs1)
      clear hfin HW4 HW3 HX
      generalize (Lib.compact (ss.mergeSort fun x y => decide (x ≤ y))).length = cl at *
      go_wp2
      go_ret
      exact ⟨_, rfl, HF1.out, hB4⟩
end Go.Proofs.YtohljihndoodfaaDoor.Ep
