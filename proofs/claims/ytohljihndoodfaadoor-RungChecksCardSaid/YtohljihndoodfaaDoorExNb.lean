/-
  The document's names and Names.
  The document's names at a name: it is put in its place.
  The document's names and Names; the law's comparison of lists of texts.
  The document's text of a tree. Its walks were printed by a script, a theorem for each way through the brackets.
  The document's Print.
-/
import Derived.Test.YtohljihndoodfaaDoorExNa
import Derived.Test.YtohljihndoodfaaDoorExVa
import Derived.Test.YtohljihndoodfaaDoorExNp
import Derived.Deep.RegionHeld
import Derived.Deep.QuietTactic
namespace Go.Proofs.YtohljihndoodfaaDoor.Ep
open Go.RowKit Lx

theorem bl_lt : ∀ (x y : List UInt8), Op.bytesLess x y = decide (x < y)
  | [], [] => by simp [Op.bytesLess]
  | [], y :: ys => by simp [Op.bytesLess]
  | x :: xs, [] => by simp [Op.bytesLess]
  | x :: xs, y :: ys => by
    rw [Op.bytesLess, bl_lt xs ys, Bool.eq_iff_iff]
    simp only [List.cons_lt_cons_iff, decide_eq_true_eq, Bool.or_eq_true, Bool.and_eq_true, beq_iff_eq]
theorem insN_len (l : List (List UInt8)) (nm : List UInt8) : (insN l nm).length ≤ l.length + 1 := by
  unfold insN
  split
  · omega
  · have : ∀ l, (putN nm l).length = l.length + 1 := by
      intro l
      induction l with
      | nil => rfl
      | cons x l ih => rw [putN]; split <;> simp [ih]
    rw [this]; exact Nat.le_refl _
theorem fold_len : ∀ (ns l : List (List UInt8)), (ns.foldl insN l).length ≤ l.length + ns.length
  | [], l => by simp
  | n :: ns, l => by
    rw [List.foldl_cons, List.length_cons]
    have h1 := fold_len ns (insN l n)
    have h2 := insN_len l n
    omega

/-- How far the list was copied: with the name put in, or not yet. -/
structure St (nm : List UInt8) (R : List (List UInt8)) (dn : Bool) (X : List (List UInt8)) (k : Nat) : Prop where
  no : nm ∉ R.take k
  len : X.length ≤ k + 1
  yes : dn = true → X ++ R.drop k = putN nm R
  yet : dn = false → X = R.take k ∧ putN nm R = R.take k ++ putN nm (R.drop k)
theorem St.start (nm : List UInt8) (R : List (List UInt8)) : St nm R false [] 0 := ⟨by simp, by simp, fun h => (by cases h), fun _ => by simp⟩
theorem drop_getD' (R : List (List UInt8)) (k : Nat) (h : k < R.length) : R.drop k = R.getD k [] :: R.drop (k + 1) := by
  rw [List.drop_eq_getElem_cons h, List.getD_eq_getElem?_getD, List.getElem?_eq_getElem h]; rfl
theorem take_getD' (R : List (List UInt8)) (k : Nat) (h : k < R.length) : R.take (k + 1) = R.take k ++ [R.getD k []] := by
  rw [List.take_succ_eq_append_getElem h, List.getD_eq_getElem?_getD, List.getElem?_eq_getElem h]; rfl
theorem St.no' {nm : List UInt8} {R : List (List UInt8)} {dn : Bool} {X : List (List UInt8)} {k : Nat} (h : St nm R dn X k) (hk : k < R.length) (hx : R.getD k [] ≠ nm) : nm ∉ R.take (k + 1) := by
  rw [take_getD' R k hk, List.mem_append, List.mem_singleton]
  rintro (q | q)
  · exact h.no q
  · exact hx q.symm
theorem St.put {nm : List UInt8} {R : List (List UInt8)} {X : List (List UInt8)} {k : Nat} (h : St nm R false X k) (hk : k < R.length) (hx : R.getD k [] ≠ nm) (hl : nm < R.getD k []) : St nm R true (X ++ [nm] ++ [R.getD k []]) (k + 1) := by
  obtain ⟨h1, h2⟩ := h.yet rfl
  refine ⟨h.no' hk hx, by have := h.len; subst h1; simp; omega, fun _ => ?_, fun q => (by cases q)⟩
  rw [h2, drop_getD' R k hk, putN, if_pos hl, h1]
  simp
theorem St.skip {nm : List UInt8} {R : List (List UInt8)} {X : List (List UInt8)} {k : Nat} (h : St nm R false X k) (hk : k < R.length) (hx : R.getD k [] ≠ nm) (hl : ¬ nm < R.getD k []) : St nm R false (X ++ [R.getD k []]) (k + 1) := by
  obtain ⟨h1, h2⟩ := h.yet rfl
  refine ⟨h.no' hk hx, by have := h.len; subst h1; simp; omega, fun q => (by cases q), fun _ => ?_⟩
  rw [h1, take_getD' R k hk]
  refine ⟨rfl, ?_⟩
  rw [h2, drop_getD' R k hk, putN, if_neg hl]
  simp
theorem St.on {nm : List UInt8} {R : List (List UInt8)} {X : List (List UInt8)} {k : Nat} (h : St nm R true X k) (hk : k < R.length) (hx : R.getD k [] ≠ nm) : St nm R true (X ++ [R.getD k []]) (k + 1) := by
  refine ⟨h.no' hk hx, by have := h.len; simp; omega, fun _ => ?_, fun q => (by cases q)⟩
  rw [← h.yes rfl, drop_getD' R k hk]
  simp
theorem St.end_yes {nm : List UInt8} {R : List (List UInt8)} {X : List (List UInt8)} (h : St nm R true X R.length) : X = insN R nm := by
  have h1 := h.no
  have h2 := h.yes rfl
  rw [List.take_length] at h1
  rw [List.drop_length, List.append_nil] at h2
  unfold insN
  rw [if_neg h1]
  exact h2
theorem St.end_yet {nm : List UInt8} {R : List (List UInt8)} {X : List (List UInt8)} (h : St nm R false X R.length) : X ++ [nm] = insN R nm := by
  have h1 := h.no
  obtain ⟨h2, h3⟩ := h.yet rfl
  rw [List.take_length] at h1 h2 h3
  rw [List.drop_length, putN] at h3
  unfold insN
  rw [if_neg h1, h2]
  exact h3.symm

def RlRel (nm : List UInt8) (n : Int) (R : List (List UInt8)) (a : Option Addr) (cap : Nat) (w0 : World) (b : Nat) (o d i : Value) (wr : World) : Prop :=
  ∃ (k : Nat) (dn : Bool) (X : List (List UInt8)), i = .int .i64 (k : Int) ∧ d = .bool dn ∧ k ≤ R.length ∧ wr.ownsRow w0.heap.size 9 1 o X.length (X.map encStr) ∧ Below w0.heap.size w0 wr ∧ Box wr b 34 #[.int .i64 1, .int .i64 n, .string ⟨nm.toArray⟩, .slice a 0 cap] ∧ Hid (St nm R dn X k)
end Go.Proofs.YtohljihndoodfaaDoor.Ep

namespace Go.Proofs.YtohljihndoodfaaDoor.Ep
open Go.RowKit Lx Go.Sort

theorem own_drewN {w : World} {base : Nat} {e : TypeId} {size : Nat} {v : Value} {n : Nat} {xs : List Value} (h : w.ownsRow base e size v n xs) (q : Nat) : (w.drewN q).ownsRow base e size v n xs := h
theorem box_drewN {w : World} {g : Nat} {t : TypeId} {cs : Array Value} (h : Box w g t cs) (q : Nat) : Box (w.drewN q) g t cs := h
/-- One more text behind a row of one's own. -/
theorem app_post {w2 : World} {B g1 cap1 : Nat} {X : List (List UInt8)} {s : List UInt8}
    (h1 : w2.ownsRow B 9 1 (.slice (some ⟨g1, 0, none⟩) (X.length + 1) cap1) (X.length + 1) (X.map encStr ++ [.string ⟨s.toArray⟩])) :
    w2.ownsRow B 9 1 (.slice (some ⟨g1, 0, none⟩) (X ++ [s]).length cap1) (X ++ [s]).length ((X ++ [s]).map encStr) := by
  rw [List.length_append, List.map_append]
  exact h1
theorem app_rel {w2 : World} {B g1 cap1 : Nat} {X : List (List UInt8)} {s : List UInt8}
    (h1 : w2.ownsRow B 9 1 (.slice (some ⟨g1, 0, none⟩) (X.length + 1) cap1) (X.length + 1) (X.map encStr ++ [.string ⟨s.toArray⟩])) :
    w2.ownsRow B 9 1 (.slice (some ⟨g1, 0, none⟩) (X.length + 1) cap1) (X ++ [s]).length ((X ++ [s]).map encStr) := by
  rw [List.length_append, List.map_append]
  exact h1
theorem app_rel2 {w2 : World} {B g1 cap1 : Nat} {X : List (List UInt8)} {r s : List UInt8}
    (h1 : w2.ownsRow B 9 1 (.slice (some ⟨g1, 0, none⟩) (X.length + 1 + 1) cap1) (X.length + 1 + 1) (X.map encStr ++ [encStr r, .string ⟨s.toArray⟩])) :
    w2.ownsRow B 9 1 (.slice (some ⟨g1, 0, none⟩) (X.length + 1 + 1) cap1) (X ++ [r] ++ [s]).length ((X ++ [r] ++ [s]).map encStr) := by
  rw [List.length_append, List.length_append, List.map_append, List.map_append, List.append_assoc]
  exact h1

set_option maxRecDepth 100000 in
set_option maxHeartbeats 4000000 in
theorem rnames_leaf (n : Int) (nm : List UInt8) (a : Option Addr) (cap : Nat) (R : List (List UInt8)) (l : Value) (w : World) (hR : SRow w l R) (hl : R.length ≤ 1000000) :
    Calls Tryd.prog 72 #[.agg #[.int .i64 1, .int .i64 n, .string ⟨nm.toArray⟩, .slice a 0 cap], l] w (NsPost (insN R nm) w) := by
  obtain ⟨inf, hinf, hz0, hz1, hz2⟩ := info_parts info_strN
  have HRR := Lib.hid hR
  obtain ⟨la, lc, rfl, hlc, hcells⟩ := hR
  have HC := Lib.hid hcells
  clear hcells
  have hbA : Below w.heap.size w (w.alloc (.cells #[.int .i64 1, .int .i64 n, .string ⟨nm.toArray⟩, .slice a 0 cap] 34)) := (Below.refl _ _).alloc (Nat.le_refl _) _
  have hx0 := Box.new w 34 #[.int .i64 1, .int .i64 n, .string ⟨nm.toArray⟩, .slice a 0 cap]
  have hsz0 : w.heap.size < (w.alloc (.cells #[.int .i64 1, .int .i64 n, .string ⟨nm.toArray⟩, .slice a 0 cap] 34)).heap.size := by simp
  generalize hlen : R.length = len at *
  have HL := Lib.hid hlen
  clear hlen
  go_enter Tryd.func72, Tryd.ntmps72
  go_wp2_with fail
  refine wp_loop_rounds 1 ?_
  rw [rounds_succ]
  go_wp2_with fail
  generalize hw0 : (w.alloc (.cells #[.int .i64 1, .int .i64 n, .string ⟨nm.toArray⟩, .slice a 0 cap] 34)) = w0 at *
  clear hw0
  go_loopw [6, 7, 8] (RlRel nm n R a cap w0 w.heap.size) (fun _ _ i _ => len - (intOf i).toNat)
  case atStart => exact ⟨0, false, [], rfl, rfl, Nat.zero_le _, World.ownsRow_nil _ _ _ _, Below.refl _ _, hx0, Lib.hid (St.start nm R)⟩
  case round =>
    obtain ⟨k, dn, X, rfl, rfl, hk, hown, hbw, hbx, HST⟩ := hrel
    rw [HL.out] at hk
    obtain ⟨x0, x1, x2, x3, -, -, -, -⟩ := hbx.four
    have hxl := hbx.lt
    have hXl := HST.out.len
    have hBw : Below w.heap.size w wr := hbA.trans (hbw.mono (by omega))
    obtain ⟨oa, oc, rfl⟩ := own_sliceN hown
    by_cases hlt : k < len
    · have hkR : k < R.length := by rw [HL.out]; exact hlt
      have hne : R ≠ [] := by intro e; rw [e] at hkR; simp at hkR
      obtain ⟨g, rfl, hg, hcs⟩ := HC.out hne
      have ck : wr.cell? ⟨g, k, none⟩ = some (.string ⟨(R.getD k []).toArray⟩) := (hBw.cell (p := ⟨g, k, none⟩) hg).trans (hcs k hlt)
      have hgr' : g < wr.heap.size := Nat.lt_of_lt_of_le hg hBw.size
      have hki : (k : Int) < (len : Int) := by omega
      have HS1 := Lib.hid (fun hx => HST.out.no' (dn := dn) hkR hx)
      by_cases he : R.getD k [] = nm
      · have HI : Hid (insN R nm = R) := by
          unfold Hid insN
          rw [if_pos]
          rw [← he, List.getD_eq_getElem?_getD, List.getElem?_eq_getElem hkR]
          exact List.getElem_mem hkR
        have q1 : (R.getD k [] == nm) = true := beq_iff_eq.2 he
        have q2 : (nm == R.getD k []) = true := beq_iff_eq.2 he.symm
        generalize R.getD k [] = x at *
        have hSR : SRow (wr) (.slice (some ⟨g, 0, none⟩) len lc) R := HRR.out.below hBw (Nat.le_refl _)
        have HSR := Lib.hid hSR
        clear hcs HC hown HS1 HST he hSR
        go_wp2_with fail
        go_quiet (fail)
        go_wp2
        go_ret
        exact ⟨_, rfl, by rw [HI.out]; exact HSR.out, hBw.drewN _⟩
      · have q1 : (R.getD k [] == nm) = false := beq_eq_false_iff_ne.2 he
        have q2 : (nm == R.getD k []) = false := beq_eq_false_iff_ne.2 (fun e => he e.symm)
        have HNE := Lib.hid he
        have hge := own_geN hown
        have HAP : Hid (∀ q o w2, ((wr.drewN q).alloc o).grownBy w2 (Value.slice oa X.length oc).ownBlock → Below w0.heap.size wr w2) := fun q o w2 hgr => (((Below.refl w0.heap.size wr).drewN q).alloc hbw.size o).grown hgr (by have := hbw.size; simp; omega) hge
        have HOW : Hid (∀ q s, ((wr.drewN q).alloc (.cells #[.string ⟨s⟩] 9)).ownsRow w0.heap.size 9 1 (.slice oa X.length oc) X.length (X.map encStr)) := fun q s => own_keepN (own_drewN hown q) ((Below.refl _ _).alloc (Nat.le_refl _) _)
        have hwrs := hbw.size
        have hCK : ∀ w2, Below w0.heap.size wr w2 → w2.cell? ⟨g, k, none⟩ = some (.string ⟨(R.getD k []).toArray⟩) := fun w2 h => (h.cell (p := ⟨g, k, none⟩) (show g < w0.heap.size by omega)).trans ck
        have HCK := Lib.hid hCK
        clear hCK hge hown
        cases dn
        · by_cases hless : nm < R.getD k []
          · have ql : Op.bytesLess nm (R.getD k []) = true := by rw [bl_lt]; simpa using hless
            have HNX := Lib.hid (HST.out.put hkR he hless)
            clear he hless hcs HC HS1 HST
            generalize R.getD k [] = x at *
            go_wp2_with fail
            go_quiet (fail)
            go_wp2_with fail
            go_quiet (fail)
            go_wp2_with (at_builtin; refine wpList_append_lies _ rfl _ _ 23 rfl w0.heap.size 9 inf (.string ⟨#[]⟩) 1 16 Tryd.underlying23 hinf hz0 hz1 hz2 rfl (by decide) _ _ _ rfl (HOW.out _ _) ⟨wr.heap.size, 0, none⟩ 1 1 [.string ⟨nm.toArray⟩] rfl rfl ?c1 ?c2 ?c3 ?c4 ?c5 ?c6 (wr.heap.size + 1) ?c7 ?_)
            case c1 => exact newS _ _
            case c2 => exact oneS _
            case c3 => decide
            case c4 => unfold maxLen; omega
            case c5 => omega
            case c6 => have := hbw.size; simp; omega
            case c7 => simp
            intro g1 cap1 w2 h1 hgr hor hlt2
            have hw2 := HAP.out _ _ _ hgr
            have hB2 := hbw.trans hw2
            have hbx2 := hbx.below hw2 (by omega)
            have ck2 := HCK.out _ hw2
            have hgr2 : g < w2.heap.size := Nat.lt_of_lt_of_le hgr' hw2.size
            have h1' := app_post h1
            have hge2 := own_geN h1'
            have HAP2 : Hid (∀ o w3, (w2.alloc o).grownBy w3 (Value.slice (some ⟨g1, 0, none⟩) (X ++ [nm]).length cap1).ownBlock → Below w0.heap.size w2 w3) := fun o w3 hgr => ((Below.refl w0.heap.size w2).alloc hB2.size o).grown hgr (by have := hB2.size; simp; omega) hge2
            have HOW2 : Hid (∀ s, (w2.alloc (.cells #[.string ⟨s⟩] 9)).ownsRow w0.heap.size 9 1 (.slice (some ⟨g1, 0, none⟩) (X.length + 1) cap1) (X.length + 1) ((X ++ [nm]).map encStr)) := fun s => by have := own_keepN h1' ((Below.refl _ w2).alloc (Nat.le_refl _) (.cells #[.string ⟨s⟩] 9)); rw [List.length_append] at this; exact this
            have hB2s := hB2.size
            have hXn : (X ++ [nm]).length = X.length + 1 := by simp
            have hXn2 : (X ++ [nm]).length ≤ k + 2 := by omega
            have HXN := Lib.hid hXn
            clear h1 h1' hgr hor hw2 hge2 x0 x1 x2 x3 hXn ck
            go_wp2_with (at_builtin; refine wpList_append_lies _ rfl _ _ 23 rfl w0.heap.size 9 inf (.string ⟨#[]⟩) 1 16 Tryd.underlying23 hinf hz0 hz1 hz2 rfl (by decide) _ _ _ rfl (HOW2.out _) ⟨w2.heap.size, 0, none⟩ 1 1 [.string ⟨x.toArray⟩] rfl rfl ?d1 ?d2 ?d3 ?d4 ?d5 ?d6 (w2.heap.size + 1) ?d7 ?_)
            case d1 => exact newS _ _
            case d2 => exact oneS _
            case d3 => decide
            case d4 => unfold maxLen; omega
            case d5 => omega
            case d6 => simp; omega
            case d7 => simp
            intro g2 cap2 w3 h3 hgr3 hor3 hlt3
            have hw3 := HAP2.out _ _ hgr3
            have hB3 := hB2.trans hw3
            have hbx3 := hbx2.below hw3 (by omega)
            have H1 := Lib.hid h3
            clear h3 hgr3 hor3 hw3
            go_wp2_with fail
            go_roundw
            case rel => exact ⟨k + 1, true, _, by go_num, rfl, by rw [HL.out]; omega, app_rel2 H1.out, hB3, hbx3, HNX.out⟩
            case measure => simp [intOf]; omega
          · have ql : Op.bytesLess nm (R.getD k []) = false := by rw [bl_lt]; simpa using hless
            have HNX := Lib.hid (HST.out.skip hkR he hless)
            clear he hless hcs HC HS1 HST
            generalize R.getD k [] = x at *
            go_wp2_with fail
            go_quiet (fail)
            go_wp2_with fail
            go_quiet (fail)
            go_wp2_with (at_builtin; refine wpList_append_lies _ rfl _ _ 23 rfl w0.heap.size 9 inf (.string ⟨#[]⟩) 1 16 Tryd.underlying23 hinf hz0 hz1 hz2 rfl (by decide) _ _ _ rfl (HOW.out _ _) ⟨wr.heap.size, 0, none⟩ 1 1 [.string ⟨x.toArray⟩] rfl rfl ?c1 ?c2 ?c3 ?c4 ?c5 ?c6 (wr.heap.size + 1) ?c7 ?_)
            case c1 => exact newS _ _
            case c2 => exact oneS _
            case c3 => decide
            case c4 => unfold maxLen; omega
            case c5 => omega
            case c6 => have := hbw.size; simp; omega
            case c7 => simp
            intro g1 cap1 w2 h1 hgr hor hlt2
            have hw2 := HAP.out _ _ _ hgr
            have hB2 := hbw.trans hw2
            have hbx2 := hbx.below hw2 (by omega)
            have H1 := Lib.hid h1
            clear h1 hgr hor hw2
            go_wp2_with fail
            go_roundw
            case rel => exact ⟨k + 1, false, _, by go_num, rfl, by rw [HL.out]; omega, app_rel H1.out, hB2, hbx2, HNX.out⟩
            case measure => simp [intOf]; omega
        · have HNX := Lib.hid (HST.out.on hkR he)
          clear he hcs HC HS1 HST
          generalize R.getD k [] = x at *
          go_wp2_with fail
          go_quiet (fail)
          go_wp2_with fail
          go_quiet (fail)
          go_wp2_with (at_builtin; refine wpList_append_lies _ rfl _ _ 23 rfl w0.heap.size 9 inf (.string ⟨#[]⟩) 1 16 Tryd.underlying23 hinf hz0 hz1 hz2 rfl (by decide) _ _ _ rfl (HOW.out _ _) ⟨wr.heap.size, 0, none⟩ 1 1 [.string ⟨x.toArray⟩] rfl rfl ?c1 ?c2 ?c3 ?c4 ?c5 ?c6 (wr.heap.size + 1) ?c7 ?_)
          case c1 => exact newS _ _
          case c2 => exact oneS _
          case c3 => decide
          case c4 => unfold maxLen; omega
          case c5 => omega
          case c6 => have := hbw.size; simp; omega
          case c7 => simp
          intro g1 cap1 w2 h1 hgr hor hlt2
          have hw2 := HAP.out _ _ _ hgr
          have hB2 := hbw.trans hw2
          have hbx2 := hbx.below hw2 (by omega)
          have H1 := Lib.hid h1
          clear h1 hgr hor hw2
          go_wp2_with fail
          go_roundw
          case rel => exact ⟨k + 1, true, _, by go_num, rfl, by rw [HL.out]; omega, app_rel H1.out, hB2, hbx2, HNX.out⟩
          case measure => simp [intOf]; omega
    · obtain rfl : k = len := by omega
      have HSE := HST
      rw [← HL.out] at HSE
      cases dn
      · have HE : Hid (X ++ [nm] = insN R nm) := HSE.out.end_yet
        have hge := own_geN hown
        have HAP : Hid (∀ o w2, (wr.alloc o).grownBy w2 (Value.slice oa X.length oc).ownBlock → Below w0.heap.size wr w2) := fun o w2 hgr => ((Below.refl w0.heap.size wr).alloc hbw.size o).grown hgr (by have := hbw.size; simp; omega) hge
        have HOW : Hid (∀ s, (wr.alloc (.cells #[.string ⟨s⟩] 9)).ownsRow w0.heap.size 9 1 (.slice oa X.length oc) X.length (X.map encStr)) := fun s => own_keepN hown ((Below.refl _ _).alloc (Nat.le_refl _) _)
        have hwrs := hbw.size
        clear hge hown HST HSE HC
        go_wp2_with (at_builtin; refine wpList_append_lies _ rfl _ _ 23 rfl w0.heap.size 9 inf (.string ⟨#[]⟩) 1 16 Tryd.underlying23 hinf hz0 hz1 hz2 rfl (by decide) _ _ _ rfl (HOW.out _) ⟨wr.heap.size, 0, none⟩ 1 1 [.string ⟨nm.toArray⟩] rfl rfl ?c1 ?c2 ?c3 ?c4 ?c5 ?c6 (wr.heap.size + 1) ?c7 ?_)
        case c1 => exact newS _ _
        case c2 => exact oneS _
        case c3 => decide
        case c4 => unfold maxLen; omega
        case c5 => omega
        case c6 => simp; omega
        case c7 => simp
        intro g1 cap1 w2 h1 hgr hor hlt2
        have hw2 := HAP.out _ _ hgr
        have hB2 := hBw.trans (hw2.mono (by omega))
        have h1' := app_post h1
        rw [HE.out] at h1'
        have HS := Lib.hid (SRow.own rfl h1')
        have HLE : Hid (X.length + 1 = (insN R nm).length) := by unfold Hid; rw [← HE.out]; simp
        clear h1 h1' hgr hor hw2
        go_wp2
        go_ret
        exact ⟨_, rfl, by have := HS.out; rw [← HLE.out] at this; exact this, hB2⟩
      · have HE : Hid (X = insN R nm) := HSE.out.end_yes
        have HS := Lib.hid (SRow.own rfl hown)
        clear hown HST HSE HC
        go_wp2
        go_ret
        exact ⟨_, rfl, by rw [← HE.out]; exact HS.out, hBw⟩
end Go.Proofs.YtohljihndoodfaaDoor.Ep

namespace Go.Proofs.YtohljihndoodfaaDoor.Ep
open Go.RowKit Lx Go.Sort

def RnRel (R : List (List UInt8)) (ks : List Ex) (cs : Array Value) (w : World) (l i : Value) (wr : World) : Prop :=
  ∃ k : Nat, i = .int .i64 (k : Int) ∧ k ≤ ks.length ∧ SRow wr l ((namesL (ks.take k)).foldl insN R) ∧ Box wr w.heap.size 34 cs ∧ Below w.heap.size w wr
set_option maxRecDepth 100000 in
set_option maxHeartbeats 4000000 in
theorem rnames_any (t : Ex) : ∀ (lo : Nat → Prop) (R : List (List UInt8)) (l x : Value) (w : World), goodE t → TreeV lo w t x → SRow w l R → R.length + (namesE t).length ≤ 1000000 →
    Calls Tryd.prog 72 #[x, l] w (NsPost ((namesE t).foldl insN R) w) := by
  induction t using Ex.ind with
  | h op n nm ks ih =>
    intro lo R l x w hg hT hR hlen
    unfold TreeV at hT
    obtain ⟨a, cap, rfl, hcap, hk⟩ := hT
    rw [goodE] at hg
    have hin := (formed_true hg.1).1
    unfold exV
    by_cases h1 : op = 1
    · subst h1
      have hks := kids_0 hg.1 (by decide)
      subst hks
      rw [namesE, if_pos rfl]
      exact rnames_leaf n nm a cap R l w hR (by omega)
    · rw [namesE, if_neg h1]
      rw [namesE, if_neg h1] at hlen
      have hks2 : ks.length ≤ 2 := by
        rcases opK_012 hin with h | h | h
        · rw [kids_0 hg.1 h]; simp
        · obtain ⟨k, rfl⟩ := kids_1 hg.1 h; simp
        · obtain ⟨k, l, rfl⟩ := kids_2 hg.1 h; simp
      have d1 : (op != 1) = true := by simpa using h1
      have HK := Lib.hid hk
      have IH := Lib.hid ih
      have HG := Lib.hid ((goodL_all _).1 hg.2.2)
      have HR := Lib.hid hR
      obtain ⟨la, lc, rfl, hlc, hcells⟩ := hR
      have hb1 : Below w.heap.size w (w.alloc (.cells #[.int .i64 op, .int .i64 n, .string ⟨nm.toArray⟩, .slice a ks.length cap] 34)) := (Below.refl _ _).alloc (Nat.le_refl _) _
      have HB1 := Lib.hid hb1
      have HX0 := Lib.hid (Box.new w 34 #[.int .i64 op, .int .i64 n, .string ⟨nm.toArray⟩, .slice a ks.length cap])
      have HLEN := Lib.hid hlen
      clear hk ih hg hcells hb1 hlen
      generalize hL : ks.length = len at *
      have HL := Lib.hid hL
      clear hL
      generalize hRl : R.length = rl at *
      have HRL := Lib.hid hRl
      clear hRl
      go_enter Tryd.func72, Tryd.ntmps72
      go_wp2_with fail
      go_loopw [1, 5] (RnRel R ks #[.int .i64 op, .int .i64 n, .string ⟨nm.toArray⟩, .slice a len cap] w) (fun _ i _ => len - (intOf i).toNat)
      case atStart => exact ⟨0, rfl, by omega, by simpa [namesL] using HR.out.below HB1.out (Nat.le_refl _), HX0.out, HB1.out⟩
      case round =>
        clear HX0 HB1
        obtain ⟨k, rfl, hkl, hrow, hbx, hbw⟩ := hrel
        rw [HL.out] at hkl
        obtain ⟨x0, x1, x2, x3, -, -, -, -⟩ := hbx.four
        have hxl := hbx.lt
        by_cases hlt : k < len
        · have hki : k < ks.length := by rw [HL.out]; exact hlt
          have hne : ks ≠ [] := by intro e; rw [e] at hki; simp at hki
          obtain ⟨g, off, rfl, hg1, hg2, hTL⟩ := HK.out hne
          have hTr := TreeL.keep (w' := wr) hbw.size (fun b _ hb => hbw.block b hb) g hg1 hg2 off ks hTL
          obtain ⟨ka, kcap, c0, c1, c2, c3, hkt⟩ := TreeL.at_ ks off k hki hTr
          have hIH := Lib.hid (IH.out (ks[k]) (List.getElem_mem hki) lo _ _ (exV (ks[k]).op (ks[k]).n (ks[k]).name ka (ks[k]).kids.length kcap) wr (HG.out _ (List.getElem_mem hki)) hkt hrow
            (by
              have e1 := namesL_take ks k hki
              have e2 := namesL_le ks (k + 1)
              have e3 := fold_len (namesL (ks.take k)) R
              have e4 := HLEN.out
              have e5 := HRL.out
              rw [e1] at e2
              simp only [List.length_append] at e2
              omega))
          rw [← List.foldl_append, ← namesL_take ks k hki] at hIH
          have hgr : g < wr.heap.size := Nat.lt_of_lt_of_le hg2 hbw.size
          have hki1 : (k : Int) < (len : Int) := by omega
          generalize ks[k] = kid at *
          obtain ⟨ra, rc, rfl, hrc, hrk⟩ := hrow
          clear hTr hTL HK IH HG hkt hrk
          unfold exV at hIH
          generalize ((namesL (ks.take k)).foldl insN R).length = rl at *
          go_wp2_with fail
          refine hIH.out.mono ?_
          rintro e w3 ⟨v3, rfl, hrow3, hb3⟩
          have hB3 := hbw.trans (hb3.mono hbw.size)
          have hbx3 := hbx.below hb3 hxl
          have HR3 := Lib.hid hrow3
          clear hrow3 hIH hbw hb3 hbx x0 x1 x2 x3
          go_wp2
          go_roundw
          case rel => exact ⟨k + 1, by go_num, by rw [HL.out]; omega, HR3.out, hbx3, hB3⟩
          case measure => simp [intOf]; omega
        · obtain rfl : k = len := by omega
          have hrow' := hrow
          rw [List.take_of_length_le (by rw [HL.out]; exact Nat.le_refl _)] at hrow'
          have HF := Lib.hid hrow'
          clear hrow'
          obtain ⟨ra, rc, rfl, hrc, hrk⟩ := hrow
          clear hrk HK IH HG
          generalize ((namesL (ks.take k)).foldl insN R).length = rl at *
          go_wp2
          go_ret
          exact ⟨_, rfl, HF.out, hbw⟩

set_option maxRecDepth 100000 in
set_option maxHeartbeats 4000000 in
theorem refNames_any (t : Ex) (S : Nat → Prop) (x : Value) (w : World) (hT : TreeV S w t x) (hN : numsE t) (hs : shortE t) :
    Calls Tryd.prog 56 #[x] w (NsPost (namesP t) w) := by
  obtain ⟨a, cap, rfl, -, -⟩ := hT.open
  have hx0 := Box.new w 34 #[.int .i64 t.op, .int .i64 t.n, .string ⟨t.name.toArray⟩, .slice a t.kids.length cap]
  have HM := Lib.hid (refMay_any t S _ _ (hT.alloc (.cells #[.int .i64 t.op, .int .i64 t.n, .string ⟨t.name.toArray⟩, .slice a t.kids.length cap] 34)) hs)
  unfold exV at HM ⊢
  go_enter Tryd.func56, Tryd.ntmps56
  go_wp2_with fail
  refine HM.out.mono ?_
  rintro e w1 ⟨rfl, hb1⟩
  have hbw1 := below_new hb1
  have hx1 := hx0.below hb1 hx0.lt
  have hT1 := TreeV.below hT hbw1 (Nat.le_refl _)
  have hs1 := hbw1.size
  clear hb1 hx0 hT HM
  cases hm : mayB t with
  | false =>
    have HX : Hid (namesP t = []) := by unfold Hid namesP; rw [hm]; rfl
    clear hm
    go_wp2
    go_ret
    exact ⟨_, rfl, by rw [HX.out]; exact SRow.nil _, hbw1⟩
  | true =>
    have HX : Hid (namesP t = (namesE t).foldl insN []) := by unfold Hid namesP; rw [hm]; rfl
    have hg := may_good hm hN
    have hlen := may_names hm hN
    clear hm
    obtain ⟨x0, x1, x2, x3, -, -, -, -⟩ := hx1.four
    have HNM := Lib.hid (rnames_any t S [] (.slice none 0 0) _ w1 hg hT1 (SRow.nil _) (by simp; omega))
    rw [← HX.out] at HNM
    clear hT1 hlen
    unfold exV at HNM
    generalize namesP t = R at *
    clear HX
    go_wp2_with fail
    refine HNM.out.mono ?_
    rintro e w2 ⟨v2, rfl, hrow2, hb2⟩
    have hB2 : Below w.heap.size w w2 := hbw1.trans (hb2.mono hs1)
    have HR2 := Lib.hid hrow2
    obtain ⟨ra, rc, rfl, hrc, hrk⟩ := hrow2
    clear HNM hrk x0 x1 x2 x3 hx1
    go_wp2
    go_ret
    exact ⟨_, rfl, HR2.out, hB2⟩
end Go.Proofs.YtohljihndoodfaaDoor.Ep
