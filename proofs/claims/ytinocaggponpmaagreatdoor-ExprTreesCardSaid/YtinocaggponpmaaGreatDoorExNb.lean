/-
  The document's names and Names.
  The document's names at a name: it is put in its place.
  The document's names and Names; the law's comparison of lists of texts.
  The document's text of a tree. Its walks were printed by a script, a theorem for each way through the brackets.
  The document's Print.
-/
import Derived.Test.YtinocaggponpmaaGreatDoorExNa
import Derived.Test.YtinocaggponpmaaGreatDoorExVa
import Derived.Test.YtinocaggponpmaaGreatDoorExUa
import Derived.Test.YtinocaggponpmaaGreatDoorLexR2
import Derived.Deep.RegionHeld
import Derived.Deep.QuietTactic
namespace Go.Proofs.YtinocaggponpmaaGreatDoor.Ep
open Go.RowKit Lx

theorem bl_lt : ∀ (x y : List UInt8), Op.bytesLess x y = decide (x < y)
  | [], [] => by simp [Op.bytesLess]
  | [], y :: ys => by simp [Op.bytesLess]
  | x :: xs, [] => by simp [Op.bytesLess]
  | x :: xs, y :: ys => by
    rw [Op.bytesLess, bl_lt xs ys, Bool.eq_iff_iff]
    simp only [List.cons_lt_cons_iff, decide_eq_true_eq, Bool.or_eq_true, Bool.and_eq_true, beq_iff_eq]
theorem insN_len (l : List (List UInt8)) (nm : List UInt8) : (insN l nm).length ≤ l.length + 1 := by
  unfold insN
  split
  · omega
  · have : ∀ l, (putN nm l).length = l.length + 1 := by
      intro l
      induction l with
      | nil => rfl
      | cons x l ih => rw [putN]; split <;> simp [ih]
    rw [this]; exact Nat.le_refl _
theorem fold_len : ∀ (ns l : List (List UInt8)), (ns.foldl insN l).length ≤ l.length + ns.length
  | [], l => by simp
  | n :: ns, l => by
    rw [List.foldl_cons, List.length_cons]
    have h1 := fold_len ns (insN l n)
    have h2 := insN_len l n
    omega

/-- How far the list was copied: with the name put in, or not yet. -/
structure St (nm : List UInt8) (R : List (List UInt8)) (dn : Bool) (X : List (List UInt8)) (k : Nat) : Prop where
  no : nm ∉ R.take k
  len : X.length ≤ k + 1
  yes : dn = true → X ++ R.drop k = putN nm R
  yet : dn = false → X = R.take k ∧ putN nm R = R.take k ++ putN nm (R.drop k)
theorem St.start (nm : List UInt8) (R : List (List UInt8)) : St nm R false [] 0 := ⟨by simp, by simp, fun h => (by cases h), fun _ => by simp⟩
theorem drop_getD' (R : List (List UInt8)) (k : Nat) (h : k < R.length) : R.drop k = R.getD k [] :: R.drop (k + 1) := by
  rw [List.drop_eq_getElem_cons h, List.getD_eq_getElem?_getD, List.getElem?_eq_getElem h]; rfl
theorem take_getD' (R : List (List UInt8)) (k : Nat) (h : k < R.length) : R.take (k + 1) = R.take k ++ [R.getD k []] := by
  rw [List.take_succ_eq_append_getElem h, List.getD_eq_getElem?_getD, List.getElem?_eq_getElem h]; rfl
theorem St.no' {nm : List UInt8} {R : List (List UInt8)} {dn : Bool} {X : List (List UInt8)} {k : Nat} (h : St nm R dn X k) (hk : k < R.length) (hx : R.getD k [] ≠ nm) : nm ∉ R.take (k + 1) := by
  rw [take_getD' R k hk, List.mem_append, List.mem_singleton]
  rintro (q | q)
  · exact h.no q
  · exact hx q.symm
theorem St.put {nm : List UInt8} {R : List (List UInt8)} {X : List (List UInt8)} {k : Nat} (h : St nm R false X k) (hk : k < R.length) (hx : R.getD k [] ≠ nm) (hl : nm < R.getD k []) : St nm R true (X ++ [nm] ++ [R.getD k []]) (k + 1) := by
  obtain ⟨h1, h2⟩ := h.yet rfl
  refine ⟨h.no' hk hx, by have := h.len; subst h1; simp; omega, fun _ => ?_, fun q => (by cases q)⟩
  rw [h2, drop_getD' R k hk, putN, if_pos hl, h1]
  simp
theorem St.skip {nm : List UInt8} {R : List (List UInt8)} {X : List (List UInt8)} {k : Nat} (h : St nm R false X k) (hk : k < R.length) (hx : R.getD k [] ≠ nm) (hl : ¬ nm < R.getD k []) : St nm R false (X ++ [R.getD k []]) (k + 1) := by
  obtain ⟨h1, h2⟩ := h.yet rfl
  refine ⟨h.no' hk hx, by have := h.len; subst h1; simp; omega, fun q => (by cases q), fun _ => ?_⟩
  rw [h1, take_getD' R k hk]
  refine ⟨rfl, ?_⟩
  rw [h2, drop_getD' R k hk, putN, if_neg hl]
  simp
theorem St.on {nm : List UInt8} {R : List (List UInt8)} {X : List (List UInt8)} {k : Nat} (h : St nm R true X k) (hk : k < R.length) (hx : R.getD k [] ≠ nm) : St nm R true (X ++ [R.getD k []]) (k + 1) := by
  refine ⟨h.no' hk hx, by have := h.len; simp; omega, fun _ => ?_, fun q => (by cases q)⟩
  rw [← h.yes rfl, drop_getD' R k hk]
  simp
theorem St.end_yes {nm : List UInt8} {R : List (List UInt8)} {X : List (List UInt8)} (h : St nm R true X R.length) : X = insN R nm := by
  have h1 := h.no
  have h2 := h.yes rfl
  rw [List.take_length] at h1
  rw [List.drop_length, List.append_nil] at h2
  unfold insN
  rw [if_neg h1]
  exact h2
theorem St.end_yet {nm : List UInt8} {R : List (List UInt8)} {X : List (List UInt8)} (h : St nm R false X R.length) : X ++ [nm] = insN R nm := by
  have h1 := h.no
  obtain ⟨h2, h3⟩ := h.yet rfl
  rw [List.take_length] at h1 h2 h3
  rw [List.drop_length, putN] at h3
  unfold insN
  rw [if_neg h1, h2]
  exact h3.symm

def RlRel (nm : List UInt8) (n : Int) (R : List (List UInt8)) (a : Option Addr) (cap : Nat) (w0 : World) (b : Nat) (o d i : Value) (wr : World) : Prop :=
  ∃ (k : Nat) (dn : Bool) (X : List (List UInt8)), i = .int .i64 (k : Int) ∧ d = .bool dn ∧ k ≤ R.length ∧ wr.ownsRow w0.heap.size 9 1 o X.length (X.map encStr) ∧ Below w0.heap.size w0 wr ∧ Box wr b 25 #[.int .i64 1, .int .i64 n, .string ⟨nm.toArray⟩, .slice a 0 cap] ∧ Hid (St nm R dn X k)
end Go.Proofs.YtinocaggponpmaaGreatDoor.Ep

namespace Go.Proofs.YtinocaggponpmaaGreatDoor.Ep
open Go.RowKit Lx Go.Sort

theorem own_drewN {w : World} {base : Nat} {e : TypeId} {size : Nat} {v : Value} {n : Nat} {xs : List Value} (h : w.ownsRow base e size v n xs) (q : Nat) : (w.drewN q).ownsRow base e size v n xs := h
theorem box_drewN {w : World} {g : Nat} {t : TypeId} {cs : Array Value} (h : Box w g t cs) (q : Nat) : Box (w.drewN q) g t cs := h
/-- One more text behind a row of one's own. -/
theorem app_post {w2 : World} {B g1 cap1 : Nat} {X : List (List UInt8)} {s : List UInt8}
    (h1 : w2.ownsRow B 9 1 (.slice (some ⟨g1, 0, none⟩) (X.length + 1) cap1) (X.length + 1) (X.map encStr ++ [.string ⟨s.toArray⟩])) :
    w2.ownsRow B 9 1 (.slice (some ⟨g1, 0, none⟩) (X ++ [s]).length cap1) (X ++ [s]).length ((X ++ [s]).map encStr) := by
  rw [List.length_append, List.map_append]
  exact h1
theorem app_rel {w2 : World} {B g1 cap1 : Nat} {X : List (List UInt8)} {s : List UInt8}
    (h1 : w2.ownsRow B 9 1 (.slice (some ⟨g1, 0, none⟩) (X.length + 1) cap1) (X.length + 1) (X.map encStr ++ [.string ⟨s.toArray⟩])) :
    w2.ownsRow B 9 1 (.slice (some ⟨g1, 0, none⟩) (X.length + 1) cap1) (X ++ [s]).length ((X ++ [s]).map encStr) := by
  rw [List.length_append, List.map_append]
  exact h1
theorem app_rel2 {w2 : World} {B g1 cap1 : Nat} {X : List (List UInt8)} {r s : List UInt8}
    (h1 : w2.ownsRow B 9 1 (.slice (some ⟨g1, 0, none⟩) (X.length + 1 + 1) cap1) (X.length + 1 + 1) (X.map encStr ++ [encStr r, .string ⟨s.toArray⟩])) :
    w2.ownsRow B 9 1 (.slice (some ⟨g1, 0, none⟩) (X.length + 1 + 1) cap1) (X ++ [r] ++ [s]).length ((X ++ [r] ++ [s]).map encStr) := by
  rw [List.length_append, List.length_append, List.map_append, List.map_append, List.append_assoc]
  exact h1

set_option maxRecDepth 100000 in
set_option maxHeartbeats 4000000 in
theorem rnames_leaf (n : Int) (nm : List UInt8) (a : Option Addr) (cap : Nat) (R : List (List UInt8)) (l : Value) (w : World) (hR : SRow w l R) (hl : R.length ≤ 1000000) :
    Calls Tryz.prog 30 #[.agg #[.int .i64 1, .int .i64 n, .string ⟨nm.toArray⟩, .slice a 0 cap], l] w (NsPost (insN R nm) w) := by
  obtain ⟨inf, hinf, hz0, hz1, hz2⟩ := info_parts info_strN
  have HRR := Lib.hid hR
  obtain ⟨la, lc, rfl, hlc, hcells⟩ := hR
  have HC := Lib.hid hcells
  clear hcells
  have hbA : Below w.heap.size w (w.alloc (.cells #[.int .i64 1, .int .i64 n, .string ⟨nm.toArray⟩, .slice a 0 cap] 25)) := (Below.refl _ _).alloc (Nat.le_refl _) _
  have hx0 := Box.new w 25 #[.int .i64 1, .int .i64 n, .string ⟨nm.toArray⟩, .slice a 0 cap]
  have hsz0 : w.heap.size < (w.alloc (.cells #[.int .i64 1, .int .i64 n, .string ⟨nm.toArray⟩, .slice a 0 cap] 25)).heap.size := by simp
  generalize hlen : R.length = len at *
  have HL := Lib.hid hlen
  clear hlen
  go_enter Tryz.func30, Tryz.ntmps30
  go_wp2_with fail
  refine wp_loop_rounds 1 ?_
  rw [rounds_succ]
  go_wp2_with fail
  generalize hw0 : (w.alloc (.cells #[.int .i64 1, .int .i64 n, .string ⟨nm.toArray⟩, .slice a 0 cap] 25)) = w0 at *
  clear hw0
  go_loopw [6, 7, 8] (RlRel nm n R a cap w0 w.heap.size) (fun _ _ i _ => len - (intOf i).toNat)
  case atStart => exact ⟨0, false, [], rfl, rfl, Nat.zero_le _, World.ownsRow_nil _ _ _ _, Below.refl _ _, hx0, Lib.hid (St.start nm R)⟩
  case round =>
    obtain ⟨k, dn, X, rfl, rfl, hk, hown, hbw, hbx, HST⟩ := hrel
    rw [HL.out] at hk
    obtain ⟨x0, x1, x2, x3, -, -, -, -⟩ := hbx.four
    have hxl := hbx.lt
    have hXl := HST.out.len
    have hBw : Below w.heap.size w wr := hbA.trans (hbw.mono (by omega))
    obtain ⟨oa, oc, rfl⟩ := own_sliceN hown
    by_cases hlt : k < len
    · have hkR : k < R.length := by rw [HL.out]; exact hlt
      have hne : R ≠ [] := by intro e; rw [e] at hkR; simp at hkR
      obtain ⟨g, rfl, hg, hcs⟩ := HC.out hne
      have ck : wr.cell? ⟨g, k, none⟩ = some (.string ⟨(R.getD k []).toArray⟩) := (hBw.cell (p := ⟨g, k, none⟩) hg).trans (hcs k hlt)
      have hgr' : g < wr.heap.size := Nat.lt_of_lt_of_le hg hBw.size
      have hki : (k : Int) < (len : Int) := by omega
      have HS1 := Lib.hid (fun hx => HST.out.no' (dn := dn) hkR hx)
      by_cases he : R.getD k [] = nm
      · have HI : Hid (insN R nm = R) := by
          unfold Hid insN
          rw [if_pos]
          rw [← he, List.getD_eq_getElem?_getD, List.getElem?_eq_getElem hkR]
          exact List.getElem_mem hkR
        have q1 : (R.getD k [] == nm) = true := beq_iff_eq.2 he
        have q2 : (nm == R.getD k []) = true := beq_iff_eq.2 he.symm
        generalize R.getD k [] = x at *
        have hSR : SRow (wr) (.slice (some ⟨g, 0, none⟩) len lc) R := HRR.out.below hBw (Nat.le_refl _)
        have HSR := Lib.hid hSR
        clear hcs HC hown HS1 HST he hSR
        go_wp2_with fail
        go_quiet (fail)
        go_wp2
        go_ret
        exact ⟨_, rfl, by rw [HI.out]; exact HSR.out, hBw.drewN _⟩
      · have q1 : (R.getD k [] == nm) = false := beq_eq_false_iff_ne.2 he
        have q2 : (nm == R.getD k []) = false := beq_eq_false_iff_ne.2 (fun e => he e.symm)
        have HNE := Lib.hid he
        have hge := own_geN hown
        have HAP : Hid (∀ q o w2, ((wr.drewN q).alloc o).grownBy w2 (Value.slice oa X.length oc).ownBlock → Below w0.heap.size wr w2) := fun q o w2 hgr => (((Below.refl w0.heap.size wr).drewN q).alloc hbw.size o).grown hgr (by have := hbw.size; simp; omega) hge
        have HOW : Hid (∀ q s, ((wr.drewN q).alloc (.cells #[.string ⟨s⟩] 9)).ownsRow w0.heap.size 9 1 (.slice oa X.length oc) X.length (X.map encStr)) := fun q s => own_keepN (own_drewN hown q) ((Below.refl _ _).alloc (Nat.le_refl _) _)
        have hwrs := hbw.size
        have hCK : ∀ w2, Below w0.heap.size wr w2 → w2.cell? ⟨g, k, none⟩ = some (.string ⟨(R.getD k []).toArray⟩) := fun w2 h => (h.cell (p := ⟨g, k, none⟩) (show g < w0.heap.size by omega)).trans ck
        have HCK := Lib.hid hCK
        clear hCK hge hown
        cases dn
        · by_cases hless : nm < R.getD k []
          · have ql : Op.bytesLess nm (R.getD k []) = true := by rw [bl_lt]; simpa using hless
            have HNX := Lib.hid (HST.out.put hkR he hless)
            clear he hless hcs HC HS1 HST
            generalize R.getD k [] = x at *
            go_wp2_with fail
            go_quiet (fail)
            go_wp2_with fail
            go_quiet (fail)
            go_wp2_with (at_builtin; refine wpList_append_lies _ rfl _ _ 33 rfl w0.heap.size 9 inf (.string ⟨#[]⟩) 1 16 Tryz.underlying33 hinf hz0 hz1 hz2 rfl (by decide) _ _ _ rfl (HOW.out _ _) ⟨wr.heap.size, 0, none⟩ 1 1 [.string ⟨nm.toArray⟩] rfl rfl ?c1 ?c2 ?c3 ?c4 ?c5 ?c6 (wr.heap.size + 1) ?c7 ?_)
            case c1 => exact newS _ _
            case c2 => exact oneS _
            case c3 => decide
            case c4 => unfold maxLen; omega
            case c5 => omega
            case c6 => have := hbw.size; simp; omega
            case c7 => simp
            intro g1 cap1 w2 h1 hgr hor hlt2
            have hw2 := HAP.out _ _ _ hgr
            have hB2 := hbw.trans hw2
            have hbx2 := hbx.below hw2 (by omega)
            have ck2 := HCK.out _ hw2
            have hgr2 : g < w2.heap.size := Nat.lt_of_lt_of_le hgr' hw2.size
            have h1' := app_post h1
            have hge2 := own_geN h1'
            have HAP2 : Hid (∀ o w3, (w2.alloc o).grownBy w3 (Value.slice (some ⟨g1, 0, none⟩) (X ++ [nm]).length cap1).ownBlock → Below w0.heap.size w2 w3) := fun o w3 hgr => ((Below.refl w0.heap.size w2).alloc hB2.size o).grown hgr (by have := hB2.size; simp; omega) hge2
            have HOW2 : Hid (∀ s, (w2.alloc (.cells #[.string ⟨s⟩] 9)).ownsRow w0.heap.size 9 1 (.slice (some ⟨g1, 0, none⟩) (X.length + 1) cap1) (X.length + 1) ((X ++ [nm]).map encStr)) := fun s => by have := own_keepN h1' ((Below.refl _ w2).alloc (Nat.le_refl _) (.cells #[.string ⟨s⟩] 9)); rw [List.length_append] at this; exact this
            have hB2s := hB2.size
            have hXn : (X ++ [nm]).length = X.length + 1 := by simp
            have hXn2 : (X ++ [nm]).length ≤ k + 2 := by omega
            have HXN := Lib.hid hXn
            clear h1 h1' hgr hor hw2 hge2 x0 x1 x2 x3 hXn ck
            go_wp2_with (at_builtin; refine wpList_append_lies _ rfl _ _ 33 rfl w0.heap.size 9 inf (.string ⟨#[]⟩) 1 16 Tryz.underlying33 hinf hz0 hz1 hz2 rfl (by decide) _ _ _ rfl (HOW2.out _) ⟨w2.heap.size, 0, none⟩ 1 1 [.string ⟨x.toArray⟩] rfl rfl ?d1 ?d2 ?d3 ?d4 ?d5 ?d6 (w2.heap.size + 1) ?d7 ?_)
            case d1 => exact newS _ _
            case d2 => exact oneS _
            case d3 => decide
            case d4 => unfold maxLen; omega
            case d5 => omega
            case d6 => simp; omega
            case d7 => simp
            intro g2 cap2 w3 h3 hgr3 hor3 hlt3
            have hw3 := HAP2.out _ _ hgr3
            have hB3 := hB2.trans hw3
            have hbx3 := hbx2.below hw3 (by omega)
            have H1 := Lib.hid h3
            clear h3 hgr3 hor3 hw3
            go_wp2_with fail
            go_roundw
            case rel => exact ⟨k + 1, true, _, by go_num, rfl, by rw [HL.out]; omega, app_rel2 H1.out, hB3, hbx3, HNX.out⟩
            case measure => simp [intOf]; omega
          · have ql : Op.bytesLess nm (R.getD k []) = false := by rw [bl_lt]; simpa using hless
            have HNX := Lib.hid (HST.out.skip hkR he hless)
            clear he hless hcs HC HS1 HST
            generalize R.getD k [] = x at *
            go_wp2_with fail
            go_quiet (fail)
            go_wp2_with fail
            go_quiet (fail)
            go_wp2_with (at_builtin; refine wpList_append_lies _ rfl _ _ 33 rfl w0.heap.size 9 inf (.string ⟨#[]⟩) 1 16 Tryz.underlying33 hinf hz0 hz1 hz2 rfl (by decide) _ _ _ rfl (HOW.out _ _) ⟨wr.heap.size, 0, none⟩ 1 1 [.string ⟨x.toArray⟩] rfl rfl ?c1 ?c2 ?c3 ?c4 ?c5 ?c6 (wr.heap.size + 1) ?c7 ?_)
            case c1 => exact newS _ _
            case c2 => exact oneS _
            case c3 => decide
            case c4 => unfold maxLen; omega
            case c5 => omega
            case c6 => have := hbw.size; simp; omega
            case c7 => simp
            intro g1 cap1 w2 h1 hgr hor hlt2
            have hw2 := HAP.out _ _ _ hgr
            have hB2 := hbw.trans hw2
            have hbx2 := hbx.below hw2 (by omega)
            have H1 := Lib.hid h1
            clear h1 hgr hor hw2
            go_wp2_with fail
            go_roundw
            case rel => exact ⟨k + 1, false, _, by go_num, rfl, by rw [HL.out]; omega, app_rel H1.out, hB2, hbx2, HNX.out⟩
            case measure => simp [intOf]; omega
        · have HNX := Lib.hid (HST.out.on hkR he)
          clear he hcs HC HS1 HST
          generalize R.getD k [] = x at *
          go_wp2_with fail
          go_quiet (fail)
          go_wp2_with fail
          go_quiet (fail)
          go_wp2_with (at_builtin; refine wpList_append_lies _ rfl _ _ 33 rfl w0.heap.size 9 inf (.string ⟨#[]⟩) 1 16 Tryz.underlying33 hinf hz0 hz1 hz2 rfl (by decide) _ _ _ rfl (HOW.out _ _) ⟨wr.heap.size, 0, none⟩ 1 1 [.string ⟨x.toArray⟩] rfl rfl ?c1 ?c2 ?c3 ?c4 ?c5 ?c6 (wr.heap.size + 1) ?c7 ?_)
          case c1 => exact newS _ _
          case c2 => exact oneS _
          case c3 => decide
          case c4 => unfold maxLen; omega
          case c5 => omega
          case c6 => have := hbw.size; simp; omega
          case c7 => simp
          intro g1 cap1 w2 h1 hgr hor hlt2
          have hw2 := HAP.out _ _ _ hgr
          have hB2 := hbw.trans hw2
          have hbx2 := hbx.below hw2 (by omega)
          have H1 := Lib.hid h1
          clear h1 hgr hor hw2
          go_wp2_with fail
          go_roundw
          case rel => exact ⟨k + 1, true, _, by go_num, rfl, by rw [HL.out]; omega, app_rel H1.out, hB2, hbx2, HNX.out⟩
          case measure => simp [intOf]; omega
    · obtain rfl : k = len := by omega
      have HSE := HST
      rw [← HL.out] at HSE
      cases dn
      · have HE : Hid (X ++ [nm] = insN R nm) := HSE.out.end_yet
        have hge := own_geN hown
        have HAP : Hid (∀ o w2, (wr.alloc o).grownBy w2 (Value.slice oa X.length oc).ownBlock → Below w0.heap.size wr w2) := fun o w2 hgr => ((Below.refl w0.heap.size wr).alloc hbw.size o).grown hgr (by have := hbw.size; simp; omega) hge
        have HOW : Hid (∀ s, (wr.alloc (.cells #[.string ⟨s⟩] 9)).ownsRow w0.heap.size 9 1 (.slice oa X.length oc) X.length (X.map encStr)) := fun s => own_keepN hown ((Below.refl _ _).alloc (Nat.le_refl _) _)
        have hwrs := hbw.size
        clear hge hown HST HSE HC
        go_wp2_with (at_builtin; refine wpList_append_lies _ rfl _ _ 33 rfl w0.heap.size 9 inf (.string ⟨#[]⟩) 1 16 Tryz.underlying33 hinf hz0 hz1 hz2 rfl (by decide) _ _ _ rfl (HOW.out _) ⟨wr.heap.size, 0, none⟩ 1 1 [.string ⟨nm.toArray⟩] rfl rfl ?c1 ?c2 ?c3 ?c4 ?c5 ?c6 (wr.heap.size + 1) ?c7 ?_)
        case c1 => exact newS _ _
        case c2 => exact oneS _
        case c3 => decide
        case c4 => unfold maxLen; omega
        case c5 => omega
        case c6 => simp; omega
        case c7 => simp
        intro g1 cap1 w2 h1 hgr hor hlt2
        have hw2 := HAP.out _ _ hgr
        have hB2 := hBw.trans (hw2.mono (by omega))
        have h1' := app_post h1
        rw [HE.out] at h1'
        have HS := Lib.hid (SRow.own rfl h1')
        have HLE : Hid (X.length + 1 = (insN R nm).length) := by unfold Hid; rw [← HE.out]; simp
        clear h1 h1' hgr hor hw2
        go_wp2
        go_ret
        exact ⟨_, rfl, by have := HS.out; rw [← HLE.out] at this; exact this, hB2⟩
      · have HE : Hid (X = insN R nm) := HSE.out.end_yes
        have HS := Lib.hid (SRow.own rfl hown)
        clear hown HST HSE HC
        go_wp2
        go_ret
        exact ⟨_, rfl, by rw [← HE.out]; exact HS.out, hBw⟩
end Go.Proofs.YtinocaggponpmaaGreatDoor.Ep

namespace Go.Proofs.YtinocaggponpmaaGreatDoor.Ep
open Go.RowKit Lx Go.Sort

def RnRel (R : List (List UInt8)) (ks : List Ex) (cs : Array Value) (w : World) (l i : Value) (wr : World) : Prop :=
  ∃ k : Nat, i = .int .i64 (k : Int) ∧ k ≤ ks.length ∧ SRow wr l ((namesL (ks.take k)).foldl insN R) ∧ Box wr w.heap.size 25 cs ∧ Below w.heap.size w wr
set_option maxRecDepth 100000 in
set_option maxHeartbeats 4000000 in
theorem rnames_any (t : Ex) : ∀ (lo : Nat → Prop) (R : List (List UInt8)) (l x : Value) (w : World), goodE t → TreeV lo w t x → SRow w l R → R.length + (namesE t).length ≤ 1000000 →
    Calls Tryz.prog 30 #[x, l] w (NsPost ((namesE t).foldl insN R) w) := by
  induction t using Ex.ind with
  | h op n nm ks ih =>
    intro lo R l x w hg hT hR hlen
    unfold TreeV at hT
    obtain ⟨a, cap, rfl, hcap, hk⟩ := hT
    rw [goodE] at hg
    have hin := (formed_true hg.1).1
    unfold exV
    by_cases h1 : op = 1
    · subst h1
      have hks := kids_0 hg.1 (by decide)
      subst hks
      rw [namesE, if_pos rfl]
      exact rnames_leaf n nm a cap R l w hR (by omega)
    · rw [namesE, if_neg h1]
      rw [namesE, if_neg h1] at hlen
      have hks2 : ks.length ≤ 2 := by
        rcases opK_012 hin with h | h | h
        · rw [kids_0 hg.1 h]; simp
        · obtain ⟨k, rfl⟩ := kids_1 hg.1 h; simp
        · obtain ⟨k, l, rfl⟩ := kids_2 hg.1 h; simp
      have d1 : (op != 1) = true := by simpa using h1
      have HK := Lib.hid hk
      have IH := Lib.hid ih
      have HG := Lib.hid ((goodL_all _).1 hg.2.2)
      have HR := Lib.hid hR
      obtain ⟨la, lc, rfl, hlc, hcells⟩ := hR
      have hb1 : Below w.heap.size w (w.alloc (.cells #[.int .i64 op, .int .i64 n, .string ⟨nm.toArray⟩, .slice a ks.length cap] 25)) := (Below.refl _ _).alloc (Nat.le_refl _) _
      have HB1 := Lib.hid hb1
      have HX0 := Lib.hid (Box.new w 25 #[.int .i64 op, .int .i64 n, .string ⟨nm.toArray⟩, .slice a ks.length cap])
      have HLEN := Lib.hid hlen
      clear hk ih hg hcells hb1 hlen
      generalize hL : ks.length = len at *
      have HL := Lib.hid hL
      clear hL
      generalize hRl : R.length = rl at *
      have HRL := Lib.hid hRl
      clear hRl
      go_enter Tryz.func30, Tryz.ntmps30
      go_wp2_with fail
      go_loopw [1, 5] (RnRel R ks #[.int .i64 op, .int .i64 n, .string ⟨nm.toArray⟩, .slice a len cap] w) (fun _ i _ => len - (intOf i).toNat)
      case atStart => exact ⟨0, rfl, by omega, by simpa [namesL] using HR.out.below HB1.out (Nat.le_refl _), HX0.out, HB1.out⟩
      case round =>
        clear HX0 HB1
        obtain ⟨k, rfl, hkl, hrow, hbx, hbw⟩ := hrel
        rw [HL.out] at hkl
        obtain ⟨x0, x1, x2, x3, -, -, -, -⟩ := hbx.four
        have hxl := hbx.lt
        by_cases hlt : k < len
        · have hki : k < ks.length := by rw [HL.out]; exact hlt
          have hne : ks ≠ [] := by intro e; rw [e] at hki; simp at hki
          obtain ⟨g, off, rfl, hg1, hg2, hTL⟩ := HK.out hne
          have hTr := TreeL.keep (w' := wr) hbw.size (fun b _ hb => hbw.block b hb) g hg1 hg2 off ks hTL
          obtain ⟨ka, kcap, c0, c1, c2, c3, hkt⟩ := TreeL.at_ ks off k hki hTr
          have hIH := Lib.hid (IH.out (ks[k]) (List.getElem_mem hki) lo _ _ (exV (ks[k]).op (ks[k]).n (ks[k]).name ka (ks[k]).kids.length kcap) wr (HG.out _ (List.getElem_mem hki)) hkt hrow
            (by
              have e1 := namesL_take ks k hki
              have e2 := namesL_le ks (k + 1)
              have e3 := fold_len (namesL (ks.take k)) R
              have e4 := HLEN.out
              have e5 := HRL.out
              rw [e1] at e2
              simp only [List.length_append] at e2
              omega))
          rw [← List.foldl_append, ← namesL_take ks k hki] at hIH
          have hgr : g < wr.heap.size := Nat.lt_of_lt_of_le hg2 hbw.size
          have hki1 : (k : Int) < (len : Int) := by omega
          generalize ks[k] = kid at *
          obtain ⟨ra, rc, rfl, hrc, hrk⟩ := hrow
          clear hTr hTL HK IH HG hkt hrk
          unfold exV at hIH
          generalize ((namesL (ks.take k)).foldl insN R).length = rl at *
          go_wp2_with fail
          refine hIH.out.mono ?_
          rintro e w3 ⟨v3, rfl, hrow3, hb3⟩
          have hB3 := hbw.trans (hb3.mono hbw.size)
          have hbx3 := hbx.below hb3 hxl
          have HR3 := Lib.hid hrow3
          clear hrow3 hIH hbw hb3 hbx x0 x1 x2 x3
          go_wp2
          go_roundw
          case rel => exact ⟨k + 1, by go_num, by rw [HL.out]; omega, HR3.out, hbx3, hB3⟩
          case measure => simp [intOf]; omega
        · obtain rfl : k = len := by omega
          have hrow' := hrow
          rw [List.take_of_length_le (by rw [HL.out]; exact Nat.le_refl _)] at hrow'
          have HF := Lib.hid hrow'
          clear hrow'
          obtain ⟨ra, rc, rfl, hrc, hrk⟩ := hrow
          clear hrk HK IH HG
          generalize ((namesL (ks.take k)).foldl insN R).length = rl at *
          go_wp2
          go_ret
          exact ⟨_, rfl, HF.out, hbw⟩

set_option maxRecDepth 100000 in
set_option maxHeartbeats 4000000 in
theorem refNames_any (t : Ex) (S : Nat → Prop) (x : Value) (w : World) (hT : TreeV S w t x) (hN : numsE t) (hs : shortE t) :
    Calls Tryz.prog 13 #[x] w (NsPost (namesP t) w) := by
  obtain ⟨a, cap, rfl, -, -⟩ := hT.open
  have hx0 := Box.new w 25 #[.int .i64 t.op, .int .i64 t.n, .string ⟨t.name.toArray⟩, .slice a t.kids.length cap]
  have HM := Lib.hid (refMay_any t S _ _ (hT.alloc (.cells #[.int .i64 t.op, .int .i64 t.n, .string ⟨t.name.toArray⟩, .slice a t.kids.length cap] 25)) hs)
  unfold exV at HM ⊢
  go_enter Tryz.func13, Tryz.ntmps13
  go_wp2_with fail
  refine HM.out.mono ?_
  rintro e w1 ⟨rfl, hb1⟩
  have hbw1 := below_new hb1
  have hx1 := hx0.below hb1 hx0.lt
  have hT1 := TreeV.below hT hbw1 (Nat.le_refl _)
  have hs1 := hbw1.size
  clear hb1 hx0 hT HM
  cases hm : mayB t with
  | false =>
    have HX : Hid (namesP t = []) := by unfold Hid namesP; rw [hm]; rfl
    clear hm
    go_wp2
    go_ret
    exact ⟨_, rfl, by rw [HX.out]; exact SRow.nil _, hbw1⟩
  | true =>
    have HX : Hid (namesP t = (namesE t).foldl insN []) := by unfold Hid namesP; rw [hm]; rfl
    have hg := may_good hm hN
    have hlen := may_names hm hN
    clear hm
    obtain ⟨x0, x1, x2, x3, -, -, -, -⟩ := hx1.four
    have HNM := Lib.hid (rnames_any t S [] (.slice none 0 0) _ w1 hg hT1 (SRow.nil _) (by simp; omega))
    rw [← HX.out] at HNM
    clear hT1 hlen
    unfold exV at HNM
    generalize namesP t = R at *
    clear HX
    go_wp2_with fail
    refine HNM.out.mono ?_
    rintro e w2 ⟨v2, rfl, hrow2, hb2⟩
    have hB2 : Below w.heap.size w w2 := hbw1.trans (hb2.mono hs1)
    have HR2 := Lib.hid hrow2
    obtain ⟨ra, rc, rfl, hrc, hrk⟩ := hrow2
    clear HNM hrk x0 x1 x2 x3 hx1
    go_wp2
    go_ret
    exact ⟨_, rfl, HR2.out, hB2⟩

theorem drewN_two (w : World) (q n : Nat) : (w.drewN q).drewN n = w.drewN (q + n) := by
  simp [World.drewN, Nat.add_assoc]
/-- Two lists that read alike are the same. -/
def TsRel (len : Nat) (w : World) (i : Value) (wr : World) : Prop := ∃ k q : Nat, i = .int .i64 (k : Int) ∧ k ≤ len ∧ wr = w.drewN q
set_option maxRecDepth 100000 in
set_option maxHeartbeats 4000000 in
theorem texts_same (R : List (List UInt8)) (v v' : Value) (w : World) (h : SRow w v R) (h' : SRow w v' R) (hl : R.length ≤ 1000000) :
    Calls Tryz.prog 11 #[v, v'] w fun e w' => e = .returned (.bool true) ∧ ∃ q, w' = w.drewN q := by
  obtain ⟨a, c, rfl, hc, hk⟩ := h
  obtain ⟨a', c', rfl, hc', hk'⟩ := h'
  have HK := Lib.hid hk
  have HK' := Lib.hid hk'
  clear hk hk'
  generalize hlen : R.length = len at *
  have HL := Lib.hid hlen
  clear hlen
  go_enter Tryz.func11, Tryz.ntmps11
  go_wp2
  go_loopw [5] (TsRel len w) (fun i _ => len - (intOf i).toNat)
  case atStart => exact ⟨0, 0, rfl, Nat.zero_le _, rfl⟩
  case round =>
    obtain ⟨k, q, rfl, hk, rfl⟩ := hrel
    by_cases hlt : k < len
    · have hne : R ≠ [] := by intro e; have := HL.out; rw [e] at this; simp at this; omega
      obtain ⟨g, rfl, hg, hcs⟩ := HK.out hne
      obtain ⟨g', rfl, hg', hcs'⟩ := HK'.out hne
      have c1 : (w.drewN q).cell? ⟨g, k, none⟩ = some (.string ⟨(R.getD k []).toArray⟩) := hcs k hlt
      have c2 : (w.drewN q).cell? ⟨g', k, none⟩ = some (.string ⟨(R.getD k []).toArray⟩) := hcs' k hlt
      have hki : (k : Int) < (len : Int) := by omega
      clear hcs hcs' HK HK'
      generalize R.getD k [] = x at *
      have hgq : g < (w.drewN q).heap.size := hg
      have hgq' : g' < (w.drewN q).heap.size := hg'
      have HD : Hid (∀ n, ∃ q', (w.drewN q).drewN n = w.drewN q') := fun n => ⟨q + n, drewN_two w q n⟩
      generalize w.drewN q = wq at *
      have q1 : (x != x) = false := by simp
      go_wp2_with fail
      go_quiet (fail)
      go_wp2
      go_roundw
      case rel => exact ⟨k + 1, _, by go_num, by omega, (HD.out _).choose_spec⟩
      case measure => simp [intOf]; omega
    · clear HK HK'
      go_wp2
      go_ret
      exact ⟨rfl, q, rfl⟩
end Go.Proofs.YtinocaggponpmaaGreatDoor.Ep

namespace Go.Proofs.YtinocaggponpmaaGreatDoor.Ep
open Go.RowKit Lx

def TxP (s : List UInt8) (w : World) (e : Ending) (w' : World) : Prop := e = .returned (.string ⟨s.toArray⟩) ∧ Below w.heap.size w w'
theorem TxP.mk_ {b : ByteArray} {s : List UInt8} {w w' : World} (h : b.data.toList = s) (hb : Below w.heap.size w w') : TxP s w (.returned (.string b)) w' := by
  subst h
  exact ⟨by simp, hb⟩
theorem newB (w : World) (s : ByteArray) : ∀ j u, ([Value.string s])[j]? = some u → (w.alloc (.cells #[.string s] 9)).cell? ((⟨w.heap.size, 0, none⟩ : Addr).add j) = some u := by
  intro j u h
  cases j with
  | zero => simp at h; subst h; simp [Addr.add]
  | succ j => simp at h
theorem oneB (s : ByteArray) : ∀ u ∈ [Value.string s], u.oneCell' = true := by
  intro u hu
  simp at hu
  subst hu
  rfl
/-- A part's text, in brackets or not. -/
def wrB (b : Bool) (s : List UInt8) : ByteArray := if b = true then (⟨#[40]⟩ : ByteArray) ++ ⟨s.toArray⟩ ++ ⟨#[41]⟩ else ⟨s.toArray⟩
theorem wrB_list (b : Bool) (s : List UInt8) : (wrB b s).data.toList = wrapT b s := by
  cases b <;> simp [wrB, wrapT, ByteArray.data_append]
theorem wrB_size (b : Bool) (s : List UInt8) (h : s.length ≤ 4000) : (wrB b s).size ≤ 4002 := by
  cases b <;> simp [wrB, ByteArray.size] <;> omega
theorem size_list (s : List UInt8) : (⟨s.toArray⟩ : ByteArray).size = s.length := by simp [ByteArray.size]

set_option maxRecDepth 100000 in
set_option maxHeartbeats 4000000 in
theorem rtext_0 (n : Int) (nb : ByteArray) (x : Option Addr) (len cap : Nat) (w : World) (h0 : -9223372036854775808 ≤ n) (h1 : n ≤ 9223372036854775807) :
    Calls Tryz.prog 35 #[.agg #[.int .i64 0, .int .i64 n, .string nb, .slice x len cap]] w (TxP (Lib.itoa n) w) := by
  have HS := Lib.hid (fun wx => refShow_any n wx h0 h1)
  clear h0 h1
  go_enter Tryz.func35, Tryz.ntmps35
  go_wp2_with fail
  refine (HS.out _).mono ?_
  rintro e w1 ⟨rfl, rfl⟩
  go_wp2
  go_ret
  exact ⟨rfl, (Below.refl _ _).alloc (Nat.le_refl _) _⟩
set_option maxRecDepth 100000 in
set_option maxHeartbeats 4000000 in
theorem rtext_1 (n : Int) (nm : List UInt8) (x : Option Addr) (len cap : Nat) (w : World) :
    Calls Tryz.prog 35 #[.agg #[.int .i64 1, .int .i64 n, .string ⟨nm.toArray⟩, .slice x len cap]] w (TxP nm w) := by
  go_enter Tryz.func35, Tryz.ntmps35
  go_wp2
  go_ret
  exact ⟨rfl, (Below.refl _ _).alloc (Nat.le_refl _) _⟩

set_option maxRecDepth 100000 in
set_option maxHeartbeats 4000000 in
theorem rtext_un0 (op : Nat) (n : Int) (nb : ByteArray) (k : Ex) (s : List UInt8) (hsl : s.length ≤ 4000) (IH : Hid (∀ (lo : Nat → Prop) (v : Value) (w : World), TreeV lo w k v → Calls Tryz.prog 35 #[v] w (TxP s w)))
    (lo : Nat → Prop) (g off cap : Nat) (w : World) (hcap : 1 ≤ cap) (hg1 : lo g) (hg2 : g < w.heap.size) (hTL : TreeL lo w g off [k]) (ho : op = 2 ∨ op = 3) (hki : inT k.op = true) (hen : enclB (op : Int) k.op 0 = false) :
    Calls Tryz.prog 35 #[.agg #[.int .i64 (op : Int), .int .i64 n, .string nb, .slice (some ⟨g, off, none⟩) 1 cap]] w (TxP (opS (op : Int) ++ wrapT false s) w) := by
  obtain ⟨inf, hinf, hz0, hz1, hz2⟩ := info_parts info_strN
  have hb0 : Below w.heap.size w (w.alloc (.cells #[.int .i64 (op : Int), .int .i64 n, .string nb, .slice (some ⟨g, off, none⟩) 1 cap] 25)) := (Below.refl _ _).alloc (Nat.le_refl _) _
  have hx0 := Box.new w 25 #[.int .i64 (op : Int), .int .i64 n, .string nb, .slice (some ⟨g, off, none⟩) 1 cap]
  have hTr := TreeL.keep (w' := (w.alloc (.cells #[.int .i64 (op : Int), .int .i64 n, .string nb, .slice (some ⟨g, off, none⟩) 1 cap] 25))) hb0.size (fun b _ hb => hb0.block b hb) g hg1 hg2 off _ hTL
  rw [TreeL] at hTr
  obtain ⟨⟨ka, kcap, c0, c1, c2, c3, hkt⟩, -⟩ := hTr
  have hIH := Lib.hid (IH.out lo _ _ hkt)
  have HWR := Lib.hid (fun wx hc => wrapped_all (op : Int) n k.op nb g off 1 cap 0 wx (by rcases ho with rfl | rfl <;> decide) hki hc (by omega) (by omega) (by omega) hcap (by omega))
  rw [hen] at HWR
  have HSG := Lib.hid (fun wx => Eu.sign_all op (by omega) wx)
  have hsg := opS_le2 (op : Int) (by rcases ho with rfl | rfl <;> decide)
  have d0 : ((op : Int) == 0) = false := beq_eq_false_iff_ne.2 (by omega)
  have d1 : ((op : Int) == 1) = false := beq_eq_false_iff_ne.2 (by omega)
  have HWL := Lib.hid (wrB_list false s)
  have hws := wrB_size false s hsl
  have hWB : wrB false s = ⟨s.toArray⟩ := rfl
  have HOW := Lib.hid (fun (wx : World) (sx : ByteArray) => (World.ownsRow_nil (wx.alloc (.cells #[.string sx] 9)) (w.heap.size + 1) 9 1))
  clear hTL hkt IH hen
  unfold exV at hIH
  generalize opS (op : Int) = sg at *
  go_enter Tryz.func35, Tryz.ntmps35
  go_wp2_with fail
  refine wp_loop_rounds 2 ?_
  rw [rounds_succ]
  go_wp2_with fail
  refine hIH.out.mono ?_
  rintro e w1 ⟨rfl, hb⟩
  have hb1 : Below w.heap.size w w1 := hb0.trans (hb.mono (by simp))
  have hx1 := hx0.below hb hx0.lt
  have ck1 : w1.cell? ⟨g, off + 0 * 4, none⟩ = some (.int .i64 k.op) := by
    have : (w.alloc (.cells #[.int .i64 (op : Int), .int .i64 n, .string nb, .slice (some ⟨g, off, none⟩) 1 cap] 25)).cell? ⟨g, off + 0 * 4, none⟩ = some (.int .i64 k.op) := by simpa using c0
    exact (hb.cell (p := ⟨g, off + 0 * 4, none⟩) (show g < _ by simp; omega)).trans this
  have hW := Lib.hid (HWR.out w1 ck1)
  clear hIH hb hb0 c0 c1 c2 c3 ck1 HWR hx0
  obtain ⟨x0, x1, x2, x3, -, -, -, -⟩ := hx1.four
  have hxl := hx1.lt
  go_wp2_with fail
  refine hW.out.mono ?_
  rintro e w2 ⟨rfl, hb2⟩
  have hx2 := hx1.below hb2 hxl
  have hB2 := hb1.trans (hb2.mono hb1.size)
  have hs2 : w.heap.size + 1 ≤ w2.heap.size := hx2.lt
  clear hW hx1 hb1 hb2 x0 x1 x2 x3
  have HWBs := Lib.hid hWB
  clear hWB
  go_wp2_with (at_builtin; refine wpList_append_lies _ rfl _ _ 33 rfl (w.heap.size + 1) 9 inf (.string ⟨#[]⟩) 1 16 Tryz.underlying33 hinf hz0 hz1 hz2 rfl (by decide) _ _ _ rfl (HOW.out _ _) ⟨w2.heap.size, 0, none⟩ 1 1 [.string ⟨s.toArray⟩] rfl rfl ?c1 ?c2 ?c3 ?c4 ?c5 ?c6 (w2.heap.size + 1) ?c7 ?_)
  case c1 => exact newB _ _
  case c2 => exact oneB _
  case c3 => decide
  case c4 => decide
  case c5 => decide
  case c6 => simp; omega
  case c7 => simp
  intro g1 cap1 w3 h1 hgr hor hlt
  have xr0 := h1.cells (g := g1) rfl 0 _ rfl
  have hw3 : Below (w.heap.size + 1) w2 w3 := ((Below.refl (w.heap.size + 1) w2).alloc hs2 _).grown hgr (by simp; omega) (by intro k hk; cases hk)
  have hB3 : Below w.heap.size w w3 := hB2.trans (hw3.mono (by omega))
  have hx3 := hx2.below hw3 (by omega)
  have hxl3 := hx3.lt
  rw [← HWBs.out] at xr0 ⊢
  generalize wrB false s = T1 at *
  simp [Addr.add] at xr0
  obtain ⟨x0, x1, x2, x3, -, -, -, -⟩ := hx3.four
  clear h1 hgr hor hx2 hB2 hw3 HWBs
  go_wp2_with fail
  rw [rounds_succ]
  go_wp2_with fail
  have hSZ : (⟨sg.toArray⟩ : ByteArray).size ≤ 2 := by rw [size_list]; exact hsg
  have HSL : Hid ((⟨sg.toArray⟩ : ByteArray).data.toList = sg) := by unfold Hid; simp
  generalize (⟨sg.toArray⟩ : ByteArray) = sgb at *
  have x0d : w3.drew.cell? ⟨w.heap.size, 0, none⟩ = some (.int .i64 (op : Int)) := x0
  have xrd : w3.drew.cell? ⟨g1, 0, none⟩ = some (.string T1) := xr0
  go_region_held (fun w' => w'.cell? ⟨w.heap.size, 0, none⟩ = some (.int .i64 (op : Int)) ∧ w'.cell? ⟨g1, 0, none⟩ = some (.string T1)) (first | exact ⟨x0d, xrd⟩ | exact e1 | assumption)
    (first | (go_at_call 56; refine (HSG.out _).mono ?_; rintro e w4 ⟨rfl, hb4⟩; have e1 := (⟨(hb4.cell (p := ⟨w.heap.size, 0, none⟩) hxl3).trans x0d, (hb4.cell (p := ⟨g1, 0, none⟩) hlt).trans xrd⟩ : _ ∧ _); have hB4 := hB3.trans (((Below.refl w3.heap.size w3).drew.trans hb4).mono hB3.size)))
  all_goals go_wp2
  all_goals go_ret
  all_goals exact TxP.mk_ (by rw [ByteArray.data_append, Array.toList_append, HSL.out, HWL.out]) hB4

set_option maxRecDepth 100000 in
set_option maxHeartbeats 4000000 in
theorem rtext_un1 (op : Nat) (n : Int) (nb : ByteArray) (k : Ex) (s : List UInt8) (hsl : s.length ≤ 4000) (IH : Hid (∀ (lo : Nat → Prop) (v : Value) (w : World), TreeV lo w k v → Calls Tryz.prog 35 #[v] w (TxP s w)))
    (lo : Nat → Prop) (g off cap : Nat) (w : World) (hcap : 1 ≤ cap) (hg1 : lo g) (hg2 : g < w.heap.size) (hTL : TreeL lo w g off [k]) (ho : op = 2 ∨ op = 3) (hki : inT k.op = true) (hen : enclB (op : Int) k.op 0 = true) :
    Calls Tryz.prog 35 #[.agg #[.int .i64 (op : Int), .int .i64 n, .string nb, .slice (some ⟨g, off, none⟩) 1 cap]] w (TxP (opS (op : Int) ++ wrapT true s) w) := by
  obtain ⟨inf, hinf, hz0, hz1, hz2⟩ := info_parts info_strN
  have hb0 : Below w.heap.size w (w.alloc (.cells #[.int .i64 (op : Int), .int .i64 n, .string nb, .slice (some ⟨g, off, none⟩) 1 cap] 25)) := (Below.refl _ _).alloc (Nat.le_refl _) _
  have hx0 := Box.new w 25 #[.int .i64 (op : Int), .int .i64 n, .string nb, .slice (some ⟨g, off, none⟩) 1 cap]
  have hTr := TreeL.keep (w' := (w.alloc (.cells #[.int .i64 (op : Int), .int .i64 n, .string nb, .slice (some ⟨g, off, none⟩) 1 cap] 25))) hb0.size (fun b _ hb => hb0.block b hb) g hg1 hg2 off _ hTL
  rw [TreeL] at hTr
  obtain ⟨⟨ka, kcap, c0, c1, c2, c3, hkt⟩, -⟩ := hTr
  have hIH := Lib.hid (IH.out lo _ _ hkt)
  have HWR := Lib.hid (fun wx hc => wrapped_all (op : Int) n k.op nb g off 1 cap 0 wx (by rcases ho with rfl | rfl <;> decide) hki hc (by omega) (by omega) (by omega) hcap (by omega))
  rw [hen] at HWR
  have HSG := Lib.hid (fun wx => Eu.sign_all op (by omega) wx)
  have hsg := opS_le2 (op : Int) (by rcases ho with rfl | rfl <;> decide)
  have d0 : ((op : Int) == 0) = false := beq_eq_false_iff_ne.2 (by omega)
  have d1 : ((op : Int) == 1) = false := beq_eq_false_iff_ne.2 (by omega)
  have HWL := Lib.hid (wrB_list true s)
  have hws := wrB_size true s hsl
  have hWB : wrB true s = ((⟨#[40]⟩ : ByteArray) ++ ⟨s.toArray⟩ ++ ⟨#[41]⟩) := rfl
  have HOW := Lib.hid (fun (wx : World) (sx : ByteArray) => (World.ownsRow_nil (wx.alloc (.cells #[.string sx] 9)) (w.heap.size + 1) 9 1))
  clear hTL hkt IH hen
  unfold exV at hIH
  generalize opS (op : Int) = sg at *
  go_enter Tryz.func35, Tryz.ntmps35
  go_wp2_with fail
  refine wp_loop_rounds 2 ?_
  rw [rounds_succ]
  go_wp2_with fail
  refine hIH.out.mono ?_
  rintro e w1 ⟨rfl, hb⟩
  have hb1 : Below w.heap.size w w1 := hb0.trans (hb.mono (by simp))
  have hx1 := hx0.below hb hx0.lt
  have ck1 : w1.cell? ⟨g, off + 0 * 4, none⟩ = some (.int .i64 k.op) := by
    have : (w.alloc (.cells #[.int .i64 (op : Int), .int .i64 n, .string nb, .slice (some ⟨g, off, none⟩) 1 cap] 25)).cell? ⟨g, off + 0 * 4, none⟩ = some (.int .i64 k.op) := by simpa using c0
    exact (hb.cell (p := ⟨g, off + 0 * 4, none⟩) (show g < _ by simp; omega)).trans this
  have hW := Lib.hid (HWR.out w1 ck1)
  clear hIH hb hb0 c0 c1 c2 c3 ck1 HWR hx0
  obtain ⟨x0, x1, x2, x3, -, -, -, -⟩ := hx1.four
  have hxl := hx1.lt
  go_wp2_with fail
  refine hW.out.mono ?_
  rintro e w2 ⟨rfl, hb2⟩
  have hx2 := hx1.below hb2 hxl
  have hB2 := hb1.trans (hb2.mono hb1.size)
  have hs2 : w.heap.size + 1 ≤ w2.heap.size := hx2.lt
  clear hW hx1 hb1 hb2 x0 x1 x2 x3
  have HWBs := Lib.hid hWB
  clear hWB
  go_wp2_with (at_builtin; refine wpList_append_lies _ rfl _ _ 33 rfl (w.heap.size + 1) 9 inf (.string ⟨#[]⟩) 1 16 Tryz.underlying33 hinf hz0 hz1 hz2 rfl (by decide) _ _ _ rfl (HOW.out _ _) ⟨w2.heap.size, 0, none⟩ 1 1 [.string ((⟨#[40]⟩ : ByteArray) ++ ⟨s.toArray⟩ ++ ⟨#[41]⟩)] rfl rfl ?c1 ?c2 ?c3 ?c4 ?c5 ?c6 (w2.heap.size + 1) ?c7 ?_)
  case c1 => exact newB _ _
  case c2 => exact oneB _
  case c3 => decide
  case c4 => decide
  case c5 => decide
  case c6 => simp; omega
  case c7 => simp
  intro g1 cap1 w3 h1 hgr hor hlt
  have xr0 := h1.cells (g := g1) rfl 0 _ rfl
  have hw3 : Below (w.heap.size + 1) w2 w3 := ((Below.refl (w.heap.size + 1) w2).alloc hs2 _).grown hgr (by simp; omega) (by intro k hk; cases hk)
  have hB3 : Below w.heap.size w w3 := hB2.trans (hw3.mono (by omega))
  have hx3 := hx2.below hw3 (by omega)
  have hxl3 := hx3.lt
  rw [← HWBs.out] at xr0 ⊢
  generalize wrB true s = T1 at *
  simp [Addr.add] at xr0
  obtain ⟨x0, x1, x2, x3, -, -, -, -⟩ := hx3.four
  clear h1 hgr hor hx2 hB2 hw3 HWBs
  go_wp2_with fail
  rw [rounds_succ]
  go_wp2_with fail
  have hSZ : (⟨sg.toArray⟩ : ByteArray).size ≤ 2 := by rw [size_list]; exact hsg
  have HSL : Hid ((⟨sg.toArray⟩ : ByteArray).data.toList = sg) := by unfold Hid; simp
  generalize (⟨sg.toArray⟩ : ByteArray) = sgb at *
  have x0d : w3.drew.cell? ⟨w.heap.size, 0, none⟩ = some (.int .i64 (op : Int)) := x0
  have xrd : w3.drew.cell? ⟨g1, 0, none⟩ = some (.string T1) := xr0
  go_region_held (fun w' => w'.cell? ⟨w.heap.size, 0, none⟩ = some (.int .i64 (op : Int)) ∧ w'.cell? ⟨g1, 0, none⟩ = some (.string T1)) (first | exact ⟨x0d, xrd⟩ | exact e1 | assumption)
    (first | (go_at_call 56; refine (HSG.out _).mono ?_; rintro e w4 ⟨rfl, hb4⟩; have e1 := (⟨(hb4.cell (p := ⟨w.heap.size, 0, none⟩) hxl3).trans x0d, (hb4.cell (p := ⟨g1, 0, none⟩) hlt).trans xrd⟩ : _ ∧ _); have hB4 := hB3.trans (((Below.refl w3.heap.size w3).drew.trans hb4).mono hB3.size)))
  all_goals go_wp2
  all_goals go_ret
  all_goals exact TxP.mk_ (by rw [ByteArray.data_append, Array.toList_append, HSL.out, HWL.out]) hB4

set_option maxRecDepth 100000 in
set_option maxHeartbeats 8000000 in
theorem rtext_bi00 (op : Nat) (n : Int) (nb : ByteArray) (k l : Ex) (s1 s2 : List UInt8) (hsl1 : s1.length ≤ 4000) (hsl2 : s2.length ≤ 4000) (IH1 : Hid (∀ (lo : Nat → Prop) (v : Value) (w : World), TreeV lo w k v → Calls Tryz.prog 35 #[v] w (TxP s1 w))) (IH2 : Hid (∀ (lo : Nat → Prop) (v : Value) (w : World), TreeV lo w l v → Calls Tryz.prog 35 #[v] w (TxP s2 w)))
    (lo : Nat → Prop) (g off cap : Nat) (w : World) (hcap : 2 ≤ cap) (hg1 : lo g) (hg2 : g < w.heap.size) (hTL : TreeL lo w g off [k, l]) (ho : 4 ≤ op) (ho2 : op < 17) (hki : inT k.op = true) (hli : inT l.op = true) (h5 : opL (op : Int) ≠ 5) (hin : inT (op : Int) = true) (hen1 : enclB (op : Int) k.op 0 = false) (hen2 : enclB (op : Int) l.op 1 = false) :
    Calls Tryz.prog 35 #[.agg #[.int .i64 (op : Int), .int .i64 n, .string nb, .slice (some ⟨g, off, none⟩) 2 cap]] w (TxP (wrapT false s1 ++ (32 :: (opS (op : Int) ++ [32])) ++ wrapT false s2) w) := by
  obtain ⟨inf, hinf, hz0, hz1, hz2⟩ := info_parts info_strN
  have hTL := TreeL.within1 g off _ hTL
  obtain ⟨lo2, hlo2⟩ : ∃ lo2 : Nat → Prop, lo2 = fun k => lo k ∧ k < w.heap.size := ⟨_, rfl⟩
  rw [← hlo2] at hTL
  have hg1 : lo2 g := by rw [hlo2]; exact ⟨hg1, hg2⟩
  have hLO : ∀ q, lo2 q → q < w.heap.size := fun q h => by rw [hlo2] at h; exact h.2
  clear hlo2
  have HLO := Lib.hid hLO
  clear hLO
  have hb0 : Below w.heap.size w (w.alloc (.cells #[.int .i64 (op : Int), .int .i64 n, .string nb, .slice (some ⟨g, off, none⟩) 2 cap] 25)) := (Below.refl _ _).alloc (Nat.le_refl _) _
  have hx0 := Box.new w 25 #[.int .i64 (op : Int), .int .i64 n, .string nb, .slice (some ⟨g, off, none⟩) 2 cap]
  have hTr : TreeL lo2 (w.alloc (.cells #[.int .i64 (op : Int), .int .i64 n, .string nb, .slice (some ⟨g, off, none⟩) 2 cap] 25)) g off [k, l] := TreeL.keep (w' := (w.alloc (.cells #[.int .i64 (op : Int), .int .i64 n, .string nb, .slice (some ⟨g, off, none⟩) 2 cap] 25))) hb0.size (fun b _ hb => hb0.block b hb) g hg1 hg2 off _ hTL
  have HTr := Lib.hid hTr
  rw [TreeL, TreeL] at hTr
  obtain ⟨⟨ka, kcap, c0, c1, c2, c3, hkt⟩, ⟨la, lcap, e0, e1, e2, e3, hlt⟩, -⟩ := hTr
  have hIH := Lib.hid (IH1.out lo2 _ _ hkt)
  have HLT := Lib.hid hlt
  have HWR1 := Lib.hid (fun wx hc => wrapped_all (op : Int) n k.op nb g off 2 cap 0 wx hin hki hc (by omega) (by omega) (fun h => absurd h h5) hcap (by omega))
  have HWR2 := Lib.hid (fun wx hc => wrapped_all (op : Int) n l.op nb g off 2 cap 1 wx hin hli hc (by omega) (by omega) (fun h => absurd h h5) hcap (by omega))
  rw [hen1] at HWR1
  rw [hen2] at HWR2
  have HSG := Lib.hid (fun wx => Eu.sign_all op ho2 wx)
  have hsg := opS_le2 (op : Int) hin
  have d0 : ((op : Int) == 0) = false := beq_eq_false_iff_ne.2 (by omega)
  have d1 : ((op : Int) == 1) = false := beq_eq_false_iff_ne.2 (by omega)
  have HWL1 := Lib.hid (wrB_list false s1)
  have HWL2 := Lib.hid (wrB_list false s2)
  have hws1 := wrB_size false s1 hsl1
  have hws2 := wrB_size false s2 hsl2
  have HWB1 := Lib.hid (show wrB false s1 = ⟨s1.toArray⟩ from rfl)
  have HWB2 := Lib.hid (show wrB false s2 = ⟨s2.toArray⟩ from rfl)
  have HOW := Lib.hid (fun (wx : World) (sx : ByteArray) => (World.ownsRow_nil (wx.alloc (.cells #[.string sx] 9)) (w.heap.size + 1) 9 1))
  clear hTL hkt hlt IH1 h5 hin hen1 hen2 hki hli
  unfold exV at hIH
  generalize opS (op : Int) = sg at *
  go_enter Tryz.func35, Tryz.ntmps35
  go_wp2_with fail
  refine wp_loop_rounds 3 ?_
  rw [rounds_succ]
  go_wp2_with fail
  refine hIH.out.mono ?_
  rintro e w1 ⟨rfl, hb⟩
  have hb1 : Below w.heap.size w w1 := hb0.trans (hb.mono (by simp))
  have hx1 := hx0.below hb hx0.lt
  have hT1 : TreeL lo2 w1 g off [k, l] := TreeL.keep hb.size (fun b _ hq => hb.block b hq) g hg1 (by simp; omega) off _ HTr.out
  have HT1 := Lib.hid hT1
  rw [TreeL] at hT1
  have ck1 : w1.cell? ⟨g, off + 0 * 4, none⟩ = some (.int .i64 k.op) := by
    obtain ⟨⟨_, _, q0, _⟩, _⟩ := hT1
    simpa using q0
  have hW := Lib.hid (HWR1.out w1 ck1)
  clear hIH hb hb0 c0 c1 c2 c3 e0 e1 e2 e3 ck1 HWR1 hx0 HLT HTr hT1
  obtain ⟨x0, x1, x2, x3, -, -, -, -⟩ := hx1.four
  have hxl := hx1.lt
  go_wp2_with fail
  refine hW.out.mono ?_
  rintro e w2 ⟨rfl, hb2⟩
  have hx2 := hx1.below hb2 hxl
  have hB2 := hb1.trans (hb2.mono hb1.size)
  have HT2 := Lib.hid (TreeL.keep hb2.size (fun b _ hq => hb2.block b hq) g hg1 (Nat.lt_of_lt_of_le hg2 hb1.size) off _ HT1.out)
  have hs2 : w.heap.size + 1 ≤ w2.heap.size := hx2.lt
  clear hW hx1 hb1 hb2 x0 x1 x2 x3 HT1
  go_wp2_with (at_builtin; refine wpList_append_lies _ rfl _ _ 33 rfl (w.heap.size + 1) 9 inf (.string ⟨#[]⟩) 1 16 Tryz.underlying33 hinf hz0 hz1 hz2 rfl (by decide) _ _ _ rfl (HOW.out _ _) ⟨w2.heap.size, 0, none⟩ 1 1 [.string ⟨s1.toArray⟩] rfl rfl ?c1 ?c2 ?c3 ?c4 ?c5 ?c6 (w2.heap.size + 1) ?c7 ?_)
  case c1 => exact newB _ _
  case c2 => exact oneB _
  case c3 => decide
  case c4 => decide
  case c5 => decide
  case c6 => simp; omega
  case c7 => simp
  intro g1 cap1 w3 h1 hgr hor hlt
  have hw3 : Below (w.heap.size + 1) w2 w3 := ((Below.refl (w.heap.size + 1) w2).alloc hs2 _).grown hgr (by simp; omega) (by intro k hk; cases hk)
  have hB3 : Below w.heap.size w w3 := hB2.trans (hw3.mono (by omega))
  have hx3 := hx2.below hw3 (by omega)
  have hxl3 := hx3.lt
  rw [← HWB1.out] at h1 ⊢
  have HT3 := Lib.hid (TreeL.keep hw3.size (fun b hbq _ => hw3.block b (by have := HLO.out b hbq; omega)) g hg1 (Nat.lt_of_lt_of_le hg2 hB2.size) off _ HT2.out)
  generalize wrB false s1 = T1 at *
  have H1 := Lib.hid h1
  have hT3 := HT3.out
  rw [TreeL, TreeL] at hT3
  obtain ⟨-, ⟨la, lcap, e0, e1, e2, e3, hlt2⟩, -⟩ := hT3
  have hIH2 := Lib.hid (IH2.out lo2 _ _ hlt2)
  unfold exV at hIH2
  obtain ⟨x0, x1, x2, x3, -, -, -, -⟩ := hx3.four
  have hg3 : g < w3.heap.size := Nat.lt_of_lt_of_le hg2 hB3.size
  clear h1 hgr hor hx2 hB2 hw3 HWB1 HT2 hlt2 HOW IH2
  go_wp2_with fail
  rw [rounds_succ]
  go_wp2_with fail
  refine hIH2.out.mono ?_
  rintro e w4 ⟨rfl, hb4⟩
  have hx4 := hx3.below hb4 hxl3
  have hB4 := hB3.trans (hb4.mono hB3.size)
  have ck4 : w4.cell? ⟨g, off + 1 * 4, none⟩ = some (.int .i64 l.op) := (hb4.cell (p := ⟨g, off + 1 * 4, none⟩) hg3).trans (by simpa using e0)
  have hW2 := Lib.hid (HWR2.out w4 ck4)
  clear hIH2 x0 x1 x2 x3 e0 e1 e2 e3 ck4 HWR2 hx3
  obtain ⟨x0, x1, x2, x3, -, -, -, -⟩ := hx4.four
  have hxl4 := hx4.lt
  go_wp2_with fail
  refine hW2.out.mono ?_
  rintro e w5 ⟨rfl, hb5⟩
  have hx5 := hx4.below hb5 hxl4
  have hB5 := hB4.trans (hb5.mono hB4.size)
  have hs5 : w.heap.size + 1 ≤ w5.heap.size := hx5.lt
  have h15 := own_keepN (own_keepN H1.out hb4) hb5
  have HOW2 := Lib.hid (fun (sx : ByteArray) => own_keepN h15 ((Below.refl _ w5).alloc (Nat.le_refl _) (.cells #[.string sx] 9)))
  have hge := own_geN h15
  clear hW2 hx4 hB4 hb4 hb5 x0 x1 x2 x3 h15
  go_wp2_with (at_builtin; refine wpList_append_lies _ rfl _ _ 33 rfl (w.heap.size + 1) 9 inf (.string ⟨#[]⟩) 1 16 Tryz.underlying33 hinf hz0 hz1 hz2 rfl (by decide) _ _ _ rfl (HOW2.out _) ⟨w5.heap.size, 0, none⟩ 1 1 [.string ⟨s2.toArray⟩] rfl rfl ?d1 ?d2 ?d3 ?d4 ?d5 ?d6 (w5.heap.size + 1) ?d7 ?_)
  case d1 => exact newB _ _
  case d2 => exact oneB _
  case d3 => decide
  case d4 => decide
  case d5 => decide
  case d6 => simp; omega
  case d7 => simp
  intro g2 cap2 w6 h2 hgr hor hlt6
  have hw6 : Below (w.heap.size + 1) w5 w6 := ((Below.refl (w.heap.size + 1) w5).alloc hs5 _).grown hgr (by simp; omega) hge
  have hB6 : Below w.heap.size w w6 := hB5.trans (hw6.mono (by omega))
  have hx6 := hx5.below hw6 (by omega)
  have hxl6 := hx6.lt
  rw [← HWB2.out] at h2 ⊢
  generalize wrB false s2 = T2 at *
  have xr0 := h2.cells (g := g2) rfl 0 (.string T1) (by simp)
  have xr1 := h2.cells (g := g2) rfl 1 (.string T2) (by simp)
  simp [Addr.add] at xr0 xr1
  obtain ⟨x0, x1, x2, x3, -, -, -, -⟩ := hx6.four
  clear h2 hgr hor hx5 hB5 hw6 HWB2 H1 HT3 HOW2 hge
  go_wp2_with fail
  rw [rounds_succ]
  go_wp2_with fail
  have hSZ : (⟨sg.toArray⟩ : ByteArray).size ≤ 2 := by rw [size_list]; exact hsg
  have HSL : Hid ((⟨sg.toArray⟩ : ByteArray).data.toList = sg) := by unfold Hid; simp
  generalize (⟨sg.toArray⟩ : ByteArray) = sgb at *
  have x0d : w6.drew.cell? ⟨w.heap.size, 0, none⟩ = some (.int .i64 (op : Int)) := x0
  have xrd : w6.drew.cell? ⟨g2, 0, none⟩ = some (.string T1) := xr0
  have xrd1 : w6.drew.cell? ⟨g2, 1, none⟩ = some (.string T2) := xr1
  go_region_held (fun w' => w'.cell? ⟨w.heap.size, 0, none⟩ = some (.int .i64 (op : Int)) ∧ w'.cell? ⟨g2, 0, none⟩ = some (.string T1) ∧ w'.cell? ⟨g2, 1, none⟩ = some (.string T2)) (first | exact ⟨x0d, xrd, xrd1⟩ | exact e1 | assumption)
    (first | (go_at_call 56; refine (HSG.out _).mono ?_; rintro e w7 ⟨rfl, hb7⟩; have e1 := (⟨(hb7.cell (p := ⟨w.heap.size, 0, none⟩) hxl6).trans x0d, (hb7.cell (p := ⟨g2, 0, none⟩) hlt6).trans xrd, (hb7.cell (p := ⟨g2, 1, none⟩) hlt6).trans xrd1⟩ : _ ∧ _ ∧ _); have hB7 := hB6.trans (((Below.refl w6.heap.size w6).drew.trans hb7).mono hB6.size)))
  all_goals go_wp2
  all_goals go_ret
  all_goals exact TxP.mk_ (by simp only [ByteArray.data_append, Array.toList_append, HSL.out, HWL1.out, HWL2.out]; simp) hB7

set_option maxRecDepth 100000 in
set_option maxHeartbeats 8000000 in
theorem rtext_bi01 (op : Nat) (n : Int) (nb : ByteArray) (k l : Ex) (s1 s2 : List UInt8) (hsl1 : s1.length ≤ 4000) (hsl2 : s2.length ≤ 4000) (IH1 : Hid (∀ (lo : Nat → Prop) (v : Value) (w : World), TreeV lo w k v → Calls Tryz.prog 35 #[v] w (TxP s1 w))) (IH2 : Hid (∀ (lo : Nat → Prop) (v : Value) (w : World), TreeV lo w l v → Calls Tryz.prog 35 #[v] w (TxP s2 w)))
    (lo : Nat → Prop) (g off cap : Nat) (w : World) (hcap : 2 ≤ cap) (hg1 : lo g) (hg2 : g < w.heap.size) (hTL : TreeL lo w g off [k, l]) (ho : 4 ≤ op) (ho2 : op < 17) (hki : inT k.op = true) (hli : inT l.op = true) (h5 : opL (op : Int) ≠ 5) (hin : inT (op : Int) = true) (hen1 : enclB (op : Int) k.op 0 = false) (hen2 : enclB (op : Int) l.op 1 = true) :
    Calls Tryz.prog 35 #[.agg #[.int .i64 (op : Int), .int .i64 n, .string nb, .slice (some ⟨g, off, none⟩) 2 cap]] w (TxP (wrapT false s1 ++ (32 :: (opS (op : Int) ++ [32])) ++ wrapT true s2) w) := by
  obtain ⟨inf, hinf, hz0, hz1, hz2⟩ := info_parts info_strN
  have hTL := TreeL.within1 g off _ hTL
  obtain ⟨lo2, hlo2⟩ : ∃ lo2 : Nat → Prop, lo2 = fun k => lo k ∧ k < w.heap.size := ⟨_, rfl⟩
  rw [← hlo2] at hTL
  have hg1 : lo2 g := by rw [hlo2]; exact ⟨hg1, hg2⟩
  have hLO : ∀ q, lo2 q → q < w.heap.size := fun q h => by rw [hlo2] at h; exact h.2
  clear hlo2
  have HLO := Lib.hid hLO
  clear hLO
  have hb0 : Below w.heap.size w (w.alloc (.cells #[.int .i64 (op : Int), .int .i64 n, .string nb, .slice (some ⟨g, off, none⟩) 2 cap] 25)) := (Below.refl _ _).alloc (Nat.le_refl _) _
  have hx0 := Box.new w 25 #[.int .i64 (op : Int), .int .i64 n, .string nb, .slice (some ⟨g, off, none⟩) 2 cap]
  have hTr : TreeL lo2 (w.alloc (.cells #[.int .i64 (op : Int), .int .i64 n, .string nb, .slice (some ⟨g, off, none⟩) 2 cap] 25)) g off [k, l] := TreeL.keep (w' := (w.alloc (.cells #[.int .i64 (op : Int), .int .i64 n, .string nb, .slice (some ⟨g, off, none⟩) 2 cap] 25))) hb0.size (fun b _ hb => hb0.block b hb) g hg1 hg2 off _ hTL
  have HTr := Lib.hid hTr
  rw [TreeL, TreeL] at hTr
  obtain ⟨⟨ka, kcap, c0, c1, c2, c3, hkt⟩, ⟨la, lcap, e0, e1, e2, e3, hlt⟩, -⟩ := hTr
  have hIH := Lib.hid (IH1.out lo2 _ _ hkt)
  have HLT := Lib.hid hlt
  have HWR1 := Lib.hid (fun wx hc => wrapped_all (op : Int) n k.op nb g off 2 cap 0 wx hin hki hc (by omega) (by omega) (fun h => absurd h h5) hcap (by omega))
  have HWR2 := Lib.hid (fun wx hc => wrapped_all (op : Int) n l.op nb g off 2 cap 1 wx hin hli hc (by omega) (by omega) (fun h => absurd h h5) hcap (by omega))
  rw [hen1] at HWR1
  rw [hen2] at HWR2
  have HSG := Lib.hid (fun wx => Eu.sign_all op ho2 wx)
  have hsg := opS_le2 (op : Int) hin
  have d0 : ((op : Int) == 0) = false := beq_eq_false_iff_ne.2 (by omega)
  have d1 : ((op : Int) == 1) = false := beq_eq_false_iff_ne.2 (by omega)
  have HWL1 := Lib.hid (wrB_list false s1)
  have HWL2 := Lib.hid (wrB_list true s2)
  have hws1 := wrB_size false s1 hsl1
  have hws2 := wrB_size true s2 hsl2
  have HWB1 := Lib.hid (show wrB false s1 = ⟨s1.toArray⟩ from rfl)
  have HWB2 := Lib.hid (show wrB true s2 = ((⟨#[40]⟩ : ByteArray) ++ ⟨s2.toArray⟩ ++ ⟨#[41]⟩) from rfl)
  have HOW := Lib.hid (fun (wx : World) (sx : ByteArray) => (World.ownsRow_nil (wx.alloc (.cells #[.string sx] 9)) (w.heap.size + 1) 9 1))
  clear hTL hkt hlt IH1 h5 hin hen1 hen2 hki hli
  unfold exV at hIH
  generalize opS (op : Int) = sg at *
  go_enter Tryz.func35, Tryz.ntmps35
  go_wp2_with fail
  refine wp_loop_rounds 3 ?_
  rw [rounds_succ]
  go_wp2_with fail
  refine hIH.out.mono ?_
  rintro e w1 ⟨rfl, hb⟩
  have hb1 : Below w.heap.size w w1 := hb0.trans (hb.mono (by simp))
  have hx1 := hx0.below hb hx0.lt
  have hT1 : TreeL lo2 w1 g off [k, l] := TreeL.keep hb.size (fun b _ hq => hb.block b hq) g hg1 (by simp; omega) off _ HTr.out
  have HT1 := Lib.hid hT1
  rw [TreeL] at hT1
  have ck1 : w1.cell? ⟨g, off + 0 * 4, none⟩ = some (.int .i64 k.op) := by
    obtain ⟨⟨_, _, q0, _⟩, _⟩ := hT1
    simpa using q0
  have hW := Lib.hid (HWR1.out w1 ck1)
  clear hIH hb hb0 c0 c1 c2 c3 e0 e1 e2 e3 ck1 HWR1 hx0 HLT HTr hT1
  obtain ⟨x0, x1, x2, x3, -, -, -, -⟩ := hx1.four
  have hxl := hx1.lt
  go_wp2_with fail
  refine hW.out.mono ?_
  rintro e w2 ⟨rfl, hb2⟩
  have hx2 := hx1.below hb2 hxl
  have hB2 := hb1.trans (hb2.mono hb1.size)
  have HT2 := Lib.hid (TreeL.keep hb2.size (fun b _ hq => hb2.block b hq) g hg1 (Nat.lt_of_lt_of_le hg2 hb1.size) off _ HT1.out)
  have hs2 : w.heap.size + 1 ≤ w2.heap.size := hx2.lt
  clear hW hx1 hb1 hb2 x0 x1 x2 x3 HT1
  go_wp2_with (at_builtin; refine wpList_append_lies _ rfl _ _ 33 rfl (w.heap.size + 1) 9 inf (.string ⟨#[]⟩) 1 16 Tryz.underlying33 hinf hz0 hz1 hz2 rfl (by decide) _ _ _ rfl (HOW.out _ _) ⟨w2.heap.size, 0, none⟩ 1 1 [.string ⟨s1.toArray⟩] rfl rfl ?c1 ?c2 ?c3 ?c4 ?c5 ?c6 (w2.heap.size + 1) ?c7 ?_)
  case c1 => exact newB _ _
  case c2 => exact oneB _
  case c3 => decide
  case c4 => decide
  case c5 => decide
  case c6 => simp; omega
  case c7 => simp
  intro g1 cap1 w3 h1 hgr hor hlt
  have hw3 : Below (w.heap.size + 1) w2 w3 := ((Below.refl (w.heap.size + 1) w2).alloc hs2 _).grown hgr (by simp; omega) (by intro k hk; cases hk)
  have hB3 : Below w.heap.size w w3 := hB2.trans (hw3.mono (by omega))
  have hx3 := hx2.below hw3 (by omega)
  have hxl3 := hx3.lt
  rw [← HWB1.out] at h1 ⊢
  have HT3 := Lib.hid (TreeL.keep hw3.size (fun b hbq _ => hw3.block b (by have := HLO.out b hbq; omega)) g hg1 (Nat.lt_of_lt_of_le hg2 hB2.size) off _ HT2.out)
  generalize wrB false s1 = T1 at *
  have H1 := Lib.hid h1
  have hT3 := HT3.out
  rw [TreeL, TreeL] at hT3
  obtain ⟨-, ⟨la, lcap, e0, e1, e2, e3, hlt2⟩, -⟩ := hT3
  have hIH2 := Lib.hid (IH2.out lo2 _ _ hlt2)
  unfold exV at hIH2
  obtain ⟨x0, x1, x2, x3, -, -, -, -⟩ := hx3.four
  have hg3 : g < w3.heap.size := Nat.lt_of_lt_of_le hg2 hB3.size
  clear h1 hgr hor hx2 hB2 hw3 HWB1 HT2 hlt2 HOW IH2
  go_wp2_with fail
  rw [rounds_succ]
  go_wp2_with fail
  refine hIH2.out.mono ?_
  rintro e w4 ⟨rfl, hb4⟩
  have hx4 := hx3.below hb4 hxl3
  have hB4 := hB3.trans (hb4.mono hB3.size)
  have ck4 : w4.cell? ⟨g, off + 1 * 4, none⟩ = some (.int .i64 l.op) := (hb4.cell (p := ⟨g, off + 1 * 4, none⟩) hg3).trans (by simpa using e0)
  have hW2 := Lib.hid (HWR2.out w4 ck4)
  clear hIH2 x0 x1 x2 x3 e0 e1 e2 e3 ck4 HWR2 hx3
  obtain ⟨x0, x1, x2, x3, -, -, -, -⟩ := hx4.four
  have hxl4 := hx4.lt
  go_wp2_with fail
  refine hW2.out.mono ?_
  rintro e w5 ⟨rfl, hb5⟩
  have hx5 := hx4.below hb5 hxl4
  have hB5 := hB4.trans (hb5.mono hB4.size)
  have hs5 : w.heap.size + 1 ≤ w5.heap.size := hx5.lt
  have h15 := own_keepN (own_keepN H1.out hb4) hb5
  have HOW2 := Lib.hid (fun (sx : ByteArray) => own_keepN h15 ((Below.refl _ w5).alloc (Nat.le_refl _) (.cells #[.string sx] 9)))
  have hge := own_geN h15
  clear hW2 hx4 hB4 hb4 hb5 x0 x1 x2 x3 h15
  go_wp2_with (at_builtin; refine wpList_append_lies _ rfl _ _ 33 rfl (w.heap.size + 1) 9 inf (.string ⟨#[]⟩) 1 16 Tryz.underlying33 hinf hz0 hz1 hz2 rfl (by decide) _ _ _ rfl (HOW2.out _) ⟨w5.heap.size, 0, none⟩ 1 1 [.string ((⟨#[40]⟩ : ByteArray) ++ ⟨s2.toArray⟩ ++ ⟨#[41]⟩)] rfl rfl ?d1 ?d2 ?d3 ?d4 ?d5 ?d6 (w5.heap.size + 1) ?d7 ?_)
  case d1 => exact newB _ _
  case d2 => exact oneB _
  case d3 => decide
  case d4 => decide
  case d5 => decide
  case d6 => simp; omega
  case d7 => simp
  intro g2 cap2 w6 h2 hgr hor hlt6
  have hw6 : Below (w.heap.size + 1) w5 w6 := ((Below.refl (w.heap.size + 1) w5).alloc hs5 _).grown hgr (by simp; omega) hge
  have hB6 : Below w.heap.size w w6 := hB5.trans (hw6.mono (by omega))
  have hx6 := hx5.below hw6 (by omega)
  have hxl6 := hx6.lt
  rw [← HWB2.out] at h2 ⊢
  generalize wrB true s2 = T2 at *
  have xr0 := h2.cells (g := g2) rfl 0 (.string T1) (by simp)
  have xr1 := h2.cells (g := g2) rfl 1 (.string T2) (by simp)
  simp [Addr.add] at xr0 xr1
  obtain ⟨x0, x1, x2, x3, -, -, -, -⟩ := hx6.four
  clear h2 hgr hor hx5 hB5 hw6 HWB2 H1 HT3 HOW2 hge
  go_wp2_with fail
  rw [rounds_succ]
  go_wp2_with fail
  have hSZ : (⟨sg.toArray⟩ : ByteArray).size ≤ 2 := by rw [size_list]; exact hsg
  have HSL : Hid ((⟨sg.toArray⟩ : ByteArray).data.toList = sg) := by unfold Hid; simp
  generalize (⟨sg.toArray⟩ : ByteArray) = sgb at *
  have x0d : w6.drew.cell? ⟨w.heap.size, 0, none⟩ = some (.int .i64 (op : Int)) := x0
  have xrd : w6.drew.cell? ⟨g2, 0, none⟩ = some (.string T1) := xr0
  have xrd1 : w6.drew.cell? ⟨g2, 1, none⟩ = some (.string T2) := xr1
  go_region_held (fun w' => w'.cell? ⟨w.heap.size, 0, none⟩ = some (.int .i64 (op : Int)) ∧ w'.cell? ⟨g2, 0, none⟩ = some (.string T1) ∧ w'.cell? ⟨g2, 1, none⟩ = some (.string T2)) (first | exact ⟨x0d, xrd, xrd1⟩ | exact e1 | assumption)
    (first | (go_at_call 56; refine (HSG.out _).mono ?_; rintro e w7 ⟨rfl, hb7⟩; have e1 := (⟨(hb7.cell (p := ⟨w.heap.size, 0, none⟩) hxl6).trans x0d, (hb7.cell (p := ⟨g2, 0, none⟩) hlt6).trans xrd, (hb7.cell (p := ⟨g2, 1, none⟩) hlt6).trans xrd1⟩ : _ ∧ _ ∧ _); have hB7 := hB6.trans (((Below.refl w6.heap.size w6).drew.trans hb7).mono hB6.size)))
  all_goals go_wp2
  all_goals go_ret
  all_goals exact TxP.mk_ (by simp only [ByteArray.data_append, Array.toList_append, HSL.out, HWL1.out, HWL2.out]; simp) hB7

set_option maxRecDepth 100000 in
set_option maxHeartbeats 8000000 in
theorem rtext_bi10 (op : Nat) (n : Int) (nb : ByteArray) (k l : Ex) (s1 s2 : List UInt8) (hsl1 : s1.length ≤ 4000) (hsl2 : s2.length ≤ 4000) (IH1 : Hid (∀ (lo : Nat → Prop) (v : Value) (w : World), TreeV lo w k v → Calls Tryz.prog 35 #[v] w (TxP s1 w))) (IH2 : Hid (∀ (lo : Nat → Prop) (v : Value) (w : World), TreeV lo w l v → Calls Tryz.prog 35 #[v] w (TxP s2 w)))
    (lo : Nat → Prop) (g off cap : Nat) (w : World) (hcap : 2 ≤ cap) (hg1 : lo g) (hg2 : g < w.heap.size) (hTL : TreeL lo w g off [k, l]) (ho : 4 ≤ op) (ho2 : op < 17) (hki : inT k.op = true) (hli : inT l.op = true) (h5 : opL (op : Int) ≠ 5) (hin : inT (op : Int) = true) (hen1 : enclB (op : Int) k.op 0 = true) (hen2 : enclB (op : Int) l.op 1 = false) :
    Calls Tryz.prog 35 #[.agg #[.int .i64 (op : Int), .int .i64 n, .string nb, .slice (some ⟨g, off, none⟩) 2 cap]] w (TxP (wrapT true s1 ++ (32 :: (opS (op : Int) ++ [32])) ++ wrapT false s2) w) := by
  obtain ⟨inf, hinf, hz0, hz1, hz2⟩ := info_parts info_strN
  have hTL := TreeL.within1 g off _ hTL
  obtain ⟨lo2, hlo2⟩ : ∃ lo2 : Nat → Prop, lo2 = fun k => lo k ∧ k < w.heap.size := ⟨_, rfl⟩
  rw [← hlo2] at hTL
  have hg1 : lo2 g := by rw [hlo2]; exact ⟨hg1, hg2⟩
  have hLO : ∀ q, lo2 q → q < w.heap.size := fun q h => by rw [hlo2] at h; exact h.2
  clear hlo2
  have HLO := Lib.hid hLO
  clear hLO
  have hb0 : Below w.heap.size w (w.alloc (.cells #[.int .i64 (op : Int), .int .i64 n, .string nb, .slice (some ⟨g, off, none⟩) 2 cap] 25)) := (Below.refl _ _).alloc (Nat.le_refl _) _
  have hx0 := Box.new w 25 #[.int .i64 (op : Int), .int .i64 n, .string nb, .slice (some ⟨g, off, none⟩) 2 cap]
  have hTr : TreeL lo2 (w.alloc (.cells #[.int .i64 (op : Int), .int .i64 n, .string nb, .slice (some ⟨g, off, none⟩) 2 cap] 25)) g off [k, l] := TreeL.keep (w' := (w.alloc (.cells #[.int .i64 (op : Int), .int .i64 n, .string nb, .slice (some ⟨g, off, none⟩) 2 cap] 25))) hb0.size (fun b _ hb => hb0.block b hb) g hg1 hg2 off _ hTL
  have HTr := Lib.hid hTr
  rw [TreeL, TreeL] at hTr
  obtain ⟨⟨ka, kcap, c0, c1, c2, c3, hkt⟩, ⟨la, lcap, e0, e1, e2, e3, hlt⟩, -⟩ := hTr
  have hIH := Lib.hid (IH1.out lo2 _ _ hkt)
  have HLT := Lib.hid hlt
  have HWR1 := Lib.hid (fun wx hc => wrapped_all (op : Int) n k.op nb g off 2 cap 0 wx hin hki hc (by omega) (by omega) (fun h => absurd h h5) hcap (by omega))
  have HWR2 := Lib.hid (fun wx hc => wrapped_all (op : Int) n l.op nb g off 2 cap 1 wx hin hli hc (by omega) (by omega) (fun h => absurd h h5) hcap (by omega))
  rw [hen1] at HWR1
  rw [hen2] at HWR2
  have HSG := Lib.hid (fun wx => Eu.sign_all op ho2 wx)
  have hsg := opS_le2 (op : Int) hin
  have d0 : ((op : Int) == 0) = false := beq_eq_false_iff_ne.2 (by omega)
  have d1 : ((op : Int) == 1) = false := beq_eq_false_iff_ne.2 (by omega)
  have HWL1 := Lib.hid (wrB_list true s1)
  have HWL2 := Lib.hid (wrB_list false s2)
  have hws1 := wrB_size true s1 hsl1
  have hws2 := wrB_size false s2 hsl2
  have HWB1 := Lib.hid (show wrB true s1 = ((⟨#[40]⟩ : ByteArray) ++ ⟨s1.toArray⟩ ++ ⟨#[41]⟩) from rfl)
  have HWB2 := Lib.hid (show wrB false s2 = ⟨s2.toArray⟩ from rfl)
  have HOW := Lib.hid (fun (wx : World) (sx : ByteArray) => (World.ownsRow_nil (wx.alloc (.cells #[.string sx] 9)) (w.heap.size + 1) 9 1))
  clear hTL hkt hlt IH1 h5 hin hen1 hen2 hki hli
  unfold exV at hIH
  generalize opS (op : Int) = sg at *
  go_enter Tryz.func35, Tryz.ntmps35
  go_wp2_with fail
  refine wp_loop_rounds 3 ?_
  rw [rounds_succ]
  go_wp2_with fail
  refine hIH.out.mono ?_
  rintro e w1 ⟨rfl, hb⟩
  have hb1 : Below w.heap.size w w1 := hb0.trans (hb.mono (by simp))
  have hx1 := hx0.below hb hx0.lt
  have hT1 : TreeL lo2 w1 g off [k, l] := TreeL.keep hb.size (fun b _ hq => hb.block b hq) g hg1 (by simp; omega) off _ HTr.out
  have HT1 := Lib.hid hT1
  rw [TreeL] at hT1
  have ck1 : w1.cell? ⟨g, off + 0 * 4, none⟩ = some (.int .i64 k.op) := by
    obtain ⟨⟨_, _, q0, _⟩, _⟩ := hT1
    simpa using q0
  have hW := Lib.hid (HWR1.out w1 ck1)
  clear hIH hb hb0 c0 c1 c2 c3 e0 e1 e2 e3 ck1 HWR1 hx0 HLT HTr hT1
  obtain ⟨x0, x1, x2, x3, -, -, -, -⟩ := hx1.four
  have hxl := hx1.lt
  go_wp2_with fail
  refine hW.out.mono ?_
  rintro e w2 ⟨rfl, hb2⟩
  have hx2 := hx1.below hb2 hxl
  have hB2 := hb1.trans (hb2.mono hb1.size)
  have HT2 := Lib.hid (TreeL.keep hb2.size (fun b _ hq => hb2.block b hq) g hg1 (Nat.lt_of_lt_of_le hg2 hb1.size) off _ HT1.out)
  have hs2 : w.heap.size + 1 ≤ w2.heap.size := hx2.lt
  clear hW hx1 hb1 hb2 x0 x1 x2 x3 HT1
  go_wp2_with (at_builtin; refine wpList_append_lies _ rfl _ _ 33 rfl (w.heap.size + 1) 9 inf (.string ⟨#[]⟩) 1 16 Tryz.underlying33 hinf hz0 hz1 hz2 rfl (by decide) _ _ _ rfl (HOW.out _ _) ⟨w2.heap.size, 0, none⟩ 1 1 [.string ((⟨#[40]⟩ : ByteArray) ++ ⟨s1.toArray⟩ ++ ⟨#[41]⟩)] rfl rfl ?c1 ?c2 ?c3 ?c4 ?c5 ?c6 (w2.heap.size + 1) ?c7 ?_)
  case c1 => exact newB _ _
  case c2 => exact oneB _
  case c3 => decide
  case c4 => decide
  case c5 => decide
  case c6 => simp; omega
  case c7 => simp
  intro g1 cap1 w3 h1 hgr hor hlt
  have hw3 : Below (w.heap.size + 1) w2 w3 := ((Below.refl (w.heap.size + 1) w2).alloc hs2 _).grown hgr (by simp; omega) (by intro k hk; cases hk)
  have hB3 : Below w.heap.size w w3 := hB2.trans (hw3.mono (by omega))
  have hx3 := hx2.below hw3 (by omega)
  have hxl3 := hx3.lt
  rw [← HWB1.out] at h1 ⊢
  have HT3 := Lib.hid (TreeL.keep hw3.size (fun b hbq _ => hw3.block b (by have := HLO.out b hbq; omega)) g hg1 (Nat.lt_of_lt_of_le hg2 hB2.size) off _ HT2.out)
  generalize wrB true s1 = T1 at *
  have H1 := Lib.hid h1
  have hT3 := HT3.out
  rw [TreeL, TreeL] at hT3
  obtain ⟨-, ⟨la, lcap, e0, e1, e2, e3, hlt2⟩, -⟩ := hT3
  have hIH2 := Lib.hid (IH2.out lo2 _ _ hlt2)
  unfold exV at hIH2
  obtain ⟨x0, x1, x2, x3, -, -, -, -⟩ := hx3.four
  have hg3 : g < w3.heap.size := Nat.lt_of_lt_of_le hg2 hB3.size
  clear h1 hgr hor hx2 hB2 hw3 HWB1 HT2 hlt2 HOW IH2
  go_wp2_with fail
  rw [rounds_succ]
  go_wp2_with fail
  refine hIH2.out.mono ?_
  rintro e w4 ⟨rfl, hb4⟩
  have hx4 := hx3.below hb4 hxl3
  have hB4 := hB3.trans (hb4.mono hB3.size)
  have ck4 : w4.cell? ⟨g, off + 1 * 4, none⟩ = some (.int .i64 l.op) := (hb4.cell (p := ⟨g, off + 1 * 4, none⟩) hg3).trans (by simpa using e0)
  have hW2 := Lib.hid (HWR2.out w4 ck4)
  clear hIH2 x0 x1 x2 x3 e0 e1 e2 e3 ck4 HWR2 hx3
  obtain ⟨x0, x1, x2, x3, -, -, -, -⟩ := hx4.four
  have hxl4 := hx4.lt
  go_wp2_with fail
  refine hW2.out.mono ?_
  rintro e w5 ⟨rfl, hb5⟩
  have hx5 := hx4.below hb5 hxl4
  have hB5 := hB4.trans (hb5.mono hB4.size)
  have hs5 : w.heap.size + 1 ≤ w5.heap.size := hx5.lt
  have h15 := own_keepN (own_keepN H1.out hb4) hb5
  have HOW2 := Lib.hid (fun (sx : ByteArray) => own_keepN h15 ((Below.refl _ w5).alloc (Nat.le_refl _) (.cells #[.string sx] 9)))
  have hge := own_geN h15
  clear hW2 hx4 hB4 hb4 hb5 x0 x1 x2 x3 h15
  go_wp2_with (at_builtin; refine wpList_append_lies _ rfl _ _ 33 rfl (w.heap.size + 1) 9 inf (.string ⟨#[]⟩) 1 16 Tryz.underlying33 hinf hz0 hz1 hz2 rfl (by decide) _ _ _ rfl (HOW2.out _) ⟨w5.heap.size, 0, none⟩ 1 1 [.string ⟨s2.toArray⟩] rfl rfl ?d1 ?d2 ?d3 ?d4 ?d5 ?d6 (w5.heap.size + 1) ?d7 ?_)
  case d1 => exact newB _ _
  case d2 => exact oneB _
  case d3 => decide
  case d4 => decide
  case d5 => decide
  case d6 => simp; omega
  case d7 => simp
  intro g2 cap2 w6 h2 hgr hor hlt6
  have hw6 : Below (w.heap.size + 1) w5 w6 := ((Below.refl (w.heap.size + 1) w5).alloc hs5 _).grown hgr (by simp; omega) hge
  have hB6 : Below w.heap.size w w6 := hB5.trans (hw6.mono (by omega))
  have hx6 := hx5.below hw6 (by omega)
  have hxl6 := hx6.lt
  rw [← HWB2.out] at h2 ⊢
  generalize wrB false s2 = T2 at *
  have xr0 := h2.cells (g := g2) rfl 0 (.string T1) (by simp)
  have xr1 := h2.cells (g := g2) rfl 1 (.string T2) (by simp)
  simp [Addr.add] at xr0 xr1
  obtain ⟨x0, x1, x2, x3, -, -, -, -⟩ := hx6.four
  clear h2 hgr hor hx5 hB5 hw6 HWB2 H1 HT3 HOW2 hge
  go_wp2_with fail
  rw [rounds_succ]
  go_wp2_with fail
  have hSZ : (⟨sg.toArray⟩ : ByteArray).size ≤ 2 := by rw [size_list]; exact hsg
  have HSL : Hid ((⟨sg.toArray⟩ : ByteArray).data.toList = sg) := by unfold Hid; simp
  generalize (⟨sg.toArray⟩ : ByteArray) = sgb at *
  have x0d : w6.drew.cell? ⟨w.heap.size, 0, none⟩ = some (.int .i64 (op : Int)) := x0
  have xrd : w6.drew.cell? ⟨g2, 0, none⟩ = some (.string T1) := xr0
  have xrd1 : w6.drew.cell? ⟨g2, 1, none⟩ = some (.string T2) := xr1
  go_region_held (fun w' => w'.cell? ⟨w.heap.size, 0, none⟩ = some (.int .i64 (op : Int)) ∧ w'.cell? ⟨g2, 0, none⟩ = some (.string T1) ∧ w'.cell? ⟨g2, 1, none⟩ = some (.string T2)) (first | exact ⟨x0d, xrd, xrd1⟩ | exact e1 | assumption)
    (first | (go_at_call 56; refine (HSG.out _).mono ?_; rintro e w7 ⟨rfl, hb7⟩; have e1 := (⟨(hb7.cell (p := ⟨w.heap.size, 0, none⟩) hxl6).trans x0d, (hb7.cell (p := ⟨g2, 0, none⟩) hlt6).trans xrd, (hb7.cell (p := ⟨g2, 1, none⟩) hlt6).trans xrd1⟩ : _ ∧ _ ∧ _); have hB7 := hB6.trans (((Below.refl w6.heap.size w6).drew.trans hb7).mono hB6.size)))
  all_goals go_wp2
  all_goals go_ret
  all_goals exact TxP.mk_ (by simp only [ByteArray.data_append, Array.toList_append, HSL.out, HWL1.out, HWL2.out]; simp) hB7

set_option maxRecDepth 100000 in
set_option maxHeartbeats 8000000 in
theorem rtext_bi11 (op : Nat) (n : Int) (nb : ByteArray) (k l : Ex) (s1 s2 : List UInt8) (hsl1 : s1.length ≤ 4000) (hsl2 : s2.length ≤ 4000) (IH1 : Hid (∀ (lo : Nat → Prop) (v : Value) (w : World), TreeV lo w k v → Calls Tryz.prog 35 #[v] w (TxP s1 w))) (IH2 : Hid (∀ (lo : Nat → Prop) (v : Value) (w : World), TreeV lo w l v → Calls Tryz.prog 35 #[v] w (TxP s2 w)))
    (lo : Nat → Prop) (g off cap : Nat) (w : World) (hcap : 2 ≤ cap) (hg1 : lo g) (hg2 : g < w.heap.size) (hTL : TreeL lo w g off [k, l]) (ho : 4 ≤ op) (ho2 : op < 17) (hki : inT k.op = true) (hli : inT l.op = true) (h5 : opL (op : Int) ≠ 5) (hin : inT (op : Int) = true) (hen1 : enclB (op : Int) k.op 0 = true) (hen2 : enclB (op : Int) l.op 1 = true) :
    Calls Tryz.prog 35 #[.agg #[.int .i64 (op : Int), .int .i64 n, .string nb, .slice (some ⟨g, off, none⟩) 2 cap]] w (TxP (wrapT true s1 ++ (32 :: (opS (op : Int) ++ [32])) ++ wrapT true s2) w) := by
  obtain ⟨inf, hinf, hz0, hz1, hz2⟩ := info_parts info_strN
  have hTL := TreeL.within1 g off _ hTL
  obtain ⟨lo2, hlo2⟩ : ∃ lo2 : Nat → Prop, lo2 = fun k => lo k ∧ k < w.heap.size := ⟨_, rfl⟩
  rw [← hlo2] at hTL
  have hg1 : lo2 g := by rw [hlo2]; exact ⟨hg1, hg2⟩
  have hLO : ∀ q, lo2 q → q < w.heap.size := fun q h => by rw [hlo2] at h; exact h.2
  clear hlo2
  have HLO := Lib.hid hLO
  clear hLO
  have hb0 : Below w.heap.size w (w.alloc (.cells #[.int .i64 (op : Int), .int .i64 n, .string nb, .slice (some ⟨g, off, none⟩) 2 cap] 25)) := (Below.refl _ _).alloc (Nat.le_refl _) _
  have hx0 := Box.new w 25 #[.int .i64 (op : Int), .int .i64 n, .string nb, .slice (some ⟨g, off, none⟩) 2 cap]
  have hTr : TreeL lo2 (w.alloc (.cells #[.int .i64 (op : Int), .int .i64 n, .string nb, .slice (some ⟨g, off, none⟩) 2 cap] 25)) g off [k, l] := TreeL.keep (w' := (w.alloc (.cells #[.int .i64 (op : Int), .int .i64 n, .string nb, .slice (some ⟨g, off, none⟩) 2 cap] 25))) hb0.size (fun b _ hb => hb0.block b hb) g hg1 hg2 off _ hTL
  have HTr := Lib.hid hTr
  rw [TreeL, TreeL] at hTr
  obtain ⟨⟨ka, kcap, c0, c1, c2, c3, hkt⟩, ⟨la, lcap, e0, e1, e2, e3, hlt⟩, -⟩ := hTr
  have hIH := Lib.hid (IH1.out lo2 _ _ hkt)
  have HLT := Lib.hid hlt
  have HWR1 := Lib.hid (fun wx hc => wrapped_all (op : Int) n k.op nb g off 2 cap 0 wx hin hki hc (by omega) (by omega) (fun h => absurd h h5) hcap (by omega))
  have HWR2 := Lib.hid (fun wx hc => wrapped_all (op : Int) n l.op nb g off 2 cap 1 wx hin hli hc (by omega) (by omega) (fun h => absurd h h5) hcap (by omega))
  rw [hen1] at HWR1
  rw [hen2] at HWR2
  have HSG := Lib.hid (fun wx => Eu.sign_all op ho2 wx)
  have hsg := opS_le2 (op : Int) hin
  have d0 : ((op : Int) == 0) = false := beq_eq_false_iff_ne.2 (by omega)
  have d1 : ((op : Int) == 1) = false := beq_eq_false_iff_ne.2 (by omega)
  have HWL1 := Lib.hid (wrB_list true s1)
  have HWL2 := Lib.hid (wrB_list true s2)
  have hws1 := wrB_size true s1 hsl1
  have hws2 := wrB_size true s2 hsl2
  have HWB1 := Lib.hid (show wrB true s1 = ((⟨#[40]⟩ : ByteArray) ++ ⟨s1.toArray⟩ ++ ⟨#[41]⟩) from rfl)
  have HWB2 := Lib.hid (show wrB true s2 = ((⟨#[40]⟩ : ByteArray) ++ ⟨s2.toArray⟩ ++ ⟨#[41]⟩) from rfl)
  have HOW := Lib.hid (fun (wx : World) (sx : ByteArray) => (World.ownsRow_nil (wx.alloc (.cells #[.string sx] 9)) (w.heap.size + 1) 9 1))
  clear hTL hkt hlt IH1 h5 hin hen1 hen2 hki hli
  unfold exV at hIH
  generalize opS (op : Int) = sg at *
  go_enter Tryz.func35, Tryz.ntmps35
  go_wp2_with fail
  refine wp_loop_rounds 3 ?_
  rw [rounds_succ]
  go_wp2_with fail
  refine hIH.out.mono ?_
  rintro e w1 ⟨rfl, hb⟩
  have hb1 : Below w.heap.size w w1 := hb0.trans (hb.mono (by simp))
  have hx1 := hx0.below hb hx0.lt
  have hT1 : TreeL lo2 w1 g off [k, l] := TreeL.keep hb.size (fun b _ hq => hb.block b hq) g hg1 (by simp; omega) off _ HTr.out
  have HT1 := Lib.hid hT1
  rw [TreeL] at hT1
  have ck1 : w1.cell? ⟨g, off + 0 * 4, none⟩ = some (.int .i64 k.op) := by
    obtain ⟨⟨_, _, q0, _⟩, _⟩ := hT1
    simpa using q0
  have hW := Lib.hid (HWR1.out w1 ck1)
  clear hIH hb hb0 c0 c1 c2 c3 e0 e1 e2 e3 ck1 HWR1 hx0 HLT HTr hT1
  obtain ⟨x0, x1, x2, x3, -, -, -, -⟩ := hx1.four
  have hxl := hx1.lt
  go_wp2_with fail
  refine hW.out.mono ?_
  rintro e w2 ⟨rfl, hb2⟩
  have hx2 := hx1.below hb2 hxl
  have hB2 := hb1.trans (hb2.mono hb1.size)
  have HT2 := Lib.hid (TreeL.keep hb2.size (fun b _ hq => hb2.block b hq) g hg1 (Nat.lt_of_lt_of_le hg2 hb1.size) off _ HT1.out)
  have hs2 : w.heap.size + 1 ≤ w2.heap.size := hx2.lt
  clear hW hx1 hb1 hb2 x0 x1 x2 x3 HT1
  go_wp2_with (at_builtin; refine wpList_append_lies _ rfl _ _ 33 rfl (w.heap.size + 1) 9 inf (.string ⟨#[]⟩) 1 16 Tryz.underlying33 hinf hz0 hz1 hz2 rfl (by decide) _ _ _ rfl (HOW.out _ _) ⟨w2.heap.size, 0, none⟩ 1 1 [.string ((⟨#[40]⟩ : ByteArray) ++ ⟨s1.toArray⟩ ++ ⟨#[41]⟩)] rfl rfl ?c1 ?c2 ?c3 ?c4 ?c5 ?c6 (w2.heap.size + 1) ?c7 ?_)
  case c1 => exact newB _ _
  case c2 => exact oneB _
  case c3 => decide
  case c4 => decide
  case c5 => decide
  case c6 => simp; omega
  case c7 => simp
  intro g1 cap1 w3 h1 hgr hor hlt
  have hw3 : Below (w.heap.size + 1) w2 w3 := ((Below.refl (w.heap.size + 1) w2).alloc hs2 _).grown hgr (by simp; omega) (by intro k hk; cases hk)
  have hB3 : Below w.heap.size w w3 := hB2.trans (hw3.mono (by omega))
  have hx3 := hx2.below hw3 (by omega)
  have hxl3 := hx3.lt
  rw [← HWB1.out] at h1 ⊢
  have HT3 := Lib.hid (TreeL.keep hw3.size (fun b hbq _ => hw3.block b (by have := HLO.out b hbq; omega)) g hg1 (Nat.lt_of_lt_of_le hg2 hB2.size) off _ HT2.out)
  generalize wrB true s1 = T1 at *
  have H1 := Lib.hid h1
  have hT3 := HT3.out
  rw [TreeL, TreeL] at hT3
  obtain ⟨-, ⟨la, lcap, e0, e1, e2, e3, hlt2⟩, -⟩ := hT3
  have hIH2 := Lib.hid (IH2.out lo2 _ _ hlt2)
  unfold exV at hIH2
  obtain ⟨x0, x1, x2, x3, -, -, -, -⟩ := hx3.four
  have hg3 : g < w3.heap.size := Nat.lt_of_lt_of_le hg2 hB3.size
  clear h1 hgr hor hx2 hB2 hw3 HWB1 HT2 hlt2 HOW IH2
  go_wp2_with fail
  rw [rounds_succ]
  go_wp2_with fail
  refine hIH2.out.mono ?_
  rintro e w4 ⟨rfl, hb4⟩
  have hx4 := hx3.below hb4 hxl3
  have hB4 := hB3.trans (hb4.mono hB3.size)
  have ck4 : w4.cell? ⟨g, off + 1 * 4, none⟩ = some (.int .i64 l.op) := (hb4.cell (p := ⟨g, off + 1 * 4, none⟩) hg3).trans (by simpa using e0)
  have hW2 := Lib.hid (HWR2.out w4 ck4)
  clear hIH2 x0 x1 x2 x3 e0 e1 e2 e3 ck4 HWR2 hx3
  obtain ⟨x0, x1, x2, x3, -, -, -, -⟩ := hx4.four
  have hxl4 := hx4.lt
  go_wp2_with fail
  refine hW2.out.mono ?_
  rintro e w5 ⟨rfl, hb5⟩
  have hx5 := hx4.below hb5 hxl4
  have hB5 := hB4.trans (hb5.mono hB4.size)
  have hs5 : w.heap.size + 1 ≤ w5.heap.size := hx5.lt
  have h15 := own_keepN (own_keepN H1.out hb4) hb5
  have HOW2 := Lib.hid (fun (sx : ByteArray) => own_keepN h15 ((Below.refl _ w5).alloc (Nat.le_refl _) (.cells #[.string sx] 9)))
  have hge := own_geN h15
  clear hW2 hx4 hB4 hb4 hb5 x0 x1 x2 x3 h15
  go_wp2_with (at_builtin; refine wpList_append_lies _ rfl _ _ 33 rfl (w.heap.size + 1) 9 inf (.string ⟨#[]⟩) 1 16 Tryz.underlying33 hinf hz0 hz1 hz2 rfl (by decide) _ _ _ rfl (HOW2.out _) ⟨w5.heap.size, 0, none⟩ 1 1 [.string ((⟨#[40]⟩ : ByteArray) ++ ⟨s2.toArray⟩ ++ ⟨#[41]⟩)] rfl rfl ?d1 ?d2 ?d3 ?d4 ?d5 ?d6 (w5.heap.size + 1) ?d7 ?_)
  case d1 => exact newB _ _
  case d2 => exact oneB _
  case d3 => decide
  case d4 => decide
  case d5 => decide
  case d6 => simp; omega
  case d7 => simp
  intro g2 cap2 w6 h2 hgr hor hlt6
  have hw6 : Below (w.heap.size + 1) w5 w6 := ((Below.refl (w.heap.size + 1) w5).alloc hs5 _).grown hgr (by simp; omega) hge
  have hB6 : Below w.heap.size w w6 := hB5.trans (hw6.mono (by omega))
  have hx6 := hx5.below hw6 (by omega)
  have hxl6 := hx6.lt
  rw [← HWB2.out] at h2 ⊢
  generalize wrB true s2 = T2 at *
  have xr0 := h2.cells (g := g2) rfl 0 (.string T1) (by simp)
  have xr1 := h2.cells (g := g2) rfl 1 (.string T2) (by simp)
  simp [Addr.add] at xr0 xr1
  obtain ⟨x0, x1, x2, x3, -, -, -, -⟩ := hx6.four
  clear h2 hgr hor hx5 hB5 hw6 HWB2 H1 HT3 HOW2 hge
  go_wp2_with fail
  rw [rounds_succ]
  go_wp2_with fail
  have hSZ : (⟨sg.toArray⟩ : ByteArray).size ≤ 2 := by rw [size_list]; exact hsg
  have HSL : Hid ((⟨sg.toArray⟩ : ByteArray).data.toList = sg) := by unfold Hid; simp
  generalize (⟨sg.toArray⟩ : ByteArray) = sgb at *
  have x0d : w6.drew.cell? ⟨w.heap.size, 0, none⟩ = some (.int .i64 (op : Int)) := x0
  have xrd : w6.drew.cell? ⟨g2, 0, none⟩ = some (.string T1) := xr0
  have xrd1 : w6.drew.cell? ⟨g2, 1, none⟩ = some (.string T2) := xr1
  go_region_held (fun w' => w'.cell? ⟨w.heap.size, 0, none⟩ = some (.int .i64 (op : Int)) ∧ w'.cell? ⟨g2, 0, none⟩ = some (.string T1) ∧ w'.cell? ⟨g2, 1, none⟩ = some (.string T2)) (first | exact ⟨x0d, xrd, xrd1⟩ | exact e1 | assumption)
    (first | (go_at_call 56; refine (HSG.out _).mono ?_; rintro e w7 ⟨rfl, hb7⟩; have e1 := (⟨(hb7.cell (p := ⟨w.heap.size, 0, none⟩) hxl6).trans x0d, (hb7.cell (p := ⟨g2, 0, none⟩) hlt6).trans xrd, (hb7.cell (p := ⟨g2, 1, none⟩) hlt6).trans xrd1⟩ : _ ∧ _ ∧ _); have hB7 := hB6.trans (((Below.refl w6.heap.size w6).drew.trans hb7).mono hB6.size)))
  all_goals go_wp2
  all_goals go_ret
  all_goals exact TxP.mk_ (by simp only [ByteArray.data_append, Array.toList_append, HSL.out, HWL1.out, HWL2.out]; simp) hB7

end Go.Proofs.YtinocaggponpmaaGreatDoor.Ep

namespace Go.Proofs.YtinocaggponpmaaGreatDoor.Ep
open Go.RowKit Lx

theorem op_two {op : Int} (h : inT op = true) (hk : opK op = 2) : 4 ≤ op ∧ opL op ≠ 5 := by
  have hb := (inT_iff _).1 h
  have : ∀ k : Fin 17, opK (k.val : Int) = 2 → 4 ≤ (k.val : Int) ∧ opL (k.val : Int) ≠ 5 := by decide
  have := this ⟨op.toNat, by omega⟩ (by simpa [Int.toNat_of_nonneg hb.1] using hk)
  simpa [Int.toNat_of_nonneg hb.1] using this
theorem op_one {op : Int} (h : inT op = true) (hk : opK op = 1) : op = 2 ∨ op = 3 := by
  have hb := (inT_iff _).1 h
  have : ∀ k : Fin 17, opK (k.val : Int) = 1 → (k.val : Int) = 2 ∨ (k.val : Int) = 3 := by decide
  have := this ⟨op.toNat, by omega⟩ (by simpa [Int.toNat_of_nonneg hb.1] using hk)
  simpa [Int.toNat_of_nonneg hb.1] using this
theorem op_none {op : Int} (h : inT op = true) (hk : opK op = 0) : op = 0 ∨ op = 1 := by
  have hb := (inT_iff _).1 h
  have : ∀ k : Fin 17, opK (k.val : Int) = 0 → (k.val : Int) = 0 ∨ (k.val : Int) = 1 := by decide
  have := this ⟨op.toNat, by omega⟩ (by simpa [Int.toNat_of_nonneg hb.1] using hk)
  simpa [Int.toNat_of_nonneg hb.1] using this

theorem rtext_any (t : Ex) : ∀ (lo : Nat → Prop) (v : Value) (w : World), goodE t → (textE t).length ≤ 4000 → TreeV lo w t v → Calls Tryz.prog 35 #[v] w (TxP (textE t) w) := by
  induction t using Ex.ind with
  | h op n nm ks ih =>
    intro lo v w hg hlen hT
    unfold TreeV at hT
    obtain ⟨a, cap, rfl, hcap, hk⟩ := hT
    rw [goodE] at hg
    have hin := (formed_true hg.1).1
    unfold exV
    rcases opK_012 hin with h | h | h
    · have hks := kids_0 hg.1 h
      subst hks
      rw [tE0 _ _ _ _ h]
      rcases op_none hin h with rfl | rfl
      · rw [if_pos rfl]; exact rtext_0 n _ a _ cap w hg.2.1.1 hg.2.1.2
      · rw [if_neg (by decide)]; exact rtext_1 n nm a _ cap w
    · obtain ⟨k, rfl⟩ := kids_1 hg.1 h
      have hgl := hg.2.2
      rw [goodL] at hgl
      obtain ⟨g, off, rfl, hg1, hg2, hTL⟩ := hk (by simp)
      have hki : inT k.op = true := by
        have h1 := hgl.1
        cases k with | mk a b c d => rw [goodE] at h1; exact (formed_true h1.1).1
      rw [tE1 _ _ _ _ h] at hlen ⊢
      rw [List.length_append, wrap_len] at hlen
      have hsl : (textE k).length ≤ 4000 := by omega
      have IH := Lib.hid (fun lo v w hT => ih k (by simp) lo v w hgl.1 hsl hT)
      rcases op_one hin h with rfl | rfl
      · cases hen : enclB 2 k.op 0
        · exact rtext_un0 2 n _ k (textE k) hsl IH lo g off cap w hcap hg1 hg2 hTL (Or.inl rfl) hki hen
        · exact rtext_un1 2 n _ k (textE k) hsl IH lo g off cap w hcap hg1 hg2 hTL (Or.inl rfl) hki hen
      · cases hen : enclB 3 k.op 0
        · exact rtext_un0 3 n _ k (textE k) hsl IH lo g off cap w hcap hg1 hg2 hTL (Or.inr rfl) hki hen
        · exact rtext_un1 3 n _ k (textE k) hsl IH lo g off cap w hcap hg1 hg2 hTL (Or.inr rfl) hki hen
    · obtain ⟨k, l, rfl⟩ := kids_2 hg.1 h
      have hgl := hg.2.2
      rw [goodL, goodL] at hgl
      obtain ⟨g, off, rfl, hg1, hg2, hTL⟩ := hk (by simp)
      have hki : inT k.op = true := by
        have h1 := hgl.1
        cases k with | mk a b c d => rw [goodE] at h1; exact (formed_true h1.1).1
      have hli : inT l.op = true := by
        have h1 := hgl.2.1
        cases l with | mk a b c d => rw [goodE] at h1; exact (formed_true h1.1).1
      rw [tE2 _ _ _ _ _ h] at hlen ⊢
      rw [List.length_append, List.length_append, wrap_len, wrap_len] at hlen
      have hsl1 : (textE k).length ≤ 4000 := by omega
      have hsl2 : (textE l).length ≤ 4000 := by omega
      have IH1 := Lib.hid (fun lo v w hT => ih k (by simp) lo v w hgl.1 hsl1 hT)
      have IH2 := Lib.hid (fun lo v w hT => ih l (by simp) lo v w hgl.2.1 hsl2 hT)
      obtain ⟨h4, h5⟩ := op_two hin h
      have hb := (inT_iff _).1 hin
      obtain ⟨o, rfl⟩ := Int.eq_ofNat_of_zero_le hb.1
      cases hen1 : enclB (o : Int) k.op 0 <;> cases hen2 : enclB (o : Int) l.op 1
      · exact rtext_bi00 o n _ k l _ _ hsl1 hsl2 IH1 IH2 lo g off cap w hcap hg1 hg2 hTL (by omega) (by omega) hki hli h5 hin hen1 hen2
      · exact rtext_bi01 o n _ k l _ _ hsl1 hsl2 IH1 IH2 lo g off cap w hcap hg1 hg2 hTL (by omega) (by omega) hki hli h5 hin hen1 hen2
      · exact rtext_bi10 o n _ k l _ _ hsl1 hsl2 IH1 IH2 lo g off cap w hcap hg1 hg2 hTL (by omega) (by omega) hki hli h5 hin hen1 hen2
      · exact rtext_bi11 o n _ k l _ _ hsl1 hsl2 IH1 IH2 lo g off cap w hcap hg1 hg2 hTL (by omega) (by omega) hki hli h5 hin hen1 hen2

set_option maxRecDepth 100000 in
set_option maxHeartbeats 2000000 in
theorem refPrint_any (t : Ex) (S : Nat → Prop) (x : Value) (w : World) (hT : TreeV S w t x) (hN : numsE t) (hs : shortE t) :
    Calls Tryz.prog 17 #[x] w (TxP (printE t) w) := by
  obtain ⟨a, cap, rfl, -, -⟩ := hT.open
  have hx0 := Box.new w 25 #[.int .i64 t.op, .int .i64 t.n, .string ⟨t.name.toArray⟩, .slice a t.kids.length cap]
  have HM := Lib.hid (refMay_any t S _ _ (hT.alloc (.cells #[.int .i64 t.op, .int .i64 t.n, .string ⟨t.name.toArray⟩, .slice a t.kids.length cap] 25)) hs)
  unfold exV at HM ⊢
  go_enter Tryz.func17, Tryz.ntmps17
  go_wp2_with fail
  refine HM.out.mono ?_
  rintro e w1 ⟨rfl, hb1⟩
  have hbw1 := below_new hb1
  have hx1 := hx0.below hb1 hx0.lt
  have hT1 := TreeV.below hT hbw1 (Nat.le_refl _)
  have hs1 := hbw1.size
  clear hb1 hx0 hT HM
  cases hm : mayB t with
  | false =>
    have HX : Hid (printE t = []) := by unfold Hid printE; rw [hm]; rfl
    clear hm
    go_wp2
    go_ret
    exact TxP.mk_ (by rw [HX.out]) hbw1
  | true =>
    have HX : Hid (printE t = textE t) := by unfold Hid printE; rw [hm]; rfl
    have hg := may_good hm hN
    have hlen := may_len hm hN
    clear hm
    obtain ⟨x0, x1, x2, x3, -, -, -, -⟩ := hx1.four
    have HT := Lib.hid (rtext_any t S _ w1 hg (by omega) hT1)
    rw [← HX.out] at HT
    clear hT1 hlen HX
    unfold exV at HT
    go_wp2_with fail
    refine HT.out.mono ?_
    rintro e w2 ⟨rfl, hb2⟩
    go_wp2
    go_ret
    exact ⟨rfl, hbw1.trans (hb2.mono hs1)⟩
end Go.Proofs.YtinocaggponpmaaGreatDoor.Ep
