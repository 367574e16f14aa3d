/-
  Contracts of rung.distinct and Bits.
-/
import Derived.Test.YtohljihndoodfaaDoorRgB
import Derived.Maps.OwnSet
import Derived.Maps.OwnOps
import Derived.StringKeys
namespace Go.Proofs.YtohljihndoodfaaDoor.Rg
open Go.RowKit Lx Ep Go.Maps

/-- A row of names of one's own. -/
def RowN (base : Nat) (w : World) (A : Option Addr) (c : Nat) (l : List Nm) : Prop := w.ownsRow base 9 1 (.slice A l.length c) l.length (l.flatMap strC)
theorem RowN.nil_ (base : Nat) (w : World) : RowN base w none 0 [] := World.ownsRow_nil _ _ _ _
theorem RowN.strs {base c : Nat} {w : World} {A : Option Addr} {l : List Nm} (h : RowN base w A c l) : Strs w A l := RowF.of_own (fun _ => rfl) h rfl
theorem RowN.below {base c : Nat} {w w' : World} {A : Option Addr} {l : List Nm} (h : RowN base w A c l) (k : Below w.heap.size w w') : RowN base w' A c l := own_keep h k
theorem RowN.less {base base' c : Nat} {w : World} {A : Option Addr} {l : List Nm} (h : RowN base w A c l) (hb : base' ≤ base) : RowN base' w A c l := own_less h hb
theorem RowN.drewN {base c : Nat} {w : World} {A : Option Addr} {l : List Nm} (h : RowN base w A c l) (q : Nat) : RowN base (w.drewN q) A c l := h
theorem own_ge {w : World} {base : Nat} {e : TypeId} {size : Nat} {v : Value} {n : Nat} {xs : List Value} (h : w.ownsRow base e size v n xs) : ∀ k, v.ownBlock = some k → base ≤ k := by
  rcases h.2 with ⟨rfl, -⟩ | ⟨g, cap, cur, rfl, hbg, -⟩
  · intro k hk; cases hk
  · intro k hk; injection hk with hk; subst hk; exact hbg
theorem RowN.cap {base c : Nat} {w : World} {A : Option Addr} {l : List Nm} (h : RowN base w A c l) : l.length ≤ c := by
  rcases h.2 with ⟨h1, h2⟩ | ⟨g, cap, cur, h1, _, _, h2, _⟩
  · have : l.length = 0 := h2
    omega
  · injection h1 with _ _ h3
    omega

set_option maxRecDepth 100000 in
theorem run_app_n {base n c p : Nat} {w : World} {A : Option Addr} {l : List Nm} (s : Nm) (hp : w.heap.size = p) (h : RowN base w A c l) (hn0 : l.length = n) (hn : n ≤ 100000) (hB : base ≤ w.heap.size) :
    ∃ A' c' w', (Builtin.append_ #[23, 23] 23 #[.slice A n c, .slice (some ⟨p, 0, none⟩) 1 1]).run Tryd.prog (w.alloc (.cells #[.string ⟨s.toArray⟩] 9)) = .ok (.slice A' (n + 1) c') w' ∧
      RowN base w' A' c' (l ++ [s]) ∧ (w.alloc (.cells #[.string ⟨s.toArray⟩] 9)).grownBy w' (Value.slice A n c).ownBlock ∧ (∀ w0, Below base w0 w → Below base w0 w') := by
  subst hn0 hp
  obtain ⟨A', c', w', hr, ho, hg, _⟩ := run_append_1 Tryd.underlying23 info_str (by rfl) (by omega) (by omega) #[.string ⟨s.toArray⟩] rfl (by simp [Value.oneCell']) h (by omega) hB
  have hlt := own_ge h
  refine ⟨A', c', w', hr, ?_, hg, fun w0 h0 => (h0.alloc hB _).grown hg (by simp; omega) hlt⟩
  unfold RowN
  rw [List.length_append, List.flatMap_append]
  exact ho

def MetN (l : List Nm) : DataW Unit := setOf (.agg []) (l.map fun x => Lit.string x)
theorem MetN_snoc (l : List Nm) (x : Nm) : MetN (l ++ [x]) = (MetN l).put (.string x) (.agg []) := by
  unfold MetN
  rw [List.map_append, List.map_singleton, setOf_snoc]
theorem same_str (a b : Nm) : (Lit.string a).sameKey (Lit.string b) = decide (a = b) := by
  by_cases h : a = b
  · subst h
    simp [Lit.sameKey]
  · rw [sameKey_ne (by simpa using h)]
    simp [h]
theorem has_MetN (l : List Nm) (x : Nm) : Maps.has (MetN l) (.string x) = decide (x ∈ l) := by
  unfold MetN
  rw [has_setOf _ _ _ (fun y hy => by obtain ⟨_, _, rfl⟩ := List.mem_map.1 hy; trivial), List.any_map]
  by_cases h : x ∈ l
  · rw [decide_eq_true h]
    exact List.any_eq_true.2 ⟨x, h, by simp [same_str]⟩
  · rw [decide_eq_false h]
    refine List.any_eq_false.2 fun y hy => ?_
    have : y ≠ x := fun e => h (e ▸ hy)
    simp [same_str, this]
theorem law_str : Keyed Tryd.prog 9 := string_keyed Tryd.underlying9
theorem zero_unit (w : World) : (zeroValue 70).run Tryd.prog w = .ok (.agg #[]) w := by kernel_rfl
theorem look_unit {P : Program} (w : World) {ops : Array Oper} {rest : List Oper} {o : Oper} {a : Act} {Q : Exit → Act → World → Prop} (hg : o.guard = none) (m x : Operand) (t : TypeId) (hop : o.op = Op.lookup t m x true)
    (k e : TypeId) (K : Keyed P k) (ht : P.underlying t = some (.map k e)) (hz : (zeroValue e).run P w = .ok (.agg #[]) w) (b n : Nat) (D : DataW Unit)
    (hm : a.eval m = .map (some b)) (hown : w.ownsMap P k unitElem b n D) (key : Value) (kl : Lit) (hx : a.eval x = key) (hkey : keyOf P k key = some kl) (r : Bool) (hr : Maps.has D kl = r)
    (hK : wpList P ops Q rest (a.put o.dst (.tuple #[.agg #[], .bool r])) w) : wpList P ops Q (o :: rest) a w := by
  subst hr
  exact wpList_lookup_own_unit w hg m x t hop k e K ht hz b n D hm hown key kl hx hkey hK

theorem map_below {w w' : World} {P : Program} {k : TypeId} {b n : Nat} {D : DataW Unit} {B : Nat} (h : w.ownsMap P k unitElem b n D) (hb : Below B w w') (hB : b < B) : w'.ownsMap P k unitElem b n D := by
  obtain ⟨es, clock, hh, r⟩ := h
  exact ⟨es, clock, (hb.block b hB).trans hh, r⟩
theorem map_grown {w w' : World} {P : Program} {k : TypeId} {b n : Nat} {D : DataW Unit} {row : Option Nat} (h : w.ownsMap P k unitElem b n D) (hg : w.grownBy w' row) (hne : some b ≠ row) : w'.ownsMap P k unitElem b n D := by
  obtain ⟨es, clock, hh, r⟩ := h
  exact ⟨es, clock, (hg.block b (Array.getElem?_eq_some_iff.1 hh).1 hne).trans hh, r⟩
theorem map_row {w : World} {P : Program} {k : TypeId} {b n : Nat} {D : DataW Unit} (h : w.ownsMap P k unitElem b n D) {base : Nat} {e : TypeId} {size : Nat} {v : Value} {m : Nat} {xs : List Value} (ho : w.ownsRow base e size v m xs) : some b ≠ v.ownBlock := by
  obtain ⟨es, clock, hh, r⟩ := h
  rcases ho.2 with ⟨rfl, _⟩ | ⟨g, cap, cur, rfl, _, hg, _⟩
  · intro hk; cases hk
  · intro hk
    injection hk with hk
    subst hk
    rw [hh] at hg
    cases hg
theorem own_grown {w w' : World} {base : Nat} {e : TypeId} {size : Nat} {v : Value} {n : Nat} {xs : List Value} {row : Option Nat} (h : w.ownsRow base e size v n xs) (hg : w.grownBy w' row) (hne : ∀ k, v.ownBlock = some k → some k ≠ row) : w'.ownsRow base e size v n xs := by
  refine ⟨h.1, ?_⟩
  rcases h.2 with h | ⟨g, cap, cur, hv, hbg, hh, r⟩
  · exact .inl h
  · refine .inr ⟨g, cap, cur, hv, hbg, (hg.block g (Array.getElem?_eq_some_iff.1 hh).1 (hne g (by rw [hv]; rfl))).trans hh, r⟩

theorem dist_succ {l : List Nm} {k : Nat} (h : k < l.length) : distP (l.take (k + 1)) = addD (distP (l.take k)) l[k] := by
  unfold distP
  rw [List.take_succ_eq_append_getElem h, List.foldl_append]
  rfl
theorem dist_take (l : List Nm) (k : Nat) : (distP (l.take k)).length ≤ k := Nat.le_trans (distP_len _) (by rw [List.length_take]; omega)

/-- What a list of names of one's own is told by. -/
def NamesPost (L : List Nm) (w : World) (e : Ending) (w' : World) : Prop :=
  ∃ A c, e = .returned (.slice A L.length c) ∧ RowN w.heap.size w' A c L ∧ Below w.heap.size w w'
def DRel (l : List Nm) (len : Nat) (w : World) (v i : Value) (wr : World) : Prop :=
  ∃ (k n : Nat) (acc : List Nm) (A : Option Addr) (c : Nat), k ≤ len ∧ i = .int .i64 (k : Int) ∧ v = .slice A n c ∧ n ≤ k ∧ Hid (acc.length = n ∧ acc = distP (l.take k)) ∧ Hid (RowN w.heap.size wr A c acc) ∧ Hid (wr.ownsMap Tryd.prog 9 unitElem w.heap.size n (MetN acc)) ∧ Hid (Below w.heap.size w wr)

set_option maxRecDepth 100000 in
set_option maxHeartbeats 4000000 in
theorem distinct_any (l : List Nm) (a : Option Addr) (cap : Nat) (w : World) (hS : Strs w a l) (hl : l.length ≤ 100000) (hx : ∀ x ∈ l, x.length ≤ maxLen) :
    Calls Tryd.prog 25 #[.slice a l.length cap] w (NamesPost (distP l) w) := by
  have HS := Lib.hid hS
  have HX := Lib.hid hx
  clear hS hx
  generalize hL : l.length = len at *
  have HL := Lib.hid hL
  clear hL
  have hmm := @run_makeMap Tryd.prog
  go_enter Tryd.func25, Tryd.ntmps25
  go_wp2
  clear hmm
  go_loopw [4, 12] (DRel l len w) (fun _ i _ => len - (intOf i).toNat)
  case atStart => exact ⟨0, 0, [], none, 0, by omega, rfl, rfl, by omega, ⟨rfl, rfl⟩, RowN.nil_ _ _, World.ownsMap_made _ _ _ _, (Below.refl _ _).alloc (Nat.le_refl _) _⟩
  case round =>
    obtain ⟨k, n, acc, A, c, hkl, rfl, rfl, hnk, HA, HR, HM, HB⟩ := hrel
    by_cases hlt : k < len
    · have hki : k < l.length := by rw [HL.out]; exact hlt
      obtain ⟨g, off, rfl, hg, c0⟩ := Strs.at1 (RowF.below HS.out HB.out) hki
      have HD := Lib.hid (dist_succ hki)
      have hxl := HX.out _ (List.getElem_mem hki)
      generalize l[k] = x at *
      have hkey : keyOf Tryd.prog 9 (.string ⟨x.toArray⟩) = some (.string x) := Go.WideMaps.keyOf_string_mk Tryd.underlying9 (show x.toArray.size ≤ maxLen by simpa using hxl)
      have hklt : ((k : Nat) : Int) < (len : Int) := by omega
      have hown := HM.out
      clear hxl
      by_cases hin : x ∈ acc
      · have hr : Maps.has (MetN acc) (.string x) = true := by rw [has_MetN]; exact decide_eq_true hin
        have hacc : Hid (acc.length = n ∧ acc = distP (l.take (k + 1))) := by
          refine ⟨HA.out.1, ?_⟩
          rw [HD.out, ← HA.out.2]
          unfold addD
          rw [if_pos hin]
        have hb1 := (Below.refl wr.heap.size wr).alloc (Nat.le_refl _) (.cells #[] 70)
        have HR2 : Hid (RowN w.heap.size (wr.alloc (.cells #[] 70)) A c acc) := HR.out.below hb1
        have HM2 : Hid ((wr.alloc (.cells #[] 70)).ownsMap Tryd.prog 9 unitElem w.heap.size n (MetN acc)) := hown.alloc _
        have HB2 : Hid (Below w.heap.size w (wr.alloc (.cells #[] 70))) := HB.out.alloc HB.out.size _
        clear hin HD HR HM HB hb1 HA
        go_wp2_with (first | (at_lookup; refine look_unit _ rfl _ _ 69 rfl 9 70 law_str Tryd.underlying69 (zero_unit _) w.heap.size n _ rfl hown _ _ rfl hkey true hr ?_) | fail)
        go_roundw
        case rel => exact ⟨k + 1, n, acc, A, c, by omega, by go_num, rfl, by omega, hacc, HR2, HM2, HB2⟩
        case measure => simp [intOf]; omega
      · have hr : Maps.has (MetN acc) (.string x) = false := by rw [has_MetN]; exact decide_eq_false hin
        have hacc : Hid ((acc ++ [x]).length = n + 1 ∧ acc ++ [x] = distP (l.take (k + 1))) := by
          refine ⟨by rw [List.length_append, HA.out.1]; rfl, ?_⟩
          rw [HD.out, ← HA.out.2]
          unfold addD
          rw [if_neg hin]
        have hnm : n < maxLen := by unfold maxLen; omega
        have hbs := HB.out.size
        clear hin HD
        have KEY : ∀ w1, w1.ownsMap Tryd.prog 9 unitElem w.heap.size (n + 1) (MetN (acc ++ [x])) → (wr.alloc (.cells #[] 70)).grownBy w1 (some w.heap.size) → ∃ A' c' w6, (Builtin.append_ #[23, 23] 23 #[.slice A n c, .slice (some ⟨w1.heap.size, 0, none⟩) 1 1]).run Tryd.prog (w1.alloc (.cells #[.string ⟨x.toArray⟩] 9)) = .ok (.slice A' (n + 1) c') w6 ∧
            Hid (RowN w.heap.size w6 A' c' (acc ++ [x])) ∧ Hid (w6.ownsMap Tryd.prog 9 unitElem w.heap.size (n + 1) (MetN (acc ++ [x]))) ∧ Hid (Below w.heap.size w w6) := by
          intro w1 hown1 hgrow1
          have hb2 := (HB.out.alloc HB.out.size (.cells #[] 70)).grown hgrow1 (by simp; omega) (fun j hj => by cases hj; exact Nat.le_refl _)
          have hR1 : RowN w.heap.size (wr.alloc (.cells #[] 70)) A c acc := HR.out.below ((Below.refl wr.heap.size wr).alloc (Nat.le_refl _) _)
          have hR2 : RowN w.heap.size w1 A c acc := own_grown hR1 hgrow1 (fun j hj e => map_row (hown.alloc _) hR1 (by rw [hj, e]))
          obtain ⟨A6, c6, w6, hr6, hrow6, hg6, hb6⟩ := run_app_n x rfl hR2 HA.out.1 (by omega) hb2.size
          exact ⟨A6, c6, w6, hr6, hrow6, map_grown (hown1.alloc _) hg6 (by have := map_row hown1 hR2; rw [HA.out.1] at this; exact this), hb6 w hb2⟩
        have HKEY := Lib.hid KEY
        have HSN : Hid ((MetN acc).put (.string x) (.agg []) = MetN (acc ++ [x])) := (MetN_snoc acc x).symm
        clear KEY HR HM HB HA
        go_wp2_with (first
          | (at_lookup; refine look_unit _ rfl _ _ 69 rfl 9 70 law_str Tryd.underlying69 (zero_unit _) w.heap.size n _ rfl hown _ _ rfl hkey false hr ?_)
          | (at_mapUpdate; refine wpList_mapUpdate_own _ rfl _ _ _ 69 rfl 9 70 law_str Tryd.underlying69 (unitElem (H := Unit)) w.heap.size n _ rfl (hown.alloc _) hnm _ _ _ rfl rfl hkey _ [] unitElem_mk ?_; intro w1 hown1 hgrow1; rw [HSN.out] at hown1; obtain ⟨A6, c6, w6, hr6, HR6, HM6, HB6⟩ := HKEY.out w1 hown1 hgrow1; clear hown1 hgrow1)
          | (at_builtin; refine wpList_append_run rfl _ _ _ _ rfl rfl rfl hr6 ?_))
        go_roundw
        case rel => exact ⟨k + 1, n + 1, acc ++ [x], A6, c6, by omega, by go_num, rfl, by omega, hacc, HR6, HM6, HB6⟩
        case measure => simp [intOf]; omega
    · have hf : Hid (NamesPost (distP l) w (.returned (.slice A n c)) wr) := by
        have e : acc = distP l := by rw [HA.out.2, List.take_of_length_le (by rw [HL.out]; omega)]
        have e2 : n = (distP l).length := by rw [← e]; exact HA.out.1.symm
        have := HR.out
        rw [e] at this
        rw [e2]
        exact ⟨A, c, rfl, this, HB.out⟩
      clear HA HR HM HB
      go_wp2
      go_ret
      exact hf.out

theorem raw_succ {l : List Ru} {k : Nat} (h : k < l.length) : rawB (l.take (k + 1)) = if isBit (l[k]).kd = true then rawB (l.take k) ++ [(l[k]).nm] else rawB (l.take k) := by
  unfold rawB
  rw [List.take_succ_eq_append_getElem h, List.filter_append, List.map_append]
  by_cases e : isBit (l[k]).kd = true <;> simp [e]
theorem raw_take (l : List Ru) (k : Nat) : (rawB (l.take k)).length ≤ k := Nat.le_trans (rawB_len _) (by rw [List.length_take]; omega)
def BtRel (l : List Ru) (len : Nat) (w : World) (v i : Value) (wr : World) : Prop :=
  ∃ (k n : Nat) (A : Option Addr) (c : Nat), k ≤ len ∧ i = .int .i64 (k : Int) ∧ v = .slice A n c ∧ n ≤ k ∧ Hid ((rawB (l.take k)).length = n) ∧ Hid (RowN w.heap.size wr A c (rawB (l.take k))) ∧ Hid (Below w.heap.size w wr)

set_option maxRecDepth 100000 in
set_option maxHeartbeats 4000000 in
theorem Bits_any (l : List Ru) (a : Option Addr) (cap : Nat) (w : World) (hS : Rungs w a l) (hl : l.length ≤ 100000) (hx : ∀ r ∈ l, r.nm.length ≤ maxLen) :
    Calls Tryd.prog 12 #[.slice a l.length cap] w (NamesPost (bitsP l) w) := by
  have HS := Lib.hid hS
  have HX : Hid (∀ x ∈ rawB l, x.length ≤ maxLen) := fun x h => by
    obtain ⟨r, hr, rfl⟩ := List.mem_map.1 h
    exact hx r (List.mem_filter.1 hr).1
  clear hS hx
  have HLr : Hid ((rawB l).length ≤ l.length) := rawB_len l
  generalize hL : l.length = len at *
  have HL := Lib.hid hL
  clear hL
  go_enter Tryd.func12, Tryd.ntmps12
  go_wp2
  go_loopw [3, 8] (BtRel l len w) (fun _ i _ => len - (intOf i).toNat)
  case atStart => exact ⟨0, 0, none, 0, by omega, rfl, rfl, by omega, rfl, RowN.nil_ _ _, Below.refl _ _⟩
  case round =>
    obtain ⟨k, n, A, c, hkl, rfl, rfl, hnk, HN, HR, HB⟩ := hrel
    by_cases hlt : k < len
    · have hki : k < l.length := by rw [HL.out]; exact hlt
      obtain ⟨g, off, rfl, hg, -, c0, c1, c2⟩ := Rungs.at3 (HS.out.below HB.out) hki
      have HD := Lib.hid (raw_succ hki)
      generalize l[k] = r at *
      have hklt : ((k : Nat) : Int) < (len : Int) := by omega
      have hbs := HB.out.size
      have HB2 : Hid (Below w.heap.size w (wr.alloc (.cells #[.int .i64 r.kd, .string ⟨r.nm.toArray⟩, .slice r.ca r.code.length r.cc] 43))) := HB.out.alloc HB.out.size _
      have HR1 : Hid (RowN w.heap.size (wr.alloc (.cells #[.int .i64 r.kd, .string ⟨r.nm.toArray⟩, .slice r.ca r.code.length r.cc] 43)) A c (rawB (l.take k))) := HR.out.below ((Below.refl wr.heap.size wr).alloc (Nat.le_refl _) _)
      by_cases hb : isBit r.kd = true
      · have h0 : 0 ≤ r.kd ∧ r.kd ≤ 2 := by simpa [isBit] using hb
        obtain ⟨h0, h2⟩ := h0
        have d0 : decide (0 ≤ r.kd) = true := decide_eq_true h0
        have d2 : decide (r.kd ≤ 2) = true := decide_eq_true h2
        rw [if_pos hb] at HD
        obtain ⟨A6, c6, w6, hr6, hrow6, hg6, hb6⟩ := run_app_n (p := wr.heap.size + 1) r.nm (by simp) HR1.out HN.out (by omega) HB2.out.size
        have HN6 : Hid ((rawB (l.take (k + 1))).length = n + 1) := by unfold Hid; rw [HD.out, List.length_append, HN.out]; rfl
        have HR6 : Hid (RowN w.heap.size w6 A6 c6 (rawB (l.take (k + 1)))) := by unfold Hid; rw [HD.out]; exact hrow6
        have HB6 : Hid (Below w.heap.size w w6) := hb6 w HB2.out
        clear hrow6 hg6 hb6 HR HR1 HB HB2 HN HD hb
        go_wp2_with (at_builtin; refine wpList_append_run rfl _ _ _ _ rfl rfl rfl hr6 ?_)
        go_roundw
        case rel => exact ⟨k + 1, n + 1, A6, c6, by omega, by go_num, rfl, by omega, HN6, HR6, HB6⟩
        case measure => simp [intOf]; omega
      · rw [if_neg hb] at HD
        have HN6 : Hid ((rawB (l.take (k + 1))).length = n) := by unfold Hid; rw [HD.out, HN.out]
        have HR6 : Hid (RowN w.heap.size (wr.alloc (.cells #[.int .i64 r.kd, .string ⟨r.nm.toArray⟩, .slice r.ca r.code.length r.cc] 43)) A c (rawB (l.take (k + 1)))) := by unfold Hid; rw [HD.out]; exact HR1.out
        have hcs : r.kd < 0 ∨ (0 ≤ r.kd ∧ ¬ r.kd ≤ 2) := by simp [isBit] at hb; omega
        clear HR HR1 HB HN HD hb
        rcases hcs with h0 | ⟨h0, h2⟩
        · have d0 : decide (0 ≤ r.kd) = false := by simpa using h0
          go_wp2
          go_roundw
          case rel => exact ⟨k + 1, n, A, c, by omega, by go_num, rfl, by omega, HN6, HR6, HB2⟩
          case measure => simp [intOf]; omega
        · have d0 : decide (0 ≤ r.kd) = true := decide_eq_true h0
          have d2 : decide (r.kd ≤ 2) = false := by simpa using h2
          go_wp2
          go_roundw
          case rel => exact ⟨k + 1, n, A, c, by omega, by go_num, rfl, by omega, HN6, HR6, HB2⟩
          case measure => simp [intOf]; omega
    · have hkk : k = len := by omega
      have e : rawB (l.take k) = rawB l := by rw [List.take_of_length_le (by rw [HL.out]; omega)]
      rw [e] at HN HR
      have hP : Calls Tryd.prog 25 #[.slice A (rawB l).length c] wr (NamesPost (distP (rawB l)) wr) := distinct_any (rawB l) A c wr HR.out.strs (by have := HLr.out; omega) HX.out
      rw [HN.out] at hP
      have HBs := HB
      clear HR HN HB hkk e HLr HX HS
      go_wp2_with fail
      refine hP.mono ?_
      rintro e w1 ⟨A1, c1, rfl, hr1, hb1⟩
      have hf : Hid (NamesPost (bitsP l) w (.returned (.slice A1 (distP (rawB l)).length c1)) w1) := ⟨A1, c1, rfl, hr1.less HBs.out.size, HBs.out.trans (hb1.mono HBs.out.size)⟩
      clear hr1 hb1 HBs hP
      generalize (distP (rawB l)).length = m at *
      go_wp2
      go_ret
      exact hf.out
end Go.Proofs.YtohljihndoodfaaDoor.Rg
