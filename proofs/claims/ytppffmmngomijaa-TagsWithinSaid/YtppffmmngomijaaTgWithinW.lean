/-
  The walk of TagsWithin: whatever is handed in, the law answers true.
-/
import Derived.Test.YtppffmmngomijaaTgN1
import Derived.Test.YtppffmmngomijaaTgL2
import Derived.Test.YtppffmmngomijaaTgR5
namespace Go.Proofs.Ytppffmmngomijaa.Tg
open Go.RowKit Lx

/-- What an operation waits for stands ahead of it. -/
def okAfter (md : Region.Mode) : List Oper → Nat → Bool
  | [], _ => true
  | o :: r, k => (o.after.toList.all fun e => !Region.binds md e || decide (e.on < k)) && okAfter md r (k + 1)
/-- What stands behind an operation waits for it, or does not mind it. -/
def okFree (md : Region.Mode) (ops : Array Oper) : List Oper → Nat → Bool
  | [], _ => true
  | o :: r, k => (r.all fun oj => (oj.after.toList.any fun e => Region.binds md e && e.on == k) || o.apart ops oj) && okFree md ops r (k + 1)

theorem okAfter_at {md : Region.Mode} : ∀ {l : List Oper} {k i : Nat} {o : Oper}, okAfter md l k = true → l[i]? = some o → (o.after.toList.all fun e => !Region.binds md e || decide (e.on < k + i)) = true
  | [], _, _, _, _, h => by simp at h
  | x :: r, k, 0, o, h, hi => by
    simp only [okAfter, Bool.and_eq_true] at h
    simp at hi
    subst hi
    exact h.1
  | x :: r, k, i + 1, o, h, hi => by
    simp only [okAfter, Bool.and_eq_true] at h
    have := okAfter_at h.2 (i := i) (by simpa using hi)
    rw [show k + (i + 1) = k + 1 + i by omega]
    exact this
theorem okFree_at {md : Region.Mode} {ops : Array Oper} : ∀ {l : List Oper} {k i j : Nat} {o oj : Oper}, okFree md ops l k = true → l[i]? = some o → i < j → l[j]? = some oj → ((oj.after.toList.any fun e => Region.binds md e && e.on == k + i) || o.apart ops oj) = true
  | [], _, _, _, _, _, _, h, _, _ => by simp at h
  | x :: r, k, 0, j, o, oj, h, hi, hj, hoj => by
    simp only [okFree, Bool.and_eq_true] at h
    simp at hi
    subst hi
    obtain ⟨j, rfl⟩ : ∃ j', j = j' + 1 := ⟨j - 1, by omega⟩
    simp only [List.getElem?_cons_succ] at hoj
    have := List.all_eq_true.1 h.1 oj (List.mem_of_getElem? hoj)
    simpa using this
  | x :: r, k, i + 1, j, o, oj, h, hi, hj, hoj => by
    simp only [okFree, Bool.and_eq_true] at h
    obtain ⟨j, rfl⟩ : ∃ j', j = j' + 1 := ⟨j - 1, by omega⟩
    simp only [List.getElem?_cons_succ] at hoj hi
    have := okFree_at h.2 hi (show i < j by omega) hoj
    rw [show k + (i + 1) = k + 1 + i by omega]
    exact this

/-- The first k are listed. -/
def Upto (listed : Array Bool) (n k : Nat) : Prop := listed.size = n ∧ ∀ i, i < n → listed[i]? = some (decide (i < k))
theorem Upto.getD {listed : Array Bool} {n k i : Nat} (h : Upto listed n k) (hi : i < n) (b : Bool) : listed.getD i b = decide (i < k) := by
  have := h.2 i hi
  rw [Array.getD_eq_getD_getElem?, this]; rfl
theorem Upto.next {listed : Array Bool} {n k : Nat} (h : Upto listed n k) : Upto (listed.setIfInBounds k true) n (k + 1) := by
  refine ⟨by simp [h.1], fun i hi => ?_⟩
  by_cases e : k = i
  · subst e
    rw [Array.getElem?_setIfInBounds_self_of_lt (by rw [h.1]; exact hi)]
    simp
  · rw [Array.getElem?_setIfInBounds_ne e, h.2 i hi]
    congr 1
    simp
    omega

theorem lexFrom_ok {md : Region.Mode} {l : List Oper} (hA : okAfter md l 0 = true) (hF : okFree md l.toArray l 0 = true) : ∀ (fuel k : Nat) (listed : Array Bool), k + fuel = l.length → Upto listed l.length k → Region.lexFrom md l.toArray fuel k listed = true
  | 0, k, listed, hk, hu => by
    have e : k = l.length := by omega
    subst e
    unfold Region.lexFrom Region.ready
    rw [List.isEmpty_iff, List.filter_eq_nil_iff]
    intro i hi
    have hi' : i < l.length := by simpa using hi
    rw [hu.getD hi' true]
    simp [hi']
  | fuel + 1, k, listed, hk, hu => by
    have hkl : k < l.length := by omega
    have hg : l[k]? = some l[k] := List.getElem?_eq_getElem hkl
    unfold Region.lexFrom
    rw [Bool.and_eq_true, Bool.and_eq_true]
    refine ⟨⟨?_, ?_⟩, lexFrom_ok hA hF fuel (k + 1) _ (by omega) hu.next⟩
    · rw [List.contains_iff_mem]
      unfold Region.ready
      rw [List.mem_filter]
      refine ⟨by simpa using hkl, ?_⟩
      rw [hu.getD hkl true]
      have h1 := okAfter_at hA hg
      rw [Nat.zero_add] at h1
      simp only [List.getElem?_toArray, hg, Option.map_some, Option.getD_some, decide_eq_false (Nat.lt_irrefl k), Bool.not_false, Bool.true_and]
      rw [← Array.all_toList, List.all_eq_true]
      intro e he
      have h2 := List.all_eq_true.1 h1 e he
      cases hb : Region.binds md e
      · rfl
      · rw [hb] at h2
        simp at h2
        simp [hu.getD (show e.on < l.length by omega) false, h2]
    · unfold Region.free
      simp only [List.getElem?_toArray, hg, List.size_toArray]
      rw [List.all_eq_true]
      intro j hj
      have hj' : j < l.length := by simpa using hj
      have hgj : l[j]? = some l[j] := List.getElem?_eq_getElem hj'
      rw [hu.getD hj' true]
      by_cases e : j = k
      · simp [e]
      · by_cases h : j < k
        · simp [h]
        · have h1 := okFree_at hF hg (show k < j by omega) hgj
          rw [Nat.zero_add] at h1
          simp only [hgj]
          rw [← Array.any_toList]
          rw [Bool.or_eq_true, Bool.or_eq_true]
          exact .inr h1
/-- The order of the text will do, by a check that a great region bears. -/
theorem lexB_ok {md : Region.Mode} {l : List Oper} (hs : Region.noSelect l.toArray = true) (hA : okAfter md l 0 = true) (hF : okFree md l.toArray l 0 = true) : Region.lexB md l.toArray = true := by
  unfold Region.lexB
  rw [Bool.and_eq_true]
  refine ⟨hs, lexFrom_ok hA hF _ 0 _ (by simp) ⟨by simp, fun i hi => ?_⟩⟩
  simp [hi]
theorem flat_region {P : Program} {Q : Exit → Act → World → Prop} {id : Nat} {a : Act} {w : World} {l m l' : List Oper} (h : l.append m = l') (H : (Code.region id l'.toArray true).wp P Q a w) : (Code.region id (l.append m).toArray true).wp P Q a w := by
  rw [h]
  exact H
def arrC (s : List Int) : Array Value := (s.map (Value.int .i64)).toArray
theorem arr_size (s : List Int) : (arrC s).size = s.length := by simp [arrC]
theorem arr_set (s : List Int) (i : Nat) (n : Int) : (arrC s).setIfInBounds i (.int .i64 n) = arrC (s.set i n) := by
  unfold arrC
  rw [List.map_set]
  simp
theorem arr_at {w : World} {p : Nat} {t : TypeId} {s : List Int} (h : Box w p t (arrC s)) {i : Nat} {n : Int} (hi : s[i]? = some n) : w.cell? ⟨p, i, none⟩ = some (.int .i64 n) := by
  rw [h.cell, arrC]
  simp [hi]
theorem box_arr {w : World} {p : Nat} {t : TypeId} {s : List Int} (h : Box w p t (arrC s)) (i : Nat) (n : Int) : Box (w.setCell ⟨p, i, none⟩ (.int .i64 n)) p t (arrC (s.set i n)) := by
  have := h.set_ i (.int .i64 n)
  rw [arr_set] at this
  exact this
theorem own_im1 {w : World} {g : Nat} {t : TypeId} {cs : Array Value} (hx : Box w g t cs) {base c d : Nat} {im : Im} {A B : Option Addr} (h3 : 3 ≠ t) (h4 : 4 ≠ t) (h : OwnIm base w im A c B d) (i : Nat) (y : Value) : OwnIm base (w.setCell ⟨g, i, none⟩ y) im A c B d :=
  ⟨own_set1 hx h3 h.1 i y, own_set1 hx h4 h.2 i y⟩
def Three_ (w' : World) (p : Nat) (A B : Option Addr) (n c m d g o : Nat) (tA : Option Addr) (cn tcap : Nat) : Prop := w'.cell? ⟨p, 0, none⟩ = some (.slice A n c) ∧ w'.cell? ⟨p, 1, none⟩ = some (.slice B m d) ∧ w'.cell? ⟨g, o, none⟩ = some (.slice tA cn tcap)
theorem own_dr {base : Nat} {w : World} {im : Im} {A B : Option Addr} {c d : Nat} (h : OwnIm base w im A c B d) (q : Nat) : OwnIm base (w.drewN q) im A c B d := h
def Kept3 (w : World) (p7 p9 p14 len n5 : Nat) (A : Option Addr) (c : Nat) (B : Option Addr) (d : Nat) (A5 : Option Addr) (c5 : Nat) (B5 : Option Addr) (d5 : Nat) (im y : Im) (s : List Int) (wz : World) : Prop := Box wz p7 28 #[.slice A len c, .slice B len d] ∧ Box wz p14 28 #[.slice A5 n5 c5, .slice B5 n5 d5] ∧ OwnIm w.heap.size wz y A5 c5 B5 d5 ∧ OwnIm w.heap.size wz im A c B d ∧ Box wz p9 45 (arrC s) ∧ Below w.heap.size w wz
theorem lastF_drop (l : List Tg) (cs : List Cl) (s : List Int) (q : Nat) (h : q < cs.length) : lastF l (cs.drop q) s = lastF l (cs.drop (q + 1)) (s.set ((findZ l cs[q].1).getD 12) cs[q].2) := by
  rw [List.drop_eq_getElem_cons h]; rfl
/-- All that the law keeps between its turns. -/
def Kept (w : World) (p7 p9 len : Nat) (im : Im) (s : List Int) (wr : World) : Prop := ∃ A c B d, Box wr p7 28 #[.slice A len c, .slice B len d] ∧ OwnIm w.heap.size wr im A c B d ∧ Box wr p9 45 (arrC s) ∧ Below w.heap.size w wr

set_option maxRecDepth 100000 in
set_option maxHeartbeats 8000000 in
theorem withinW (a : Option Addr) (l : List Tg) (cap : Nat) (ta : Option Addr) (ts : List Tn) (tc : Nat) (w : World) (hcap : l.length ≤ cap) (hT : Tags w a l) (_ : ∀ x ∈ l, x.fits) (_ : ts.length ≤ tc) (hTs : Turns w ta ts) (hTc : ∀ x ∈ ts, Cells w x.A x.cs) :
    Calls Try.prog 7 #[.slice a l.length cap, .slice ta ts.length tc] w fun e w' => e = .returned (.bool true) ∧ Below w.heap.size w w' := by
  have HT := Lib.hid hT
  have HTs := Lib.hid hTs
  have HTc := Lib.hid hTc
  clear hT hTs hTc
  have HSm : ∀ w1, Below w.heap.size w w1 → Calls Try.prog 10 #[.slice a l.length cap] w1 (Tells (SmallP l) w1) := fun w1 hb => small_any l a cap w1 (RowF.below HT.out hb)
  have HNw : ∀ w1, Below w.heap.size w w1 → Calls Try.prog 11 #[.slice a l.length cap] w1 (ImPost (newT l) w1) := fun w1 hb => New_all l a cap w1 hcap (RowF.below HT.out hb)
  have HCap := Lib.hid hcap
  by_cases hck : checkT l = 0
  · have hnew : newT l = (some (newI l), 0) := by unfold newT; rw [if_pos hck]
    rw [hnew] at HNw
    have hl12 := (check_ok hck).1
    have HCk := Lib.hid hck
    have hvl : (newI l).v.length = l.length := by simp [newI]
    have hbl : (newI l).bad.length = l.length := by simp [newI]
    have HNw' : ∀ w1, Below w.heap.size w w1 → Calls Try.prog 11 #[.slice a l.length cap] w1 (fun e w' => ∃ A c B d, e = .returned (.tuple #[.agg #[.slice A l.length c, .slice B l.length d], .int .i64 0]) ∧ OwnIm w1.heap.size w' (newI l) A c B d ∧ Below w1.heap.size w1 w') := fun w1 hb => (HNw w1 hb).mono fun e w' h => of_some h hvl hbl
    clear HNw hnew hck hvl hbl
    generalize hL : l.length = len at *
    have HL := Lib.hid hL
    clear hL
    generalize hTL : ts.length = tn at *
    have HTL := Lib.hid hTL
    clear hTL
    go_enter Try.func7, Try.ntmps7
    go_wp2_with fail
    refine (awake_any _).mono ?_
    rintro e w1 ⟨rfl, hB1⟩
    go_wp2_with fail
    refine (HSm w1 hB1).mono ?_
    rintro e w2 ⟨b, rfl, -, hb2⟩
    have hB2 := hB1.trans (hb2.mono hB1.size)
    clear hb2
    go_wp2_with fail
    refine (HNw' w2 hB2).mono ?_
    rintro e w3 ⟨A, c, B, d, rfl, hO3, hb3⟩
    have hbA := hb3.alloc hb3.size (.cells #[.slice A len c, .slice B len d] 28)
    have hB3 := hB2.trans (hbA.mono hB2.size)
    have hx3 := Box.new w3 28 #[.slice A len c, .slice B len d]
    have hO3' : OwnIm w.heap.size _ (newI l) A c B d := ⟨own_less (hO3.below ((Below.refl _ _).alloc (Nat.le_refl _) (.cells #[.slice A len c, .slice B len d] 28))).1 hB2.size, own_less (hO3.below ((Below.refl _ _).alloc (Nat.le_refl _) (.cells #[.slice A len c, .slice B len d] 28))).2 hB2.size⟩
    have hpw := Nat.le_trans hB2.size hb3.size
    clear hO3 hb3 hbA
    cases b with
    | false =>
      go_wp2_with fail
      go_ret
      exact ⟨rfl, hB3⟩
    | true =>
    by_cases h100 : 100 < tn
    · go_wp2_with fail
      go_ret
      exact ⟨rfl, hB3⟩
    have h100' : tn ≤ 100 := by omega
    clear h100
    have hK0 : Kept w w3.heap.size (w3.heap.size + 1) len (newI l) (List.replicate 12 0) ((w3.alloc (.cells #[.slice A len c, .slice B len d] 28)).alloc (.cells (arrC (List.replicate 12 0)) 45)) :=
      ⟨A, c, B, d, hx3.alloc _, hO3'.below ((Below.refl _ _).alloc (Nat.le_refl _) _), box_at (by simp), hB3.alloc hB3.size _⟩
    go_wp2_with fail
    generalize hp7 : w3.heap.size = p7 at *
    clear hx3 hO3'
    go_loopw [10] (fun i wr => ∃ (k : Nat) (s : List Int), k ≤ len ∧ i = .int .i64 k ∧ Hid (s.length = 12 ∧ ∀ j, j < k → s[j]? = (newI l).v[j]?) ∧ Hid (Kept w p7 (p7 + 1) len (newI l) s wr)) (fun i _ => len - (intOf i).toNat)
    case atStart => exact ⟨0, List.replicate 12 0, by omega, rfl, ⟨rfl, fun j hj => absurd hj (by omega)⟩, hK0⟩
    case round =>
      obtain ⟨k, s, hkl, rfl, HS, HK⟩ := hrel
      obtain ⟨A, c, B, d, hb7, ho, hb9, hbr⟩ := HK.out
      clear HK hK0
      by_cases hlt : k < len
      · have hkv : k < (newI l).v.length := by simp [newI, HL.out]; exact hlt
        obtain ⟨gv, ov, rfl, hgv, cv⟩ := Nums.at1 ho.nums hkv
        have HVk : Hid ((newI l).v[k]? = some (newI l).v[k]) := List.getElem?_eq_getElem hkv
        have hks : k < s.length := by rw [HS.out.1]; omega
        have z9 := arr_at hb9 (List.getElem?_eq_getElem hks)
        have zf := hb9.frozen k
        have q0 := hb7.cell 0
        have q1 := hb7.cell 1
        simp at q0 q1
        generalize (newI l).v[k] = x at *
        generalize s[k] = y at *
        have hk12 : ((k : Nat) : Int) < 12 := by omega
        have hKn : Hid (Kept w p7 (p7 + 1) len (newI l) (s.set k x) (wr.setCell ⟨p7 + 1, k, none⟩ (.int .i64 x))) := ⟨some ⟨gv, ov, none⟩, c, B, d, hb7.far (p := ⟨p7 + 1, k, none⟩) (by show p7 ≠ p7 + 1; omega) _, own_im1 hb9 (by decide) (by decide) ho k _, box_arr hb9 k x, hbr.setCell (p := ⟨p7 + 1, k, none⟩) (by show w.heap.size ≤ p7 + 1; omega) _⟩
        have hSn : Hid ((s.set k x).length = 12 ∧ ∀ j, j < k + 1 → (s.set k x)[j]? = (newI l).v[j]?) := by
          refine ⟨by rw [List.length_set]; exact HS.out.1, fun j hj => ?_⟩
          by_cases hjk : k = j
          · subst hjk; rw [List.getElem?_set_self hks]; exact HVk.out.symm
          · rw [List.getElem?_set_ne hjk]; exact HS.out.2 j (by omega)
        clear hb7 ho hb9 hbr
        go_wp2_with fail
        go_roundw
        case rel =>
          first
            | exact ⟨k + 1, s.set k x, hlt, by go_num, hSn, hKn⟩
            | exact ⟨k + 1, hlt, by go_num, s.set k x, hSn, hKn⟩
        case measure => simp [intOf]; omega
      · have hk : k = len := by omega
        have HH : Hid (Held l (newI l) s) := held_new HCk.out s HS.out.1 (fun i hi => HS.out.2 i (by have := HL.out; omega))
        have HK : Hid (Kept w p7 (p7 + 1) len (newI l) s wr) := ⟨A, c, B, d, hb7, ho, hb9, hbr⟩
        clear hb7 ho hb9 hbr HS hk
        go_wp2_with fail
        go_loopw [11] (fun i wr => ∃ (k : Nat) (im : Im) (s : List Int), k ≤ tn ∧ i = .int .i64 k ∧ Hid (Held l im s) ∧ Hid (Kept w p7 (p7 + 1) len im s wr)) (fun i _ => tn - (intOf i).toNat)
        case atStart => exact ⟨0, newI l, s, by omega, rfl, HH, HK⟩
        case round =>
          clear HH HK
          rename_i s0 wr0
          obtain ⟨k, im, s, hkt, rfl, HH, HK⟩ := hrel
          obtain ⟨A, c, B, d, hb7, ho, hb9, hbr⟩ := HK.out
          clear HK
          by_cases hltt : k < tn
          · as_aux_lemma =>
              have hki : k < ts.length := by rw [HTL.out]; exact hltt
              obtain ⟨g, off, rfl, hg0, c0, c1⟩ := Turns.at2 HTs.out hki
              have HC0 := Lib.hid c0
              have HC1 := Lib.hid c1
              rw [← hbr.cell (p := ⟨g, _, none⟩) hg0] at c0 c1
              have hgr : g < wr.heap.size := Nat.lt_of_lt_of_le hg0 hbr.size
              have HCt := Lib.hid (HTc.out _ (List.getElem_mem hki))
              generalize ts[k] = t at *
              obtain ⟨out, tA, cs, tcap⟩ := t
              simp only at *
              have hvl : im.v.length = len := by rw [← HL.out]; exact HH.out.1
              have hbl : im.bad.length = len := by rw [← HL.out]; exact HH.out.2.1
              have hFa : ∀ w4, Below w.heap.size w w4 → Calls Try.prog 18 #[.agg #[.slice A len c, .slice B len d], .slice tA cs.length tcap] w4 (Tells (FairP im cs) w4) := fun w4 hb => by
                have h := fair_any im cs A B tA c d tcap w4 (RowF.below HCt.out hb)
                rw [hvl, hbl] at h
                exact h
              have hLt : cs.length ≤ 50 → ∀ w4, Below w.heap.size w w4 → Nums w4 A im.v → Flags w4 B im.bad → Calls Try.prog 20 #[.slice a len cap, .agg #[.slice A len c, .slice B len d], .slice tA cs.length tcap] w4 (ImPost (tellT l im cs false) w4) := fun h50 w4 hb hv hf => by
                have h := Latch_any l im cs a A B tA cap c d tcap w4 (by rw [HL.out]; omega) (by rw [hvl]; omega) (by rw [hbl]; omega) (by omega) (by rw [HL.out]; exact HCap.out) (RowF.below HT.out hb) hv hf (RowF.below HCt.out hb)
                rw [hvl, hbl, HL.out] at h
                exact h
              have hDr : cs.length ≤ 50 → ∀ w4, Below w.heap.size w w4 → Nums w4 A im.v → Flags w4 B im.bad → Calls Try.prog 22 #[.slice a len cap, .agg #[.slice A len c, .slice B len d], .slice tA cs.length tcap] w4 (ImPost (tellT l im cs true) w4) := fun h50 w4 hb hv hf => by
                have h := Drive_any l im cs a A B tA cap c d tcap w4 (by rw [HL.out]; omega) (by rw [hvl]; omega) (by rw [hbl]; omega) (by omega) (by rw [HL.out]; exact HCap.out) (RowF.below HT.out hb) hv hf (RowF.below HCt.out hb)
                rw [hvl, hbl, HL.out] at h
                exact h
              clear hvl hbl
              generalize hcl : cs.length = cn at *
              have HCL := Lib.hid hcl
              clear hcl
              have key : ∀ w4, Below wr.heap.size wr w4 → w4.cell? ⟨p7, 0, none⟩ = some (.slice A len c) ∧ w4.cell? ⟨p7, 1, none⟩ = some (.slice B len d) ∧ w4.cell? ⟨g, off + k * 2, none⟩ = some (.bool out) ∧ w4.cell? ⟨g, off + k * 2 + 1, none⟩ = some (.slice tA cn tcap) := fun w4 hb => ⟨(hb7.below hb hb7.lt).cell 0, (hb7.below hb hb7.lt).cell 1, (hb.cell (p := ⟨g, _, none⟩) hgr).trans c0, (hb.cell (p := ⟨g, _, none⟩) hgr).trans c1⟩
              have hd := below_drew (Below.refl wr.heap.size wr)
              have cd := key _ hd
              have hktn : ((k : Nat) : Int) < (tn : Int) := by omega
              clear c0 c1
              go_wp2_with fail
              refine region_start (S := fun w' => w'.cell? ⟨p7, 0, none⟩ = some (.slice A len c) ∧ w'.cell? ⟨p7, 1, none⟩ = some (.slice B len d) ∧ w'.cell? ⟨g, off + k * 2, none⟩ = some (.bool out) ∧ w'.cell? ⟨g, off + k * 2 + 1, none⟩ = some (.slice tA cn tcap)) (n := 8) (lit := #[false, false, false, false, false, false, false, false]) rfl rfl (by kernel_rfl) cd fun hS => ?_
              refine tk (i := 0) (v := ?vb0) rfl (by kernel_rfl) (by kernel_rfl) (by kernel_rfl) (fun _ _ _ h => h) (by kernel_rfl) ?hb0 hS ?_
              case hb0 => intro w hSw; (try dsimp only at hSw); go_simp; try with_reducible rfl
              try simp only [Act.put, List.setIfInBounds_toArray, List.set_cons_zero, List.set_cons_succ]
              refine tk (i := 1) (v := ?vb1) rfl (by kernel_rfl) (by kernel_rfl) (by kernel_rfl) (fun _ _ _ h => h) (by kernel_rfl) ?hb1 hS ?_
              case hb1 => intro w hSw; (try dsimp only at hSw); go_simp; try with_reducible rfl
              try simp only [Act.put, List.setIfInBounds_toArray, List.set_cons_zero, List.set_cons_succ]
              refine tk (i := 2) (v := ?vb2) rfl (by kernel_rfl) (by kernel_rfl) (by kernel_rfl) (fun _ _ _ h => h) (by kernel_rfl) ?hb2 hS ?_
              case hb2 => intro w hSw; (try dsimp only at hSw); go_simp; try with_reducible rfl
              try simp only [Act.put, List.setIfInBounds_toArray, List.set_cons_zero, List.set_cons_succ]
              refine tk (i := 3) (v := ?vb3) rfl (by kernel_rfl) (by kernel_rfl) (by kernel_rfl) (fun _ _ _ h => h) (by kernel_rfl) ?hb3 hS ?_
              case hb3 => intro w hSw; (try dsimp only at hSw); go_simp; try with_reducible rfl
              try simp only [Act.put, List.setIfInBounds_toArray, List.set_cons_zero, List.set_cons_succ]
              refine tk (i := 4) (v := ?vb4) rfl (by kernel_rfl) (by kernel_rfl) (by kernel_rfl) (fun _ _ _ h => h) (by kernel_rfl) ?hb4 hS ?_
              case hb4 => intro w hSw; (try dsimp only at hSw); go_simp; try with_reducible rfl
              try simp only [Act.put, List.setIfInBounds_toArray, List.set_cons_zero, List.set_cons_succ]
              refine tk (i := 5) (v := ?vb5) rfl (by kernel_rfl) (by kernel_rfl) (by kernel_rfl) (fun _ _ _ h => h) (by kernel_rfl) ?hb5 hS ?_
              case hb5 => intro w hSw; (try dsimp only at hSw); go_simp; try with_reducible rfl
              try simp only [Act.put, List.setIfInBounds_toArray, List.set_cons_zero, List.set_cons_succ]
              refine wpAnyH_ready (rs := [6]) (by kernel_rfl) (by simp) ?_
              refine AllReadyH.cons rfl (fun K hK => ?_) AllReadyH.nil
              go_simp
              go_at_call 18; refine (hFa _ (hbr.trans (hd.mono hbr.size))).mono ?_; rintro e w4 ⟨b', rfl, hFr, hb4⟩
              have h4 := hd.trans (hb4.mono hd.size)
              refine hK.out _ _ (key _ h4) (fun hS4 => ?_)
              clear hK K
              refine tk (i := 7) (v := ?vb7) rfl (by kernel_rfl) (by kernel_rfl) (by kernel_rfl) (fun _ _ _ h => h) (by kernel_rfl) ?hb7 hS4 ?_
              case hb7 => intro w hSw; (try dsimp only at hSw); go_simp; try with_reducible rfl
              try simp only [Act.put, List.setIfInBounds_toArray, List.set_cons_zero, List.set_cons_succ]
              refine wpAnyH_done (by kernel_rfl) ?_ _
              have hbr4 := hbr.trans (h4.mono hbr.size)
              have hb74 := hb7.below h4 hb7.lt
              have hb94 := hb9.below h4 hb9.lt
              have ho4 := ho.below h4
              obtain ⟨p0, p1, t0, t1⟩ := key _ h4
              cases b' with
              | false =>
                clear key hd cd
                go_wp2_with fail
                go_ret
                exact ⟨rfl, hbr4⟩
              | true =>
              by_cases h50 : 50 < cn
              · clear key hd cd
                go_wp2_with fail
                go_ret
                exact ⟨rfl, hbr4⟩
              have h50' : cn ≤ 50 := by omega
              clear h50 hFr hFa key hd cd
              have hgr4 : g < w4.heap.size := Nat.lt_of_lt_of_le hgr h4.size
              have hp74 : p7 < w4.heap.size := hb74.lt
              have hp94 : p7 + 1 < w4.heap.size := hb94.lt
              have hww4 : w.heap.size ≤ w4.heap.size := hbr4.size
              have hrt := held_right HCk.out HH.out
              have hB4' : Below w.heap.size w (w4.alloc (.cells #[.slice A len c, .slice B len d] 28)) := hbr4.alloc hbr4.size _
              have hb75 := hb74.alloc (.cells #[.slice A len c, .slice B len d] 28)
              have hb95 := hb94.alloc (.cells #[.slice A len c, .slice B len d] 28)
              have hb145 := Box.new w4 28 #[.slice A len c, .slice B len d]
              have ho5 := ho4.below ((Below.refl _ _).alloc (Nat.le_refl _) (.cells #[.slice A len c, .slice B len d] 28))
              have t15 : (w4.alloc (.cells #[.slice A len c, .slice B len d] 28)).cell? ⟨g, off + k * 2 + 1, none⟩ = some (.slice tA cn tcap) := by rw [World.cell?_alloc_lt _ _ _ hgr4]; exact t1
              have t05 : (w4.alloc (.cells #[.slice A len c, .slice B len d] 28)).cell? ⟨g, off + k * 2, none⟩ = some (.bool out) := by rw [World.cell?_alloc_lt _ _ _ hgr4]; exact t0
              have hg5 : g < (w4.alloc (.cells #[.slice A len c, .slice B len d] 28)).heap.size := by simp; omega
              have hKB : Hid (Held l im s) := HH
              clear hb7 hb9 ho hbr h4 hb74 hb94 ho4 hbr4 hb4
              cases out with
              | true =>
                have hX0 : tellF l true cs im = none → tellT l im cs true = (none, 21) := fun hf => tell_none hrt hf
                have hX1 : ∀ y, tellF l true cs im = some y → tellT l im cs true = (some y, 0) := fun y hf => tell_some hrt hf
                cases hf : tellF l true cs im with
                | none =>
                  rw [hX0 hf] at hDr
                  have HFt := Lib.hid hf
                  clear hX0 hX1 hf
                  have cd5 : Three_ (w4.alloc (.cells #[.slice A len c, .slice B len d] 28)).drew p7 A B len c len d g (off + k * 2 + 1) tA cn tcap := ⟨hb75.cell 0, hb75.cell 1, t15⟩
                  unfold Three_ at cd5
                  go_wp2_with fail
                  refine region_start (S := fun w' => w'.cell? ⟨p7, 0, none⟩ = some (.slice A len c) ∧ w'.cell? ⟨p7, 1, none⟩ = some (.slice B len d) ∧ w'.cell? ⟨g, off + k * 2 + 1, none⟩ = some (.slice tA cn tcap)) (n := 13) (lit := #[false, false, false, false, false, false, false, false, false, false, false, false, false]) rfl rfl (by kernel_rfl) cd5 fun hS => ?_
                  refine tk (i := 0) (v := ?vd0) rfl (by kernel_rfl) (by kernel_rfl) (by kernel_rfl) (fun _ _ _ h => h) (by kernel_rfl) ?hd0 hS ?_
                  case hd0 => intro w hSw; (try dsimp only at hSw); go_simp; try with_reducible rfl
                  try simp only [Act.put, List.setIfInBounds_toArray, List.set_cons_zero, List.set_cons_succ]
                  refine tk (i := 1) (v := ?vd1) rfl (by kernel_rfl) (by kernel_rfl) (by kernel_rfl) (fun _ _ _ h => h) (by kernel_rfl) ?hd1 hS ?_
                  case hd1 => intro w hSw; (try dsimp only at hSw); go_simp; try with_reducible rfl
                  try simp only [Act.put, List.setIfInBounds_toArray, List.set_cons_zero, List.set_cons_succ]
                  refine tk (i := 2) (v := ?vd2) rfl (by kernel_rfl) (by kernel_rfl) (by kernel_rfl) (fun _ _ _ h => h) (by kernel_rfl) ?hd2 hS ?_
                  case hd2 => intro w hSw; (try dsimp only at hSw); go_simp; try with_reducible rfl
                  try simp only [Act.put, List.setIfInBounds_toArray, List.set_cons_zero, List.set_cons_succ]
                  refine tk (i := 3) (v := ?vd3) rfl (by kernel_rfl) (by kernel_rfl) (by kernel_rfl) (fun _ _ _ h => h) (by kernel_rfl) ?hd3 hS ?_
                  case hd3 => intro w hSw; (try dsimp only at hSw); go_simp; try with_reducible rfl
                  try simp only [Act.put, List.setIfInBounds_toArray, List.set_cons_zero, List.set_cons_succ]
                  refine tk (i := 4) (v := ?vd4) rfl (by kernel_rfl) (by kernel_rfl) (by kernel_rfl) (fun _ _ _ h => h) (by kernel_rfl) ?hd4 hS ?_
                  case hd4 => intro w hSw; (try dsimp only at hSw); go_simp; try with_reducible rfl
                  try simp only [Act.put, List.setIfInBounds_toArray, List.set_cons_zero, List.set_cons_succ]
                  refine tk (i := 5) (v := ?vd5) rfl (by kernel_rfl) (by kernel_rfl) (by kernel_rfl) (fun _ _ _ h => h) (by kernel_rfl) ?hd5 hS ?_
                  case hd5 => intro w hSw; (try dsimp only at hSw); go_simp; try with_reducible rfl
                  try simp only [Act.put, List.setIfInBounds_toArray, List.set_cons_zero, List.set_cons_succ]
                  refine tk (i := 6) (v := ?vd6) rfl (by kernel_rfl) (by kernel_rfl) (by kernel_rfl) (fun _ _ _ h => h) (by kernel_rfl) ?hd6 hS ?_
                  case hd6 => intro w hSw; (try dsimp only at hSw); go_simp; try with_reducible rfl
                  try simp only [Act.put, List.setIfInBounds_toArray, List.set_cons_zero, List.set_cons_succ]
                  refine wpAnyH_ready (rs := [7]) (by kernel_rfl) (by simp) ?_
                  refine AllReadyH.cons rfl (fun K hK => ?_) AllReadyH.nil
                  go_simp
                  go_at_call 22; refine (hDr h50' _ (below_drew hB4') ho5.nums ho5.flags).mono ?_; rintro e w5 hP5
                  obtain ⟨A5, c5, B5, d5, rfl, hO5, hb5⟩ := of_none hP5
                  have hb5' : Below (w4.alloc (.cells #[.slice A len c, .slice B len d] 28)).heap.size (w4.alloc (.cells #[.slice A len c, .slice B len d] 28)) w5 := (below_drew (Below.refl _ _)).trans hb5
                  have hB5 := hB4'.trans (hb5'.mono hB4'.size)
                  have hb76 := hb75.below hb5' hb75.lt
                  have hb96 := hb95.below hb5' hb95.lt
                  have hb146 := hb145.below hb5' hb145.lt
                  have ho6 := ho5.below hb5'
                  have t16 : w5.cell? ⟨g, off + k * 2 + 1, none⟩ = some (.slice tA cn tcap) := (hb5'.cell (p := ⟨g, _, none⟩) hg5).trans t15
                  have t06 := (hb5'.cell (p := ⟨g, _, none⟩) hg5).trans t05
                  have hO5' : OwnIm w.heap.size w5 ⟨[], []⟩ A5 c5 B5 d5 := ⟨own_less hO5.1 (by have := hB4'.size; exact this), own_less hO5.2 (by have := hB4'.size; exact this)⟩
                  refine hK.out _ _ ⟨hb76.cell 0, hb76.cell 1, t16⟩ (fun hS5 => ?_)
                  clear hK K
                  refine tk (i := 8) (v := ?vd8) rfl (by kernel_rfl) (by kernel_rfl) (by kernel_rfl) (fun _ _ _ h => h) (by kernel_rfl) ?hd8 hS5 ?_
                  case hd8 => intro w hSw; (try dsimp only at hSw); go_simp; try with_reducible rfl
                  try simp only [Act.put, List.setIfInBounds_toArray, List.set_cons_zero, List.set_cons_succ]
                  refine tk (i := 9) (v := ?vd9) rfl (by kernel_rfl) (by kernel_rfl) (by kernel_rfl) (fun _ _ _ h => h) (by kernel_rfl) ?hd9 hS5 ?_
                  case hd9 => intro w hSw; (try dsimp only at hSw); go_simp; try with_reducible rfl
                  try simp only [Act.put, List.setIfInBounds_toArray, List.set_cons_zero, List.set_cons_succ]
                  refine tk (i := 10) (v := ?vd10) rfl (by kernel_rfl) (by kernel_rfl) (by kernel_rfl) (fun _ _ _ h => h) (by kernel_rfl) ?hd10 hS5 ?_
                  case hd10 => intro w hSw; (try dsimp only at hSw); go_simp; try with_reducible rfl
                  try simp only [Act.put, List.setIfInBounds_toArray, List.set_cons_zero, List.set_cons_succ]
                  have hm0 := hb146.cell 0
                  have hm1 := hb146.cell 1
                  have hmf0 := hb146.frozen 0
                  have hmf1 := hb146.frozen 1
                  simp at hm0 hm1
                  have hpn : p7 ≠ w4.heap.size := by omega
                  have hb147 := two_set hb146 (.slice A5 0 c5) (.slice B5 0 d5)
                  have hb77 := (hb76.far (p := ⟨w4.heap.size, 0, none⟩) hpn (.slice A5 0 c5)).far (p := ⟨w4.heap.size, 1, none⟩) hpn (.slice B5 0 d5)
                  have hb97 := (hb96.far (p := ⟨w4.heap.size, 0, none⟩) (by show p7 + 1 ≠ w4.heap.size; have := hp94; omega) (.slice A5 0 c5)).far (p := ⟨w4.heap.size, 1, none⟩) (by show p7 + 1 ≠ w4.heap.size; have := hp94; omega) (.slice B5 0 d5)
                  have hO7 := own_im2 hb146 (by decide) (by decide) hO5' (.slice A5 0 c5) (.slice B5 0 d5)
                  have hOi7 := own_im2 hb146 (by decide) (by decide) ho6 (.slice A5 0 c5) (.slice B5 0 d5)
                  have hB7 := (hB5.setCell (p := ⟨w4.heap.size, 0, none⟩) (by show w.heap.size ≤ w4.heap.size; omega) (.slice A5 0 c5)).setCell (p := ⟨w4.heap.size, 1, none⟩) (by show w.heap.size ≤ w4.heap.size; omega) (.slice B5 0 d5)
                  have hgne : g ≠ w4.heap.size := by omega
                  have t17 : ((w5.setCell ⟨w4.heap.size, 0, none⟩ (.slice A5 0 c5)).setCell ⟨w4.heap.size, 1, none⟩ (.slice B5 0 d5)).cell? ⟨g, off + k * 2 + 1, none⟩ = some (.slice tA cn tcap) := by
                    rw [World.cell?_of_block (Below.heap_setCell _ _ _ _ hgne), World.cell?_of_block (Below.heap_setCell _ _ _ _ hgne)]
                    exact t16
                  have t07 : ((w5.setCell ⟨w4.heap.size, 0, none⟩ (.slice A5 0 c5)).setCell ⟨w4.heap.size, 1, none⟩ (.slice B5 0 d5)).cell? ⟨g, off + k * 2, none⟩ = some (.bool true) := by
                    rw [World.cell?_of_block (Below.heap_setCell _ _ _ _ hgne), World.cell?_of_block (Below.heap_setCell _ _ _ _ hgne)]
                    exact t06
                  refine wpAnyH_ready (rs := [11]) (by kernel_rfl) (by simp) ?_
                  refine AllReadyH.cons rfl (fun K hK => ?_) AllReadyH.nil
                  go_simp
                  refine hK.out _ _ ⟨hb77.cell 0, hb77.cell 1, t17⟩ (fun hS7 => ?_)
                  clear hK K
                  refine tk (i := 12) (v := ?vd12) rfl (by kernel_rfl) (by kernel_rfl) (by kernel_rfl) (fun _ _ _ h => h) (by kernel_rfl) ?hd12 hS7 ?_
                  case hd12 => intro w hSw; (try dsimp only at hSw); go_simp; try with_reducible rfl
                  try simp only [Act.put, List.setIfInBounds_toArray, List.set_cons_zero, List.set_cons_succ]
                  refine wpAnyH_done (by kernel_rfl) ?_ _
                  have hg7 : g < ((w5.setCell ⟨w4.heap.size, 0, none⟩ (.slice A5 0 c5)).setCell ⟨w4.heap.size, 1, none⟩ (.slice B5 0 d5)).heap.size := by simp; have := hb5'.size; omega
                  clear hb76 hb96 hb146 ho6 hO5' hO5 hb5 hb5' hB5 t16 t06 hm0 hm1 hmf0 hmf1 hb75 hb95 hb145 ho5 t15 t05 hB4' hP5 hLt hDr
                  generalize hW7 : ((w5.setCell ⟨w4.heap.size, 0, none⟩ (.slice A5 0 c5)).setCell ⟨w4.heap.size, 1, none⟩ (.slice B5 0 d5)) = w7 at *
                  clear hW7
                  generalize hp14 : w4.heap.size = p14 at *
                  have hK3 : Hid (Kept3 w p7 (p7 + 1) p14 len 0 A c B d A5 c5 B5 d5 im ⟨[], []⟩ s w7) := ⟨hb77, hb147, hO7, hOi7, hb97, hB7⟩
                  clear hb77 hb147 hO7 hOi7 hb97 hB7 t07 t17 hg7 hgne
                  go_wp2_with fail
                  go_loopw [15] (fun v15 wz => ∃ q : Nat, q ≤ cn ∧ v15 = .int .i64 q ∧ Hid (Kept3 w p7 (p7 + 1) p14 len 0 A c B d A5 c5 B5 d5 im ⟨[], []⟩ s wz)) (fun v15 _ => cn - (intOf v15).toNat)
                  case atStart => exact ⟨0, by omega, rfl, hK3⟩
                  case round =>
                    obtain ⟨q, hqc, rfl, HK3⟩ := hrel
                    obtain ⟨k7, k14, ky, ki, k9, kb⟩ := HK3.out
                    clear HK3 hK3
                    by_cases hqq : q < cn
                    · have hqi : q < cs.length := by rw [HCL.out]; exact hqq
                      obtain ⟨gc, oc, rfl, hgc, d0, d1⟩ := Cells.at2 HCt.out hqi
                      generalize cs[q] = ce at *
                      obtain ⟨nm, z⟩ := ce
                      simp only at *
                      have hFi := Find_any l nm a cap wr (by rw [HL.out]; omega) (RowF.below HT.out kb)
                      rw [HL.out] at hFi
                      generalize findI l nm = fi at *
                      have a0 := (kb.cell (p := ⟨g, _, none⟩) hg0).trans HC0.out
                      have a1 := (kb.cell (p := ⟨g, _, none⟩) hg0).trans HC1.out
                      have a2 := (kb.cell (p := ⟨gc, _, none⟩) hgc).trans d0
                      have hqn : ((q : Nat) : Int) < (cn : Int) := by omega
                      go_wp2_with fail
                      refine hFi.mono ?_
                      rintro e w8 ⟨rfl, hb8⟩
                      have kb8 := kb.trans (hb8.mono kb.size)
                      have hKn : ∀ nq, Hid (Kept3 w p7 (p7 + 1) p14 len 0 A c B d A5 c5 B5 d5 im ⟨[], []⟩ s (w8.drewN nq)) := fun nq => ⟨(k7.below hb8 k7.lt).drewN nq, (k14.below hb8 k14.lt).drewN nq, own_dr (ky.below hb8) nq, own_dr (ki.below hb8) nq, (k9.below hb8 k9.lt).drewN nq, below_drewN kb8 nq⟩
                      clear k7 k14 ky ki k9 hb8 a0 a1 a2 d0 d1 kb hFi kb8
                      go_wp2_with fail
                      go_quiet (fail)
                      go_wp2_with fail
                      go_roundw
                      case rel => exact ⟨q + 1, hqq, by go_num, hKn _⟩
                      case measure => simp [intOf]; omega
                    · have a1 := (kb.cell (p := ⟨g, _, none⟩) hg0).trans HC1.out
                      have hKn : Hid (Kept w p7 (p7 + 1) len im s wr) := ⟨A, c, B, d, k7, ki, k9, kb⟩
                      clear k7 k14 ky ki k9 kb
                      go_wp2_with fail
                      go_roundw
                      case rel =>
                        first
                          | exact ⟨k + 1, im, s, hltt, by go_num, HH, hKn⟩
                          | exact ⟨k + 1, hltt, by go_num, im, s, HH, hKn⟩
                      case measure => simp [intOf]; omega
                | some y =>
                  rw [hX1 y hf] at hDr
                  have hyl := tellF_len l true cs im y hf
                  have hyv : y.v.length = len := by rw [hyl.1, HH.out.1, HL.out]
                  have hyb : y.bad.length = len := by rw [hyl.2, HH.out.2.1, HL.out]
                  have HFt := Lib.hid hf
                  clear hX0 hX1 hf
                  have cd5 : Three_ (w4.alloc (.cells #[.slice A len c, .slice B len d] 28)).drew p7 A B len c len d g (off + k * 2 + 1) tA cn tcap := ⟨hb75.cell 0, hb75.cell 1, t15⟩
                  unfold Three_ at cd5
                  go_wp2_with fail
                  refine region_start (S := fun w' => w'.cell? ⟨p7, 0, none⟩ = some (.slice A len c) ∧ w'.cell? ⟨p7, 1, none⟩ = some (.slice B len d) ∧ w'.cell? ⟨g, off + k * 2 + 1, none⟩ = some (.slice tA cn tcap)) (n := 13) (lit := #[false, false, false, false, false, false, false, false, false, false, false, false, false]) rfl rfl (by kernel_rfl) cd5 fun hS => ?_
                  refine tk (i := 0) (v := ?vf0) rfl (by kernel_rfl) (by kernel_rfl) (by kernel_rfl) (fun _ _ _ h => h) (by kernel_rfl) ?hf0 hS ?_
                  case hf0 => intro w hSw; (try dsimp only at hSw); go_simp; try with_reducible rfl
                  try simp only [Act.put, List.setIfInBounds_toArray, List.set_cons_zero, List.set_cons_succ]
                  refine tk (i := 1) (v := ?vf1) rfl (by kernel_rfl) (by kernel_rfl) (by kernel_rfl) (fun _ _ _ h => h) (by kernel_rfl) ?hf1 hS ?_
                  case hf1 => intro w hSw; (try dsimp only at hSw); go_simp; try with_reducible rfl
                  try simp only [Act.put, List.setIfInBounds_toArray, List.set_cons_zero, List.set_cons_succ]
                  refine tk (i := 2) (v := ?vf2) rfl (by kernel_rfl) (by kernel_rfl) (by kernel_rfl) (fun _ _ _ h => h) (by kernel_rfl) ?hf2 hS ?_
                  case hf2 => intro w hSw; (try dsimp only at hSw); go_simp; try with_reducible rfl
                  try simp only [Act.put, List.setIfInBounds_toArray, List.set_cons_zero, List.set_cons_succ]
                  refine tk (i := 3) (v := ?vf3) rfl (by kernel_rfl) (by kernel_rfl) (by kernel_rfl) (fun _ _ _ h => h) (by kernel_rfl) ?hf3 hS ?_
                  case hf3 => intro w hSw; (try dsimp only at hSw); go_simp; try with_reducible rfl
                  try simp only [Act.put, List.setIfInBounds_toArray, List.set_cons_zero, List.set_cons_succ]
                  refine tk (i := 4) (v := ?vf4) rfl (by kernel_rfl) (by kernel_rfl) (by kernel_rfl) (fun _ _ _ h => h) (by kernel_rfl) ?hf4 hS ?_
                  case hf4 => intro w hSw; (try dsimp only at hSw); go_simp; try with_reducible rfl
                  try simp only [Act.put, List.setIfInBounds_toArray, List.set_cons_zero, List.set_cons_succ]
                  refine tk (i := 5) (v := ?vf5) rfl (by kernel_rfl) (by kernel_rfl) (by kernel_rfl) (fun _ _ _ h => h) (by kernel_rfl) ?hf5 hS ?_
                  case hf5 => intro w hSw; (try dsimp only at hSw); go_simp; try with_reducible rfl
                  try simp only [Act.put, List.setIfInBounds_toArray, List.set_cons_zero, List.set_cons_succ]
                  refine tk (i := 6) (v := ?vf6) rfl (by kernel_rfl) (by kernel_rfl) (by kernel_rfl) (fun _ _ _ h => h) (by kernel_rfl) ?hf6 hS ?_
                  case hf6 => intro w hSw; (try dsimp only at hSw); go_simp; try with_reducible rfl
                  try simp only [Act.put, List.setIfInBounds_toArray, List.set_cons_zero, List.set_cons_succ]
                  refine wpAnyH_ready (rs := [7]) (by kernel_rfl) (by simp) ?_
                  refine AllReadyH.cons rfl (fun K hK => ?_) AllReadyH.nil
                  go_simp
                  go_at_call 22; refine (hDr h50' _ (below_drew hB4') ho5.nums ho5.flags).mono ?_; rintro e w5 hP5
                  obtain ⟨A5, c5, B5, d5, rfl, hO5, hb5⟩ := of_some hP5 hyv hyb
                  have hb5' : Below (w4.alloc (.cells #[.slice A len c, .slice B len d] 28)).heap.size (w4.alloc (.cells #[.slice A len c, .slice B len d] 28)) w5 := (below_drew (Below.refl _ _)).trans hb5
                  have hB5 := hB4'.trans (hb5'.mono hB4'.size)
                  have hb76 := hb75.below hb5' hb75.lt
                  have hb96 := hb95.below hb5' hb95.lt
                  have hb146 := hb145.below hb5' hb145.lt
                  have ho6 := ho5.below hb5'
                  have t16 : w5.cell? ⟨g, off + k * 2 + 1, none⟩ = some (.slice tA cn tcap) := (hb5'.cell (p := ⟨g, _, none⟩) hg5).trans t15
                  have t06 := (hb5'.cell (p := ⟨g, _, none⟩) hg5).trans t05
                  have hO5' : OwnIm w.heap.size w5 y A5 c5 B5 d5 := ⟨own_less hO5.1 (by have := hB4'.size; exact this), own_less hO5.2 (by have := hB4'.size; exact this)⟩
                  refine hK.out _ _ ⟨hb76.cell 0, hb76.cell 1, t16⟩ (fun hS5 => ?_)
                  clear hK K
                  refine tk (i := 8) (v := ?vf8) rfl (by kernel_rfl) (by kernel_rfl) (by kernel_rfl) (fun _ _ _ h => h) (by kernel_rfl) ?hf8 hS5 ?_
                  case hf8 => intro w hSw; (try dsimp only at hSw); go_simp; try with_reducible rfl
                  try simp only [Act.put, List.setIfInBounds_toArray, List.set_cons_zero, List.set_cons_succ]
                  refine tk (i := 9) (v := ?vf9) rfl (by kernel_rfl) (by kernel_rfl) (by kernel_rfl) (fun _ _ _ h => h) (by kernel_rfl) ?hf9 hS5 ?_
                  case hf9 => intro w hSw; (try dsimp only at hSw); go_simp; try with_reducible rfl
                  try simp only [Act.put, List.setIfInBounds_toArray, List.set_cons_zero, List.set_cons_succ]
                  refine tk (i := 10) (v := ?vf10) rfl (by kernel_rfl) (by kernel_rfl) (by kernel_rfl) (fun _ _ _ h => h) (by kernel_rfl) ?hf10 hS5 ?_
                  case hf10 => intro w hSw; (try dsimp only at hSw); go_simp; try with_reducible rfl
                  try simp only [Act.put, List.setIfInBounds_toArray, List.set_cons_zero, List.set_cons_succ]
                  have hm0 := hb146.cell 0
                  have hm1 := hb146.cell 1
                  have hmf0 := hb146.frozen 0
                  have hmf1 := hb146.frozen 1
                  simp at hm0 hm1
                  have hpn : p7 ≠ w4.heap.size := by omega
                  have hb147 := two_set hb146 (.slice A5 len c5) (.slice B5 len d5)
                  have hb77 := (hb76.far (p := ⟨w4.heap.size, 0, none⟩) hpn (.slice A5 len c5)).far (p := ⟨w4.heap.size, 1, none⟩) hpn (.slice B5 len d5)
                  have hb97 := (hb96.far (p := ⟨w4.heap.size, 0, none⟩) (by show p7 + 1 ≠ w4.heap.size; have := hp94; omega) (.slice A5 len c5)).far (p := ⟨w4.heap.size, 1, none⟩) (by show p7 + 1 ≠ w4.heap.size; have := hp94; omega) (.slice B5 len d5)
                  have hO7 := own_im2 hb146 (by decide) (by decide) hO5' (.slice A5 len c5) (.slice B5 len d5)
                  have hOi7 := own_im2 hb146 (by decide) (by decide) ho6 (.slice A5 len c5) (.slice B5 len d5)
                  have hB7 := (hB5.setCell (p := ⟨w4.heap.size, 0, none⟩) (by show w.heap.size ≤ w4.heap.size; omega) (.slice A5 len c5)).setCell (p := ⟨w4.heap.size, 1, none⟩) (by show w.heap.size ≤ w4.heap.size; omega) (.slice B5 len d5)
                  have hgne : g ≠ w4.heap.size := by omega
                  have t17 : ((w5.setCell ⟨w4.heap.size, 0, none⟩ (.slice A5 len c5)).setCell ⟨w4.heap.size, 1, none⟩ (.slice B5 len d5)).cell? ⟨g, off + k * 2 + 1, none⟩ = some (.slice tA cn tcap) := by
                    rw [World.cell?_of_block (Below.heap_setCell _ _ _ _ hgne), World.cell?_of_block (Below.heap_setCell _ _ _ _ hgne)]
                    exact t16
                  have t07 : ((w5.setCell ⟨w4.heap.size, 0, none⟩ (.slice A5 len c5)).setCell ⟨w4.heap.size, 1, none⟩ (.slice B5 len d5)).cell? ⟨g, off + k * 2, none⟩ = some (.bool true) := by
                    rw [World.cell?_of_block (Below.heap_setCell _ _ _ _ hgne), World.cell?_of_block (Below.heap_setCell _ _ _ _ hgne)]
                    exact t06
                  refine wpAnyH_ready (rs := [11]) (by kernel_rfl) (by simp) ?_
                  refine AllReadyH.cons rfl (fun K hK => ?_) AllReadyH.nil
                  go_simp
                  refine hK.out _ _ ⟨hb77.cell 0, hb77.cell 1, t17⟩ (fun hS7 => ?_)
                  clear hK K
                  refine tk (i := 12) (v := ?vf12) rfl (by kernel_rfl) (by kernel_rfl) (by kernel_rfl) (fun _ _ _ h => h) (by kernel_rfl) ?hf12 hS7 ?_
                  case hf12 => intro w hSw; (try dsimp only at hSw); go_simp; try with_reducible rfl
                  try simp only [Act.put, List.setIfInBounds_toArray, List.set_cons_zero, List.set_cons_succ]
                  refine wpAnyH_done (by kernel_rfl) ?_ _
                  have hg7 : g < ((w5.setCell ⟨w4.heap.size, 0, none⟩ (.slice A5 len c5)).setCell ⟨w4.heap.size, 1, none⟩ (.slice B5 len d5)).heap.size := by simp; have := hb5'.size; omega
                  clear hb76 hb96 hb146 ho6 hO5' hO5 hb5 hb5' hB5 t16 t06 hm0 hm1 hmf0 hmf1 hb75 hb95 hb145 ho5 t15 t05 hB4' hP5 hLt hDr
                  generalize hW7 : ((w5.setCell ⟨w4.heap.size, 0, none⟩ (.slice A5 len c5)).setCell ⟨w4.heap.size, 1, none⟩ (.slice B5 len d5)) = w7 at *
                  clear hW7
                  generalize hp14 : w4.heap.size = p14 at *
                  have hK3 : Hid (Kept3 w p7 (p7 + 1) p14 len len A c B d A5 c5 B5 d5 im y s w7) := ⟨hb77, hb147, hO7, hOi7, hb97, hB7⟩
                  clear hb77 hb147 hO7 hOi7 hb97 hB7 t07 t17 hg7 hgne
                  go_wp2_with fail
                  go_loopw [15] (fun v15 wz => ∃ (q : Nat) (s' : List Int), q ≤ cn ∧ v15 = .int .i64 q ∧ Hid (lastF l (cs.drop q) s' = lastF l cs s) ∧ Hid (s'.length = 12) ∧ Hid (Kept3 w p7 (p7 + 1) p14 len len A c B d A5 c5 B5 d5 im y s' wz)) (fun v15 _ => cn - (intOf v15).toNat)
                  case atStart => exact ⟨0, s, by omega, rfl, rfl, HH.out.2.2.1, hK3⟩
                  case round =>
                    obtain ⟨q, s', hqc, rfl, HSq, HS12, HK3⟩ := hrel
                    obtain ⟨k7, k14, ky, ki, k9, kb⟩ := HK3.out
                    clear HK3 hK3
                    by_cases hqq : q < cn
                    · have hqi : q < cs.length := by rw [HCL.out]; exact hqq
                      obtain ⟨i, t, hfi, hli, hto⟩ := tell_found true cs im y HFt.out _ (List.getElem_mem hqi)
                      have HD := Lib.hid (lastF_drop l cs s' q hqi)
                      obtain ⟨gc, oc, rfl, hgc, d0, d1⟩ := Cells.at2 HCt.out hqi
                      generalize cs[q] = ce at *
                      obtain ⟨nm, z⟩ := ce
                      simp only at *
                      have hFi := Find_any l nm a cap wr (by rw [HL.out]; omega) (RowF.below HT.out kb)
                      have hI : findI l nm = (i : Int) := by unfold findI; rw [hfi]
                      rw [hI, HL.out] at hFi
                      obtain ⟨hil, het⟩ := List.getElem?_eq_some_iff.1 hli
                      have hil2 : i < len := by rw [← HL.out]; exact hil
                      have hSn : Hid (lastF l (cs.drop (q + 1)) (s'.set i z) = lastF l cs s) := by
                        unfold Hid
                        rw [← HSq.out, HD.out, hfi]
                        rfl
                      clear hI hfi HD
                      obtain ⟨gt, ot, rfl, hgt, -, t1, -, -⟩ := Tags.at4 HT.out hil
                      rw [het, hto] at t1
                      clear het hto hli
                      have a0 := (kb.cell (p := ⟨g, _, none⟩) hg0).trans HC0.out
                      have a1 := (kb.cell (p := ⟨g, _, none⟩) hg0).trans HC1.out
                      have a2 := (kb.cell (p := ⟨gc, _, none⟩) hgc).trans d0
                      have hqn : ((q : Nat) : Int) < (cn : Int) := by omega
                      go_wp2_with fail
                      refine hFi.mono ?_
                      rintro e w8 ⟨rfl, hb8⟩
                      have kb8 := kb.trans (hb8.mono kb.size)
                      have k78 := k7.below hb8 k7.lt
                      have k148 := k14.below hb8 k14.lt
                      have ky8 := ky.below hb8
                      have ki8 := ki.below hb8
                      have k98 := k9.below hb8 k9.lt
                      have e0 := (kb8.cell (p := ⟨g, _, none⟩) hg0).trans HC0.out
                      have e1 := (kb8.cell (p := ⟨g, _, none⟩) hg0).trans HC1.out
                      have e2 := (kb8.cell (p := ⟨gc, _, none⟩) hgc).trans d1
                      have e3 := (kb8.cell (p := ⟨gt, _, none⟩) hgt).trans t1
                      clear k7 k14 ky ki k9 hb8 a0 a1 a2 d0 d1 t1 kb hFi
                      have his : i < s'.length := by rw [HS12.out]; omega
                      have z9 := arr_at k98 (List.getElem?_eq_getElem his)
                      have zf := k98.frozen i
                      generalize s'[i] = y9 at *
                      have hi12 : ((i : Nat) : Int) < 12 := by omega
                      have hil3 : ((i : Nat) : Int) < (len : Int) := by omega
                      have dq : (true == true) = true := rfl
                      have hKn : ∀ nq, Hid (Kept3 w p7 (p7 + 1) p14 len len A c B d A5 c5 B5 d5 im y (s'.set i z) ((w8.drewN nq).setCell ⟨p7 + 1, i, none⟩ (.int .i64 z))) := fun nq =>
                        ⟨(k78.drewN nq).far (p := ⟨p7 + 1, i, none⟩) (by show p7 ≠ p7 + 1; omega) _, (k148.drewN nq).far (p := ⟨p7 + 1, i, none⟩) (by show p14 ≠ p7 + 1; omega) _, own_im1 (k98.drewN nq) (by decide) (by decide) (own_dr ky8 nq) i _, own_im1 (k98.drewN nq) (by decide) (by decide) (own_dr ki8 nq) i _, box_arr (k98.drewN nq) i z, (below_drewN kb8 nq).setCell (p := ⟨p7 + 1, i, none⟩) (by show w.heap.size ≤ p7 + 1; omega) _⟩
                      have hSl : Hid ((s'.set i z).length = 12) := by unfold Hid; rw [List.length_set]; exact HS12.out
                      clear k78 k148 ky8 ki8 k98 kb8
                      go_wp2_with fail
                      go_quiet (fail)
                      go_wp2_with fail
                      go_roundw
                      case rel =>
                        first
                          | exact ⟨q + 1, s'.set i z, hqq, by go_num, hSn, hSl, hKn _⟩
                          | exact ⟨q + 1, hqq, by go_num, s'.set i z, hSn, hSl, hKn _⟩
                      case measure => simp [intOf]; omega
                    · have a1 := (kb.cell (p := ⟨g, _, none⟩) hg0).trans HC1.out
                      have hs' : lastF l cs s = s' := by
                        have := HSq.out
                        rw [List.drop_eq_nil_of_le (by have := HCL.out; omega)] at this
                        exact this.symm
                      have HH2 : Hid (Held l y s') := by
                        unfold Hid
                        rw [← hs']
                        exact held_tell HCk.out true cs im y s HH.out HFt.out
                      clear hs'
                      have e0 := k14.cell 0
                      have e1 := k14.cell 1
                      have f0 := k7.cell 0
                      have f1 := k7.cell 1
                      have f2 := k7.frozen 0
                      have f3 := k7.frozen 1
                      simp at e0 e1 f0 f1
                      have hKn : Hid (Kept w p7 (p7 + 1) len y s' ((wr.setCell ⟨p7, 0, none⟩ (.slice A5 len c5)).setCell ⟨p7, 1, none⟩ (.slice B5 len d5))) :=
                        ⟨A5, c5, B5, d5, two_set k7 _ _, own_im2 k7 (by decide) (by decide) ky _ _, (k9.far (p := ⟨p7, 0, none⟩) (by show p7 + 1 ≠ p7; omega) _).far (p := ⟨p7, 1, none⟩) (by show p7 + 1 ≠ p7; omega) _, (kb.setCell (p := ⟨p7, 0, none⟩) (by show w.heap.size ≤ p7; omega) _).setCell (p := ⟨p7, 1, none⟩) (by show w.heap.size ≤ p7; omega) _⟩
                      clear k7 k14 ky ki k9 kb HSq HS12
                      go_wp2_with fail
                      go_roundw
                      case rel =>
                        first
                          | exact ⟨k + 1, y, s', hltt, by go_num, HH2, hKn⟩
                          | exact ⟨k + 1, hltt, by go_num, y, s', HH2, hKn⟩
                      case measure => simp [intOf]; omega
              | false =>
                have hX0 : tellF l false cs im = none → tellT l im cs false = (none, 21) := fun hf => tell_none hrt hf
                have hX1 : ∀ y, tellF l false cs im = some y → tellT l im cs false = (some y, 0) := fun y hf => tell_some hrt hf
                cases hf : tellF l false cs im with
                | none =>
                  rw [hX0 hf] at hLt
                  have HFt := Lib.hid hf
                  clear hX0 hX1 hf
                  have cd5 : Three_ (w4.alloc (.cells #[.slice A len c, .slice B len d] 28)).drew p7 A B len c len d g (off + k * 2 + 1) tA cn tcap := ⟨hb75.cell 0, hb75.cell 1, t15⟩
                  unfold Three_ at cd5
                  go_wp2_with fail
                  refine region_start (S := fun w' => w'.cell? ⟨p7, 0, none⟩ = some (.slice A len c) ∧ w'.cell? ⟨p7, 1, none⟩ = some (.slice B len d) ∧ w'.cell? ⟨g, off + k * 2 + 1, none⟩ = some (.slice tA cn tcap)) (n := 13) (lit := #[false, false, false, false, false, false, false, false, false, false, false, false, false]) rfl rfl (by kernel_rfl) cd5 fun hS => ?_
                  refine tk (i := 0) (v := ?vh0) rfl (by kernel_rfl) (by kernel_rfl) (by kernel_rfl) (fun _ _ _ h => h) (by kernel_rfl) ?hh0 hS ?_
                  case hh0 => intro w hSw; (try dsimp only at hSw); go_simp; try with_reducible rfl
                  try simp only [Act.put, List.setIfInBounds_toArray, List.set_cons_zero, List.set_cons_succ]
                  refine tk (i := 1) (v := ?vh1) rfl (by kernel_rfl) (by kernel_rfl) (by kernel_rfl) (fun _ _ _ h => h) (by kernel_rfl) ?hh1 hS ?_
                  case hh1 => intro w hSw; (try dsimp only at hSw); go_simp; try with_reducible rfl
                  try simp only [Act.put, List.setIfInBounds_toArray, List.set_cons_zero, List.set_cons_succ]
                  refine tk (i := 2) (v := ?vh2) rfl (by kernel_rfl) (by kernel_rfl) (by kernel_rfl) (fun _ _ _ h => h) (by kernel_rfl) ?hh2 hS ?_
                  case hh2 => intro w hSw; (try dsimp only at hSw); go_simp; try with_reducible rfl
                  try simp only [Act.put, List.setIfInBounds_toArray, List.set_cons_zero, List.set_cons_succ]
                  refine tk (i := 3) (v := ?vh3) rfl (by kernel_rfl) (by kernel_rfl) (by kernel_rfl) (fun _ _ _ h => h) (by kernel_rfl) ?hh3 hS ?_
                  case hh3 => intro w hSw; (try dsimp only at hSw); go_simp; try with_reducible rfl
                  try simp only [Act.put, List.setIfInBounds_toArray, List.set_cons_zero, List.set_cons_succ]
                  refine tk (i := 4) (v := ?vh4) rfl (by kernel_rfl) (by kernel_rfl) (by kernel_rfl) (fun _ _ _ h => h) (by kernel_rfl) ?hh4 hS ?_
                  case hh4 => intro w hSw; (try dsimp only at hSw); go_simp; try with_reducible rfl
                  try simp only [Act.put, List.setIfInBounds_toArray, List.set_cons_zero, List.set_cons_succ]
                  refine tk (i := 5) (v := ?vh5) rfl (by kernel_rfl) (by kernel_rfl) (by kernel_rfl) (fun _ _ _ h => h) (by kernel_rfl) ?hh5 hS ?_
                  case hh5 => intro w hSw; (try dsimp only at hSw); go_simp; try with_reducible rfl
                  try simp only [Act.put, List.setIfInBounds_toArray, List.set_cons_zero, List.set_cons_succ]
                  refine tk (i := 6) (v := ?vh6) rfl (by kernel_rfl) (by kernel_rfl) (by kernel_rfl) (fun _ _ _ h => h) (by kernel_rfl) ?hh6 hS ?_
                  case hh6 => intro w hSw; (try dsimp only at hSw); go_simp; try with_reducible rfl
                  try simp only [Act.put, List.setIfInBounds_toArray, List.set_cons_zero, List.set_cons_succ]
                  refine wpAnyH_ready (rs := [7]) (by kernel_rfl) (by simp) ?_
                  refine AllReadyH.cons rfl (fun K hK => ?_) AllReadyH.nil
                  go_simp
                  go_at_call 20; refine (hLt h50' _ (below_drew hB4') ho5.nums ho5.flags).mono ?_; rintro e w5 hP5
                  obtain ⟨A5, c5, B5, d5, rfl, hO5, hb5⟩ := of_none hP5
                  have hb5' : Below (w4.alloc (.cells #[.slice A len c, .slice B len d] 28)).heap.size (w4.alloc (.cells #[.slice A len c, .slice B len d] 28)) w5 := (below_drew (Below.refl _ _)).trans hb5
                  have hB5 := hB4'.trans (hb5'.mono hB4'.size)
                  have hb76 := hb75.below hb5' hb75.lt
                  have hb96 := hb95.below hb5' hb95.lt
                  have hb146 := hb145.below hb5' hb145.lt
                  have ho6 := ho5.below hb5'
                  have t16 : w5.cell? ⟨g, off + k * 2 + 1, none⟩ = some (.slice tA cn tcap) := (hb5'.cell (p := ⟨g, _, none⟩) hg5).trans t15
                  have t06 := (hb5'.cell (p := ⟨g, _, none⟩) hg5).trans t05
                  have hO5' : OwnIm w.heap.size w5 ⟨[], []⟩ A5 c5 B5 d5 := ⟨own_less hO5.1 (by have := hB4'.size; exact this), own_less hO5.2 (by have := hB4'.size; exact this)⟩
                  refine hK.out _ _ ⟨hb76.cell 0, hb76.cell 1, t16⟩ (fun hS5 => ?_)
                  clear hK K
                  refine tk (i := 8) (v := ?vh8) rfl (by kernel_rfl) (by kernel_rfl) (by kernel_rfl) (fun _ _ _ h => h) (by kernel_rfl) ?hh8 hS5 ?_
                  case hh8 => intro w hSw; (try dsimp only at hSw); go_simp; try with_reducible rfl
                  try simp only [Act.put, List.setIfInBounds_toArray, List.set_cons_zero, List.set_cons_succ]
                  refine tk (i := 9) (v := ?vh9) rfl (by kernel_rfl) (by kernel_rfl) (by kernel_rfl) (fun _ _ _ h => h) (by kernel_rfl) ?hh9 hS5 ?_
                  case hh9 => intro w hSw; (try dsimp only at hSw); go_simp; try with_reducible rfl
                  try simp only [Act.put, List.setIfInBounds_toArray, List.set_cons_zero, List.set_cons_succ]
                  refine tk (i := 10) (v := ?vh10) rfl (by kernel_rfl) (by kernel_rfl) (by kernel_rfl) (fun _ _ _ h => h) (by kernel_rfl) ?hh10 hS5 ?_
                  case hh10 => intro w hSw; (try dsimp only at hSw); go_simp; try with_reducible rfl
                  try simp only [Act.put, List.setIfInBounds_toArray, List.set_cons_zero, List.set_cons_succ]
                  have hm0 := hb146.cell 0
                  have hm1 := hb146.cell 1
                  have hmf0 := hb146.frozen 0
                  have hmf1 := hb146.frozen 1
                  simp at hm0 hm1
                  have hpn : p7 ≠ w4.heap.size := by omega
                  have hb147 := two_set hb146 (.slice A5 0 c5) (.slice B5 0 d5)
                  have hb77 := (hb76.far (p := ⟨w4.heap.size, 0, none⟩) hpn (.slice A5 0 c5)).far (p := ⟨w4.heap.size, 1, none⟩) hpn (.slice B5 0 d5)
                  have hb97 := (hb96.far (p := ⟨w4.heap.size, 0, none⟩) (by show p7 + 1 ≠ w4.heap.size; have := hp94; omega) (.slice A5 0 c5)).far (p := ⟨w4.heap.size, 1, none⟩) (by show p7 + 1 ≠ w4.heap.size; have := hp94; omega) (.slice B5 0 d5)
                  have hO7 := own_im2 hb146 (by decide) (by decide) hO5' (.slice A5 0 c5) (.slice B5 0 d5)
                  have hOi7 := own_im2 hb146 (by decide) (by decide) ho6 (.slice A5 0 c5) (.slice B5 0 d5)
                  have hB7 := (hB5.setCell (p := ⟨w4.heap.size, 0, none⟩) (by show w.heap.size ≤ w4.heap.size; omega) (.slice A5 0 c5)).setCell (p := ⟨w4.heap.size, 1, none⟩) (by show w.heap.size ≤ w4.heap.size; omega) (.slice B5 0 d5)
                  have hgne : g ≠ w4.heap.size := by omega
                  have t17 : ((w5.setCell ⟨w4.heap.size, 0, none⟩ (.slice A5 0 c5)).setCell ⟨w4.heap.size, 1, none⟩ (.slice B5 0 d5)).cell? ⟨g, off + k * 2 + 1, none⟩ = some (.slice tA cn tcap) := by
                    rw [World.cell?_of_block (Below.heap_setCell _ _ _ _ hgne), World.cell?_of_block (Below.heap_setCell _ _ _ _ hgne)]
                    exact t16
                  have t07 : ((w5.setCell ⟨w4.heap.size, 0, none⟩ (.slice A5 0 c5)).setCell ⟨w4.heap.size, 1, none⟩ (.slice B5 0 d5)).cell? ⟨g, off + k * 2, none⟩ = some (.bool false) := by
                    rw [World.cell?_of_block (Below.heap_setCell _ _ _ _ hgne), World.cell?_of_block (Below.heap_setCell _ _ _ _ hgne)]
                    exact t06
                  refine wpAnyH_ready (rs := [11]) (by kernel_rfl) (by simp) ?_
                  refine AllReadyH.cons rfl (fun K hK => ?_) AllReadyH.nil
                  go_simp
                  refine hK.out _ _ ⟨hb77.cell 0, hb77.cell 1, t17⟩ (fun hS7 => ?_)
                  clear hK K
                  refine tk (i := 12) (v := ?vh12) rfl (by kernel_rfl) (by kernel_rfl) (by kernel_rfl) (fun _ _ _ h => h) (by kernel_rfl) ?hh12 hS7 ?_
                  case hh12 => intro w hSw; (try dsimp only at hSw); go_simp; try with_reducible rfl
                  try simp only [Act.put, List.setIfInBounds_toArray, List.set_cons_zero, List.set_cons_succ]
                  refine wpAnyH_done (by kernel_rfl) ?_ _
                  have hg7 : g < ((w5.setCell ⟨w4.heap.size, 0, none⟩ (.slice A5 0 c5)).setCell ⟨w4.heap.size, 1, none⟩ (.slice B5 0 d5)).heap.size := by simp; have := hb5'.size; omega
                  clear hb76 hb96 hb146 ho6 hO5' hO5 hb5 hb5' hB5 t16 t06 hm0 hm1 hmf0 hmf1 hb75 hb95 hb145 ho5 t15 t05 hB4' hP5 hLt hDr
                  generalize hW7 : ((w5.setCell ⟨w4.heap.size, 0, none⟩ (.slice A5 0 c5)).setCell ⟨w4.heap.size, 1, none⟩ (.slice B5 0 d5)) = w7 at *
                  clear hW7
                  generalize hp14 : w4.heap.size = p14 at *
                  have hK3 : Hid (Kept3 w p7 (p7 + 1) p14 len 0 A c B d A5 c5 B5 d5 im ⟨[], []⟩ s w7) := ⟨hb77, hb147, hO7, hOi7, hb97, hB7⟩
                  clear hb77 hb147 hO7 hOi7 hb97 hB7 t07 t17 hg7 hgne
                  go_wp2_with fail
                  go_loopw [15] (fun v15 wz => ∃ q : Nat, q ≤ cn ∧ v15 = .int .i64 q ∧ Hid (Kept3 w p7 (p7 + 1) p14 len 0 A c B d A5 c5 B5 d5 im ⟨[], []⟩ s wz)) (fun v15 _ => cn - (intOf v15).toNat)
                  case atStart => exact ⟨0, by omega, rfl, hK3⟩
                  case round =>
                    obtain ⟨q, hqc, rfl, HK3⟩ := hrel
                    obtain ⟨k7, k14, ky, ki, k9, kb⟩ := HK3.out
                    clear HK3 hK3
                    by_cases hqq : q < cn
                    · have hqi : q < cs.length := by rw [HCL.out]; exact hqq
                      obtain ⟨gc, oc, rfl, hgc, d0, d1⟩ := Cells.at2 HCt.out hqi
                      generalize cs[q] = ce at *
                      obtain ⟨nm, z⟩ := ce
                      simp only at *
                      have hFi := Find_any l nm a cap wr (by rw [HL.out]; omega) (RowF.below HT.out kb)
                      rw [HL.out] at hFi
                      generalize findI l nm = fi at *
                      have a0 := (kb.cell (p := ⟨g, _, none⟩) hg0).trans HC0.out
                      have a1 := (kb.cell (p := ⟨g, _, none⟩) hg0).trans HC1.out
                      have a2 := (kb.cell (p := ⟨gc, _, none⟩) hgc).trans d0
                      have hqn : ((q : Nat) : Int) < (cn : Int) := by omega
                      go_wp2_with fail
                      refine hFi.mono ?_
                      rintro e w8 ⟨rfl, hb8⟩
                      have kb8 := kb.trans (hb8.mono kb.size)
                      have hKn : ∀ nq, Hid (Kept3 w p7 (p7 + 1) p14 len 0 A c B d A5 c5 B5 d5 im ⟨[], []⟩ s (w8.drewN nq)) := fun nq => ⟨(k7.below hb8 k7.lt).drewN nq, (k14.below hb8 k14.lt).drewN nq, own_dr (ky.below hb8) nq, own_dr (ki.below hb8) nq, (k9.below hb8 k9.lt).drewN nq, below_drewN kb8 nq⟩
                      clear k7 k14 ky ki k9 hb8 a0 a1 a2 d0 d1 kb hFi kb8
                      go_wp2_with fail
                      go_quiet (fail)
                      go_wp2_with fail
                      go_roundw
                      case rel => exact ⟨q + 1, hqq, by go_num, hKn _⟩
                      case measure => simp [intOf]; omega
                    · have a1 := (kb.cell (p := ⟨g, _, none⟩) hg0).trans HC1.out
                      have hKn : Hid (Kept w p7 (p7 + 1) len im s wr) := ⟨A, c, B, d, k7, ki, k9, kb⟩
                      clear k7 k14 ky ki k9 kb
                      go_wp2_with fail
                      go_roundw
                      case rel =>
                        first
                          | exact ⟨k + 1, im, s, hltt, by go_num, HH, hKn⟩
                          | exact ⟨k + 1, hltt, by go_num, im, s, HH, hKn⟩
                      case measure => simp [intOf]; omega
                | some y =>
                  rw [hX1 y hf] at hLt
                  have hyl := tellF_len l false cs im y hf
                  have hyv : y.v.length = len := by rw [hyl.1, HH.out.1, HL.out]
                  have hyb : y.bad.length = len := by rw [hyl.2, HH.out.2.1, HL.out]
                  have HFt := Lib.hid hf
                  clear hX0 hX1 hf
                  have cd5 : Three_ (w4.alloc (.cells #[.slice A len c, .slice B len d] 28)).drew p7 A B len c len d g (off + k * 2 + 1) tA cn tcap := ⟨hb75.cell 0, hb75.cell 1, t15⟩
                  unfold Three_ at cd5
                  go_wp2_with fail
                  refine region_start (S := fun w' => w'.cell? ⟨p7, 0, none⟩ = some (.slice A len c) ∧ w'.cell? ⟨p7, 1, none⟩ = some (.slice B len d) ∧ w'.cell? ⟨g, off + k * 2 + 1, none⟩ = some (.slice tA cn tcap)) (n := 13) (lit := #[false, false, false, false, false, false, false, false, false, false, false, false, false]) rfl rfl (by kernel_rfl) cd5 fun hS => ?_
                  refine tk (i := 0) (v := ?vj0) rfl (by kernel_rfl) (by kernel_rfl) (by kernel_rfl) (fun _ _ _ h => h) (by kernel_rfl) ?hj0 hS ?_
                  case hj0 => intro w hSw; (try dsimp only at hSw); go_simp; try with_reducible rfl
                  try simp only [Act.put, List.setIfInBounds_toArray, List.set_cons_zero, List.set_cons_succ]
                  refine tk (i := 1) (v := ?vj1) rfl (by kernel_rfl) (by kernel_rfl) (by kernel_rfl) (fun _ _ _ h => h) (by kernel_rfl) ?hj1 hS ?_
                  case hj1 => intro w hSw; (try dsimp only at hSw); go_simp; try with_reducible rfl
                  try simp only [Act.put, List.setIfInBounds_toArray, List.set_cons_zero, List.set_cons_succ]
                  refine tk (i := 2) (v := ?vj2) rfl (by kernel_rfl) (by kernel_rfl) (by kernel_rfl) (fun _ _ _ h => h) (by kernel_rfl) ?hj2 hS ?_
                  case hj2 => intro w hSw; (try dsimp only at hSw); go_simp; try with_reducible rfl
                  try simp only [Act.put, List.setIfInBounds_toArray, List.set_cons_zero, List.set_cons_succ]
                  refine tk (i := 3) (v := ?vj3) rfl (by kernel_rfl) (by kernel_rfl) (by kernel_rfl) (fun _ _ _ h => h) (by kernel_rfl) ?hj3 hS ?_
                  case hj3 => intro w hSw; (try dsimp only at hSw); go_simp; try with_reducible rfl
                  try simp only [Act.put, List.setIfInBounds_toArray, List.set_cons_zero, List.set_cons_succ]
                  refine tk (i := 4) (v := ?vj4) rfl (by kernel_rfl) (by kernel_rfl) (by kernel_rfl) (fun _ _ _ h => h) (by kernel_rfl) ?hj4 hS ?_
                  case hj4 => intro w hSw; (try dsimp only at hSw); go_simp; try with_reducible rfl
                  try simp only [Act.put, List.setIfInBounds_toArray, List.set_cons_zero, List.set_cons_succ]
                  refine tk (i := 5) (v := ?vj5) rfl (by kernel_rfl) (by kernel_rfl) (by kernel_rfl) (fun _ _ _ h => h) (by kernel_rfl) ?hj5 hS ?_
                  case hj5 => intro w hSw; (try dsimp only at hSw); go_simp; try with_reducible rfl
                  try simp only [Act.put, List.setIfInBounds_toArray, List.set_cons_zero, List.set_cons_succ]
                  refine tk (i := 6) (v := ?vj6) rfl (by kernel_rfl) (by kernel_rfl) (by kernel_rfl) (fun _ _ _ h => h) (by kernel_rfl) ?hj6 hS ?_
                  case hj6 => intro w hSw; (try dsimp only at hSw); go_simp; try with_reducible rfl
                  try simp only [Act.put, List.setIfInBounds_toArray, List.set_cons_zero, List.set_cons_succ]
                  refine wpAnyH_ready (rs := [7]) (by kernel_rfl) (by simp) ?_
                  refine AllReadyH.cons rfl (fun K hK => ?_) AllReadyH.nil
                  go_simp
                  go_at_call 20; refine (hLt h50' _ (below_drew hB4') ho5.nums ho5.flags).mono ?_; rintro e w5 hP5
                  obtain ⟨A5, c5, B5, d5, rfl, hO5, hb5⟩ := of_some hP5 hyv hyb
                  have hb5' : Below (w4.alloc (.cells #[.slice A len c, .slice B len d] 28)).heap.size (w4.alloc (.cells #[.slice A len c, .slice B len d] 28)) w5 := (below_drew (Below.refl _ _)).trans hb5
                  have hB5 := hB4'.trans (hb5'.mono hB4'.size)
                  have hb76 := hb75.below hb5' hb75.lt
                  have hb96 := hb95.below hb5' hb95.lt
                  have hb146 := hb145.below hb5' hb145.lt
                  have ho6 := ho5.below hb5'
                  have t16 : w5.cell? ⟨g, off + k * 2 + 1, none⟩ = some (.slice tA cn tcap) := (hb5'.cell (p := ⟨g, _, none⟩) hg5).trans t15
                  have t06 := (hb5'.cell (p := ⟨g, _, none⟩) hg5).trans t05
                  have hO5' : OwnIm w.heap.size w5 y A5 c5 B5 d5 := ⟨own_less hO5.1 (by have := hB4'.size; exact this), own_less hO5.2 (by have := hB4'.size; exact this)⟩
                  refine hK.out _ _ ⟨hb76.cell 0, hb76.cell 1, t16⟩ (fun hS5 => ?_)
                  clear hK K
                  refine tk (i := 8) (v := ?vj8) rfl (by kernel_rfl) (by kernel_rfl) (by kernel_rfl) (fun _ _ _ h => h) (by kernel_rfl) ?hj8 hS5 ?_
                  case hj8 => intro w hSw; (try dsimp only at hSw); go_simp; try with_reducible rfl
                  try simp only [Act.put, List.setIfInBounds_toArray, List.set_cons_zero, List.set_cons_succ]
                  refine tk (i := 9) (v := ?vj9) rfl (by kernel_rfl) (by kernel_rfl) (by kernel_rfl) (fun _ _ _ h => h) (by kernel_rfl) ?hj9 hS5 ?_
                  case hj9 => intro w hSw; (try dsimp only at hSw); go_simp; try with_reducible rfl
                  try simp only [Act.put, List.setIfInBounds_toArray, List.set_cons_zero, List.set_cons_succ]
                  refine tk (i := 10) (v := ?vj10) rfl (by kernel_rfl) (by kernel_rfl) (by kernel_rfl) (fun _ _ _ h => h) (by kernel_rfl) ?hj10 hS5 ?_
                  case hj10 => intro w hSw; (try dsimp only at hSw); go_simp; try with_reducible rfl
                  try simp only [Act.put, List.setIfInBounds_toArray, List.set_cons_zero, List.set_cons_succ]
                  have hm0 := hb146.cell 0
                  have hm1 := hb146.cell 1
                  have hmf0 := hb146.frozen 0
                  have hmf1 := hb146.frozen 1
                  simp at hm0 hm1
                  have hpn : p7 ≠ w4.heap.size := by omega
                  have hb147 := two_set hb146 (.slice A5 len c5) (.slice B5 len d5)
                  have hb77 := (hb76.far (p := ⟨w4.heap.size, 0, none⟩) hpn (.slice A5 len c5)).far (p := ⟨w4.heap.size, 1, none⟩) hpn (.slice B5 len d5)
                  have hb97 := (hb96.far (p := ⟨w4.heap.size, 0, none⟩) (by show p7 + 1 ≠ w4.heap.size; have := hp94; omega) (.slice A5 len c5)).far (p := ⟨w4.heap.size, 1, none⟩) (by show p7 + 1 ≠ w4.heap.size; have := hp94; omega) (.slice B5 len d5)
                  have hO7 := own_im2 hb146 (by decide) (by decide) hO5' (.slice A5 len c5) (.slice B5 len d5)
                  have hOi7 := own_im2 hb146 (by decide) (by decide) ho6 (.slice A5 len c5) (.slice B5 len d5)
                  have hB7 := (hB5.setCell (p := ⟨w4.heap.size, 0, none⟩) (by show w.heap.size ≤ w4.heap.size; omega) (.slice A5 len c5)).setCell (p := ⟨w4.heap.size, 1, none⟩) (by show w.heap.size ≤ w4.heap.size; omega) (.slice B5 len d5)
                  have hgne : g ≠ w4.heap.size := by omega
                  have t17 : ((w5.setCell ⟨w4.heap.size, 0, none⟩ (.slice A5 len c5)).setCell ⟨w4.heap.size, 1, none⟩ (.slice B5 len d5)).cell? ⟨g, off + k * 2 + 1, none⟩ = some (.slice tA cn tcap) := by
                    rw [World.cell?_of_block (Below.heap_setCell _ _ _ _ hgne), World.cell?_of_block (Below.heap_setCell _ _ _ _ hgne)]
                    exact t16
                  have t07 : ((w5.setCell ⟨w4.heap.size, 0, none⟩ (.slice A5 len c5)).setCell ⟨w4.heap.size, 1, none⟩ (.slice B5 len d5)).cell? ⟨g, off + k * 2, none⟩ = some (.bool false) := by
                    rw [World.cell?_of_block (Below.heap_setCell _ _ _ _ hgne), World.cell?_of_block (Below.heap_setCell _ _ _ _ hgne)]
                    exact t06
                  refine wpAnyH_ready (rs := [11]) (by kernel_rfl) (by simp) ?_
                  refine AllReadyH.cons rfl (fun K hK => ?_) AllReadyH.nil
                  go_simp
                  refine hK.out _ _ ⟨hb77.cell 0, hb77.cell 1, t17⟩ (fun hS7 => ?_)
                  clear hK K
                  refine tk (i := 12) (v := ?vj12) rfl (by kernel_rfl) (by kernel_rfl) (by kernel_rfl) (fun _ _ _ h => h) (by kernel_rfl) ?hj12 hS7 ?_
                  case hj12 => intro w hSw; (try dsimp only at hSw); go_simp; try with_reducible rfl
                  try simp only [Act.put, List.setIfInBounds_toArray, List.set_cons_zero, List.set_cons_succ]
                  refine wpAnyH_done (by kernel_rfl) ?_ _
                  have hg7 : g < ((w5.setCell ⟨w4.heap.size, 0, none⟩ (.slice A5 len c5)).setCell ⟨w4.heap.size, 1, none⟩ (.slice B5 len d5)).heap.size := by simp; have := hb5'.size; omega
                  clear hb76 hb96 hb146 ho6 hO5' hO5 hb5 hb5' hB5 t16 t06 hm0 hm1 hmf0 hmf1 hb75 hb95 hb145 ho5 t15 t05 hB4' hP5 hLt hDr
                  generalize hW7 : ((w5.setCell ⟨w4.heap.size, 0, none⟩ (.slice A5 len c5)).setCell ⟨w4.heap.size, 1, none⟩ (.slice B5 len d5)) = w7 at *
                  clear hW7
                  generalize hp14 : w4.heap.size = p14 at *
                  have hK3 : Hid (Kept3 w p7 (p7 + 1) p14 len len A c B d A5 c5 B5 d5 im y s w7) := ⟨hb77, hb147, hO7, hOi7, hb97, hB7⟩
                  clear hb77 hb147 hO7 hOi7 hb97 hB7 t07 t17 hg7 hgne
                  go_wp2_with fail
                  go_loopw [15] (fun v15 wz => ∃ (q : Nat) (s' : List Int), q ≤ cn ∧ v15 = .int .i64 q ∧ Hid (lastF l (cs.drop q) s' = lastF l cs s) ∧ Hid (s'.length = 12) ∧ Hid (Kept3 w p7 (p7 + 1) p14 len len A c B d A5 c5 B5 d5 im y s' wz)) (fun v15 _ => cn - (intOf v15).toNat)
                  case atStart => exact ⟨0, s, by omega, rfl, rfl, HH.out.2.2.1, hK3⟩
                  case round =>
                    obtain ⟨q, s', hqc, rfl, HSq, HS12, HK3⟩ := hrel
                    obtain ⟨k7, k14, ky, ki, k9, kb⟩ := HK3.out
                    clear HK3 hK3
                    by_cases hqq : q < cn
                    · have hqi : q < cs.length := by rw [HCL.out]; exact hqq
                      obtain ⟨i, t, hfi, hli, hto⟩ := tell_found false cs im y HFt.out _ (List.getElem_mem hqi)
                      have HD := Lib.hid (lastF_drop l cs s' q hqi)
                      obtain ⟨gc, oc, rfl, hgc, d0, d1⟩ := Cells.at2 HCt.out hqi
                      generalize cs[q] = ce at *
                      obtain ⟨nm, z⟩ := ce
                      simp only at *
                      have hFi := Find_any l nm a cap wr (by rw [HL.out]; omega) (RowF.below HT.out kb)
                      have hI : findI l nm = (i : Int) := by unfold findI; rw [hfi]
                      rw [hI, HL.out] at hFi
                      obtain ⟨hil, het⟩ := List.getElem?_eq_some_iff.1 hli
                      have hil2 : i < len := by rw [← HL.out]; exact hil
                      have hSn : Hid (lastF l (cs.drop (q + 1)) (s'.set i z) = lastF l cs s) := by
                        unfold Hid
                        rw [← HSq.out, HD.out, hfi]
                        rfl
                      clear hI hfi HD
                      obtain ⟨gt, ot, rfl, hgt, -, t1, -, -⟩ := Tags.at4 HT.out hil
                      rw [het, hto] at t1
                      clear het hto hli
                      have a0 := (kb.cell (p := ⟨g, _, none⟩) hg0).trans HC0.out
                      have a1 := (kb.cell (p := ⟨g, _, none⟩) hg0).trans HC1.out
                      have a2 := (kb.cell (p := ⟨gc, _, none⟩) hgc).trans d0
                      have hqn : ((q : Nat) : Int) < (cn : Int) := by omega
                      go_wp2_with fail
                      refine hFi.mono ?_
                      rintro e w8 ⟨rfl, hb8⟩
                      have kb8 := kb.trans (hb8.mono kb.size)
                      have k78 := k7.below hb8 k7.lt
                      have k148 := k14.below hb8 k14.lt
                      have ky8 := ky.below hb8
                      have ki8 := ki.below hb8
                      have k98 := k9.below hb8 k9.lt
                      have e0 := (kb8.cell (p := ⟨g, _, none⟩) hg0).trans HC0.out
                      have e1 := (kb8.cell (p := ⟨g, _, none⟩) hg0).trans HC1.out
                      have e2 := (kb8.cell (p := ⟨gc, _, none⟩) hgc).trans d1
                      have e3 := (kb8.cell (p := ⟨gt, _, none⟩) hgt).trans t1
                      clear k7 k14 ky ki k9 hb8 a0 a1 a2 d0 d1 t1 kb hFi
                      have his : i < s'.length := by rw [HS12.out]; omega
                      have z9 := arr_at k98 (List.getElem?_eq_getElem his)
                      have zf := k98.frozen i
                      generalize s'[i] = y9 at *
                      have hi12 : ((i : Nat) : Int) < 12 := by omega
                      have hil3 : ((i : Nat) : Int) < (len : Int) := by omega
                      have dq : (false == false) = true := rfl
                      have hKn : ∀ nq, Hid (Kept3 w p7 (p7 + 1) p14 len len A c B d A5 c5 B5 d5 im y (s'.set i z) ((w8.drewN nq).setCell ⟨p7 + 1, i, none⟩ (.int .i64 z))) := fun nq =>
                        ⟨(k78.drewN nq).far (p := ⟨p7 + 1, i, none⟩) (by show p7 ≠ p7 + 1; omega) _, (k148.drewN nq).far (p := ⟨p7 + 1, i, none⟩) (by show p14 ≠ p7 + 1; omega) _, own_im1 (k98.drewN nq) (by decide) (by decide) (own_dr ky8 nq) i _, own_im1 (k98.drewN nq) (by decide) (by decide) (own_dr ki8 nq) i _, box_arr (k98.drewN nq) i z, (below_drewN kb8 nq).setCell (p := ⟨p7 + 1, i, none⟩) (by show w.heap.size ≤ p7 + 1; omega) _⟩
                      have hSl : Hid ((s'.set i z).length = 12) := by unfold Hid; rw [List.length_set]; exact HS12.out
                      clear k78 k148 ky8 ki8 k98 kb8
                      go_wp2_with fail
                      go_quiet (fail)
                      go_wp2_with fail
                      go_roundw
                      case rel =>
                        first
                          | exact ⟨q + 1, s'.set i z, hqq, by go_num, hSn, hSl, hKn _⟩
                          | exact ⟨q + 1, hqq, by go_num, s'.set i z, hSn, hSl, hKn _⟩
                      case measure => simp [intOf]; omega
                    · have a1 := (kb.cell (p := ⟨g, _, none⟩) hg0).trans HC1.out
                      have hs' : lastF l cs s = s' := by
                        have := HSq.out
                        rw [List.drop_eq_nil_of_le (by have := HCL.out; omega)] at this
                        exact this.symm
                      have HH2 : Hid (Held l y s') := by
                        unfold Hid
                        rw [← hs']
                        exact held_tell HCk.out false cs im y s HH.out HFt.out
                      clear hs'
                      have e0 := k14.cell 0
                      have e1 := k14.cell 1
                      have f0 := k7.cell 0
                      have f1 := k7.cell 1
                      have f2 := k7.frozen 0
                      have f3 := k7.frozen 1
                      simp at e0 e1 f0 f1
                      have hKn : Hid (Kept w p7 (p7 + 1) len y s' ((wr.setCell ⟨p7, 0, none⟩ (.slice A5 len c5)).setCell ⟨p7, 1, none⟩ (.slice B5 len d5))) :=
                        ⟨A5, c5, B5, d5, two_set k7 _ _, own_im2 k7 (by decide) (by decide) ky _ _, (k9.far (p := ⟨p7, 0, none⟩) (by show p7 + 1 ≠ p7; omega) _).far (p := ⟨p7, 1, none⟩) (by show p7 + 1 ≠ p7; omega) _, (kb.setCell (p := ⟨p7, 0, none⟩) (by show w.heap.size ≤ p7; omega) _).setCell (p := ⟨p7, 1, none⟩) (by show w.heap.size ≤ p7; omega) _⟩
                      clear k7 k14 ky ki k9 kb HSq HS12
                      go_wp2_with fail
                      go_roundw
                      case rel =>
                        first
                          | exact ⟨k + 1, y, s', hltt, by go_num, HH2, hKn⟩
                          | exact ⟨k + 1, hltt, by go_num, y, s', HH2, hKn⟩
                      case measure => simp [intOf]; omega
          · have hvl : im.v.length = len := by rw [← HL.out]; exact HH.out.1
            have hbl : im.bad.length = len := by rw [← HL.out]; exact HH.out.2.1
            have hrt := held_right HCk.out HH.out
            have hRi : Calls Try.prog 27 #[.slice a len cap, .agg #[.slice A len c, .slice B len d]] wr fun e w' => e = .returned (.bool true) ∧ Below wr.heap.size wr w' := by
              have h := Right_any l a cap im A B c d wr (by rw [HL.out]; omega) (by omega) (by omega) (by rw [HL.out]; exact HCap.out) (RowF.below HT.out hbr) ho.nums ho.flags
              rw [hvl, hbl, HL.out, hrt] at h
              exact h
            have q0 := hb7.cell 0
            have q1 := hb7.cell 1
            simp at q0 q1
            have HVl := Lib.hid hvl
            have HBl := Lib.hid hbl
            clear hvl hbl hrt
            go_wp2_with fail
            refine hRi.mono ?_
            rintro e w4 ⟨rfl, hb4⟩
            have hbr4 := hbr.trans (hb4.mono hbr.size)
            have hb74 := hb7.below hb4 hb7.lt
            have hb94 := hb9.below hb4 hb9.lt
            have ho4 := ho.below hb4
            clear hb7 hb9 ho hbr hb4 hRi q0 q1 hltt
            go_wp2_with fail
            go_loopw [17] (fun i wz => ∃ j : Nat, j ≤ len ∧ i = .int .i64 j ∧ Hid (Box wz p7 28 #[.slice A len c, .slice B len d]) ∧ Hid (OwnIm w.heap.size wz im A c B d) ∧ Hid (Box wz (p7 + 1) 45 (arrC s)) ∧ Below w.heap.size w wz) (fun i _ => len - (intOf i).toNat)
            case atStart => exact ⟨0, by omega, rfl, hb74, ho4, hb94, hbr4⟩
            case round =>
              clear hb74 ho4 hb94 hbr4
              obtain ⟨j, hjl, rfl, HX, HO, H9, hbr⟩ := hrel
              by_cases hlt : j < len
              · have hji : j < l.length := by rw [HL.out]; exact hlt
                obtain ⟨g, off, rfl, hg, c0, c1, c2, c3⟩ := Tags.at4 (RowF.below HT.out hbr) hji
                obtain ⟨n, s1, s2, s3⟩ := HH.out.2.2.2 j l[j] (List.getElem?_eq_getElem hji)
                have hle := (check_ok HCk.out).2.1 j hji
                have z9 := arr_at H9.out s1
                have hjv : j < im.v.length := by rw [HVl.out]; exact hlt
                have hjb : j < im.bad.length := by rw [HBl.out]; exact hlt
                obtain ⟨gv, ov, rfl, hgv, cv⟩ := Nums.at1 HO.out.nums hjv
                obtain ⟨gb, ob, rfl, hgb, cb⟩ := Flags.at1 HO.out.flags hjb
                rw [List.getElem?_eq_getElem hjv] at s2
                rw [List.getElem?_eq_getElem hjb] at s3
                injection s2 with s2
                injection s3 with s3
                rw [s2] at cv
                rw [s3] at cb
                clear s1 s2 s3
                obtain ⟨p0, p1⟩ := im_at HX.out
                generalize l[j] = t at *
                obtain ⟨nm, out, lo, hi⟩ := t
                simp only at *
                have hnz : nearZ ⟨nm, out, lo, hi⟩ n = if n < lo then lo else if hi < n then hi else n := rfl
                have hcz : cutB ⟨nm, out, lo, hi⟩ n = (decide (n < lo) || decide (hi < n)) := rfl
                rw [hnz] at cv
                rw [hcz] at cb
                clear hnz hcz
                have hj12 : ((j : Nat) : Int) < 12 := by omega
                have hjlen : ((j : Nat) : Int) < (len : Int) := by omega
                have hlh : decide (hi < lo) = false := by simp; omega
                have hRel : ∀ q, Hid (Box (wr.drewN q) p7 28 #[.slice (some ⟨gv, ov, none⟩) len c, .slice (some ⟨gb, ob, none⟩) len d]) ∧ Hid (OwnIm w.heap.size (wr.drewN q) im (some ⟨gv, ov, none⟩) c (some ⟨gb, ob, none⟩) d) ∧ Hid (Box (wr.drewN q) (p7 + 1) 45 (arrC s)) ∧ Below w.heap.size w (wr.drewN q) := fun q => ⟨HX.out.drewN q, own_dr HO.out q, H9.out.drewN q, below_drewN hbr q⟩
                by_cases h1 : n < lo
                · have b1 : decide (n < lo) = true := by simpa using h1
                  have b2 : decide (hi < n) = false := by simp; omega
                  rw [if_pos h1] at cv
                  rw [b1, b2] at cb
                  clear h1 hle
                  simp only [Bool.true_or, Bool.true_and] at cb
                  as_aux_lemma =>
                    go_wp2_with fail
                    go_big_quiet (fail)
                    go_wp2_with fail
                    have hR := hRel nq
                    have p0' : (wr.drewN nq).cell? _ = _ := p0
                    have p1' : (wr.drewN nq).cell? _ = _ := p1
                    have z9' : (wr.drewN nq).cell? _ = _ := z9
                    have cv' : (wr.drewN nq).cell? _ = _ := cv
                    have cb' : (wr.drewN nq).cell? _ = _ := cb
                    have c1' : (wr.drewN nq).cell? _ = _ := c1
                    have c2' : (wr.drewN nq).cell? _ = _ := c2
                    have c3' : (wr.drewN nq).cell? _ = _ := c3
                    clear hRel HX HO H9 hbr p0 p1 z9 cv cb c0 c1 c2 c3
                    generalize wr.drewN nq = W2 at *
                    refine flat_region (by dsimp only [List.append_eq, List.cons_append, List.nil_append]) ?_
                    refine wp_region_quiet_lit (by kernel_rfl) (lexB_ok (by kernel_rfl) (by kernel_rfl) (by kernel_rfl)) ?_
                    iterate 11 go_big_quiet_step (fail)
                    as_aux_lemma =>
                      iterate 11 go_big_quiet_step (fail)
                      as_aux_lemma =>
                        iterate 11 go_big_quiet_step (fail)
                        as_aux_lemma =>
                          iterate 11 go_big_quiet_step (fail)
                          as_aux_lemma =>
                            iterate 11 go_big_quiet_step (fail)
                            as_aux_lemma =>
                              iterate 11 go_big_quiet_step (fail)
                              as_aux_lemma =>
                                iterate 11 go_big_quiet_step (fail)
                                as_aux_lemma =>
                                  iterate 11 go_big_quiet_step (fail)
                                  as_aux_lemma =>
                                    iterate 11 go_big_quiet_step (fail)
                                    as_aux_lemma =>
                                      repeat (go_big_quiet_step (fail))
                                      refine wpQuiet_nil ?_
                                      intro _ hw'
                                      obtain ⟨nq, hw''⟩ := hw'
                                      subst hw''
                                      go_wp2_with fail
                                      go_roundw
                                      case rel => exact ⟨j + 1, hlt, by go_num, hR.1.out.drewN _, own_dr hR.2.1.out _, hR.2.2.1.out.drewN _, below_drewN hR.2.2.2 _⟩
                                      case measure => simp [intOf]; omega
                · have b1 : decide (n < lo) = false := by simpa using h1
                  rw [if_neg h1] at cv
                  by_cases h2 : hi < n
                  · have b2 : decide (hi < n) = true := by simpa using h2
                    rw [if_pos h2] at cv
                    rw [b1, b2] at cb
                    clear h1 h2 hle
                    simp only [Bool.or_true, Bool.true_and] at cb
                    as_aux_lemma =>
                      go_wp2_with fail
                      go_big_quiet (fail)
                      go_wp2_with fail
                      have hR := hRel nq
                      have p0' : (wr.drewN nq).cell? _ = _ := p0
                      have p1' : (wr.drewN nq).cell? _ = _ := p1
                      have z9' : (wr.drewN nq).cell? _ = _ := z9
                      have cv' : (wr.drewN nq).cell? _ = _ := cv
                      have cb' : (wr.drewN nq).cell? _ = _ := cb
                      have c1' : (wr.drewN nq).cell? _ = _ := c1
                      have c2' : (wr.drewN nq).cell? _ = _ := c2
                      have c3' : (wr.drewN nq).cell? _ = _ := c3
                      clear hRel HX HO H9 hbr p0 p1 z9 cv cb c0 c1 c2 c3
                      generalize wr.drewN nq = W2 at *
                      refine flat_region (by dsimp only [List.append_eq, List.cons_append, List.nil_append]) ?_
                      refine wp_region_quiet_lit (by kernel_rfl) (lexB_ok (by kernel_rfl) (by kernel_rfl) (by kernel_rfl)) ?_
                      iterate 11 go_big_quiet_step (fail)
                      as_aux_lemma =>
                        iterate 11 go_big_quiet_step (fail)
                        as_aux_lemma =>
                          iterate 11 go_big_quiet_step (fail)
                          as_aux_lemma =>
                            iterate 11 go_big_quiet_step (fail)
                            as_aux_lemma =>
                              iterate 11 go_big_quiet_step (fail)
                              as_aux_lemma =>
                                iterate 11 go_big_quiet_step (fail)
                                as_aux_lemma =>
                                  iterate 11 go_big_quiet_step (fail)
                                  as_aux_lemma =>
                                    iterate 11 go_big_quiet_step (fail)
                                    as_aux_lemma =>
                                      iterate 11 go_big_quiet_step (fail)
                                      as_aux_lemma =>
                                        repeat (go_big_quiet_step (fail))
                                        refine wpQuiet_nil ?_
                                        intro _ hw'
                                        obtain ⟨nq, hw''⟩ := hw'
                                        subst hw''
                                        go_wp2_with fail
                                        go_roundw
                                        case rel => exact ⟨j + 1, hlt, by go_num, hR.1.out.drewN _, own_dr hR.2.1.out _, hR.2.2.1.out.drewN _, below_drewN hR.2.2.2 _⟩
                                        case measure => simp [intOf]; omega
                  · have b2 : decide (hi < n) = false := by simpa using h2
                    rw [if_neg h2] at cv
                    rw [b1, b2] at cb
                    clear h1 h2 hle
                    simp only [Bool.or_false, Bool.false_and] at cb
                    as_aux_lemma =>
                      go_wp2_with fail
                      go_big_quiet (fail)
                      go_wp2_with fail
                      have hR := hRel nq
                      have p0' : (wr.drewN nq).cell? _ = _ := p0
                      have p1' : (wr.drewN nq).cell? _ = _ := p1
                      have z9' : (wr.drewN nq).cell? _ = _ := z9
                      have cv' : (wr.drewN nq).cell? _ = _ := cv
                      have cb' : (wr.drewN nq).cell? _ = _ := cb
                      have c1' : (wr.drewN nq).cell? _ = _ := c1
                      have c2' : (wr.drewN nq).cell? _ = _ := c2
                      have c3' : (wr.drewN nq).cell? _ = _ := c3
                      clear hRel HX HO H9 hbr p0 p1 z9 cv cb c0 c1 c2 c3
                      generalize wr.drewN nq = W2 at *
                      refine flat_region (by dsimp only [List.append_eq, List.cons_append, List.nil_append]) ?_
                      refine wp_region_quiet_lit (by kernel_rfl) (lexB_ok (by kernel_rfl) (by kernel_rfl) (by kernel_rfl)) ?_
                      iterate 11 go_big_quiet_step (fail)
                      as_aux_lemma =>
                        iterate 11 go_big_quiet_step (fail)
                        as_aux_lemma =>
                          iterate 11 go_big_quiet_step (fail)
                          as_aux_lemma =>
                            iterate 11 go_big_quiet_step (fail)
                            as_aux_lemma =>
                              iterate 11 go_big_quiet_step (fail)
                              as_aux_lemma =>
                                iterate 11 go_big_quiet_step (fail)
                                as_aux_lemma =>
                                  iterate 11 go_big_quiet_step (fail)
                                  as_aux_lemma =>
                                    iterate 11 go_big_quiet_step (fail)
                                    as_aux_lemma =>
                                      iterate 11 go_big_quiet_step (fail)
                                      as_aux_lemma =>
                                        repeat (go_big_quiet_step (fail))
                                        refine wpQuiet_nil ?_
                                        intro _ hw'
                                        obtain ⟨nq, hw''⟩ := hw'
                                        subst hw''
                                        go_wp2_with fail
                                        go_roundw
                                        case rel => exact ⟨j + 1, hlt, by go_num, hR.1.out.drewN _, own_dr hR.2.1.out _, hR.2.2.1.out.drewN _, below_drewN hR.2.2.2 _⟩
                                        case measure => simp [intOf]; omega
              · clear HX HO H9
                go_wp2_with fail
                go_ret
                exact ⟨rfl, hbr⟩
  · have hX : newT l = (none, checkT l) := by unfold newT; rw [if_neg hck]
    rw [hX] at HNw
    clear hX
    generalize checkT l = ck at *
    generalize l.length = len at *
    generalize ts.length = tn at *
    have bz : (ck != (0 : Int)) = true := by simpa using hck
    clear hck
    go_enter Try.func7, Try.ntmps7
    go_wp2_with fail
    refine (awake_any _).mono ?_
    rintro e w1 ⟨rfl, hB1⟩
    go_wp2_with fail
    refine (HSm w1 hB1).mono ?_
    rintro e w2 ⟨b, rfl, -, hb2⟩
    have hB2 := hB1.trans (hb2.mono hB1.size)
    clear hb2
    go_wp2_with fail
    refine (HNw w2 hB2).mono ?_
    rintro e w3 hP3
    obtain ⟨A, c, B, d, rfl, -, hb3⟩ := of_none hP3
    have hB3 := (hB2.trans (hb3.mono hB2.size)).alloc (Nat.le_trans hB2.size hb3.size) (.cells #[.slice A 0 c, .slice B 0 d] 28)
    cases b with
    | false =>
      go_wp2_with fail
      go_ret
      exact ⟨rfl, hB3⟩
    | true =>
      go_wp2_with fail
      go_ret
      exact ⟨rfl, hB3⟩
end Go.Proofs.Ytppffmmngomijaa.Tg
