/-
  LexJoins: a text and another one behind a line feed are cut to the tokens of both, the second ones' places further on. For every input (texts of more than 2000 bytes: the law asks nothing of them); the library's tables as the program's text lays them.
-/
import Derived.Test.YtbbebnbofalmlaaDoorLexFrame
import Derived.Test.YtbbebnbofalmlaaDoorLexS
import Derived.Test.YtbbebnbofalmlaaDoorLexV
namespace Go.Proofs.YtbbebnbofalmlaaDoor.Lx
open Go.RowKit

theorem cat_feed (s t : ByteArray) : (s ++ ⟨#[10]⟩ ++ t).data.toList = s.data.toList ++ 10 :: t.data.toList := by simp
theorem toksC_left (a b : List Tok) (j : Nat) (u : Value) (h : (toksC a)[j]? = some u) : (toksC (a ++ b))[j]? = some u := by
  rw [toksC_append, List.getElem?_append_left (List.getElem?_eq_some_iff.1 h).1]; exact h
theorem toksC_len (a : List Tok) : (toksC a).length = a.length * 4 := by
  induction a with
  | nil => rfl
  | cons t a ih => rw [show toksC (t :: a) = tokC t ++ toksC a from by simp [toksC], List.length_append, ih]; simp [tokC]; omega
theorem toksC_one' (a : List Tok) : ∀ u ∈ toksC a, u.oneCell' = true := by
  intro u hu
  obtain ⟨t, _, h⟩ := List.mem_flatMap.1 hu
  exact tokC_one t u h
theorem own_below_cell {w : World} {base n c g : Nat} {L : List Tok} {e : TypeId} (h : w.ownsRow base e 4 (.slice (some ⟨g, 0, none⟩) n c) L.length (toksC L)) (j : Nat) (u : Value) (hu : (toksC L)[j]? = some u) : w.cell? ((⟨g, 0, none⟩ : Addr).add j) = some u :=
  h.cells (g := g) rfl j u hu

/-- The rounds that make the list of both. -/
def JRel (ts U : List Tok) (by_ : Nat) (w4 : World) (v i : Value) (wr : World) : Prop :=
  ∃ (k : Nat) (A : Option Addr) (cap : Nat), k ≤ U.length ∧ v = .slice A (ts.length + k) cap ∧ i = .int .i64 k ∧
    wr.ownsRow w4.heap.size 42 4 v (ts.length + k) (toksC (ts ++ mv by_ (U.take k))) ∧ Below w4.heap.size w4 wr

set_option maxRecDepth 100000 in
set_option maxHeartbeats 8000000 in
theorem joins_walk (s t : ByteArray) (w : World) (hs : s.size ≤ 9223372036854775807) (ht : t.size ≤ 9223372036854775807) (hT : Tab w) :
    Calls Tryd.prog 10 #[.string s, .string t] w fun e w' => e = .returned (.bool true) ∧ Below w.heap.size w w' := by
  by_cases hbig : 2000 < s.size ∨ 2000 < t.size
  · have hc : 2000 < s.size ∨ (s.size ≤ 2000 ∧ 2000 < t.size) := by omega
    clear hbig
    rcases hc with h | ⟨h, h'⟩
    all_goals
      go_enter Tryd.func10, Tryd.ntmps10
      go_wp2_with fail
      refine (awake_any _ hT).mono ?_
      rintro e w1 ⟨rfl, hb⟩
      go_wp2_with fail
      go_ret
      exact ⟨rfl, hb⟩
  · have hs1 : s.size ≤ 2000 := by omega
    have ht1 : t.size ≤ 2000 := by omega
    have hls : s.data.toList.length = s.size := Array.length_toList
    have hlt : t.data.toList.length = t.size := Array.length_toList
    have hrs := rn_len s.data.toList
    have hrt := rn_len t.data.toList
    have hcj := cut_join s.data.toList t.data.toList (by omega) (by omega)
    rw [← cat_feed] at hcj
    rw [hls] at hrs
    rw [hlt] at hrt
    clear hls hlt hbig hs ht
    have d1 : decide ((2000 : Int) < s.size) = false := by simp; omega
    have d2 : decide ((2000 : Int) < t.size) = false := by simp; omega
    have hcat : (s ++ ⟨#[10]⟩ ++ t).size = s.size + 1 + t.size := by
      rw [ByteArray.size_append, ByteArray.size_append]; rfl
    have HCT := Lib.hid hcat
    clear hcat
    rcases hcj with ⟨he, hg⟩ | ⟨ts, us, q1, q2, q3⟩
    · have HE := Lib.hid he
      have HG := Lib.hid hg
      clear he hg
      go_enter Tryd.func10, Tryd.ntmps10
      go_wp2_with fail
      refine (awake_any _ hT).mono ?_
      rintro e w1 ⟨rfl, hb1⟩
      clear hT
      go_wp2_with fail
      refine (Cut_any s _ (by omega)).mono ?_
      rintro e w2 ⟨v, rfl, hown, hb2⟩
      obtain ⟨A, c, rfl⟩ := ownsRow_slice hown
      have hb12 := hb1.trans (hb2.mono hb1.size)
      clear hown hb1 hb2
      generalize cutL s.data.toList = X at *
      go_wp2_with fail
      refine (Cut_any t _ (by omega)).mono ?_
      rintro e w3 ⟨v, rfl, hown, hb3⟩
      obtain ⟨A', c', rfl⟩ := ownsRow_slice hown
      have hb13 := hb12.trans (hb3.mono hb12.size)
      clear hown hb12 hb3
      generalize cutL t.data.toList = Y at *
      go_wp2_with fail
      refine (Cut_any _ _ (by rw [HCT.out]; omega)).mono ?_
      rintro e w4 ⟨v, rfl, hown, hb4⟩
      obtain ⟨A'', c'', rfl⟩ := ownsRow_slice hown
      have hb14 := hb13.trans (hb4.mono hb13.size)
      clear hown hb13 hb4
      generalize cutL (s ++ ⟨#[10]⟩ ++ t).data.toList = Z at *
      obtain ⟨X1, X2, X3⟩ := X
      obtain ⟨Y1, Y2, Y3⟩ := Y
      obtain ⟨Z1, Z2, Z3⟩ := Z
      simp only at *
      have hz : (Z2 != 0) = true := by rw [bne_iff_ne]; exact HG.out
      by_cases hx : X2 = 0
      · have hy : (Y2 != 0) = true := by
          rw [bne_iff_ne]
          rcases HE.out with h | h
          · exact absurd hx h
          · exact h
        have hx' : (X2 != 0) = false := by simp [hx]
        clear HE HG hx
        go_wp2_with fail
        go_ret
        exact ⟨rfl, hb14⟩
      · have hx' : (X2 != 0) = true := by simp [hx]
        clear HE HG hx
        go_wp2_with fail
        go_ret
        exact ⟨rfl, hb14⟩
    · have HQ1 := Lib.hid q1
      have HQ2 := Lib.hid q2
      clear q1 q2
      have hTs : Toks 0 (rn s.data.toList).length ts ∧ ts.length ≤ 2000 := by
        have h := HQ1.out
        rcases cut_run s.data.toList (by rw [show s.data.toList.length = s.size from Array.length_toList]; omega) with ⟨e, p, r1, r2, _⟩ | ⟨ts', r1, r2, r3, _⟩
        · rw [h] at r1; injection r1 with _ r1; injection r1 with r1; exact absurd r1.symm r2
        · rw [h] at r1
          injection r1 with r1
          have := (List.append_inj' r1 rfl).1
          subst this
          exact ⟨r2, r3⟩
      have hTu : Toks 0 (rn t.data.toList).length us ∧ us.length ≤ 2000 := by
        have h := HQ2.out
        rcases cut_run t.data.toList (by rw [show t.data.toList.length = t.size from Array.length_toList]; omega) with ⟨e, p, r1, r2, _⟩ | ⟨ts', r1, r2, r3, _⟩
        · rw [h] at r1; injection r1 with _ r1; injection r1 with r1; exact absurd r1.symm r2
        · rw [h] at r1
          injection r1 with r1
          have := (List.append_inj' r1 rfl).1
          subst this
          exact ⟨r2, r3⟩
      have htl := hTs.2
      have hul := hTu.2
      have HPl := Lib.hid (places_at us _ hTu.1)
      clear hTs hTu
      generalize (rn s.data.toList).length = a at *
      generalize (rn t.data.toList).length = b at *
      have hl1 : (ts ++ ([⟨0, [], 0, (a : Int)⟩] : List Tok)).length = ts.length + 1 := by simp
      have hl2 : (us ++ ([⟨0, [], 0, (b : Int)⟩] : List Tok)).length = us.length + 1 := by simp
      have hlast : (ts ++ ([⟨0, [], 0, (a : Int)⟩] : List Tok)).getD ts.length zTok = ⟨0, [], 0, (a : Int)⟩ := by
        rw [List.getD_eq_getElem?_getD, List.getElem?_append_right (Nat.le_refl _)]; simp
      have HA := Lib.hid hlast
      have HL1 := Lib.hid hl1
      have HL2 := Lib.hid hl2
      have HQ3 := Lib.hid q3
      clear hlast hl1 hl2 q3
      go_enter Tryd.func10, Tryd.ntmps10
      go_wp2_with fail
      refine (awake_any _ hT).mono ?_
      rintro e w1 ⟨rfl, hb1⟩
      clear hT
      go_wp2_with fail
      refine (Cut_any s _ (by omega)).mono ?_
      rintro e w2 ⟨v, rfl, hown1, hb2⟩
      rw [HQ1.out] at hown1 ⊢
      simp only at hown1 ⊢
      obtain ⟨A1, c1, rfl⟩ := ownsRow_slice hown1
      rw [HL1.out] at hown1 ⊢
      obtain ⟨g1, cc1, e1, _, hgl1⟩ := hown1.form (by omega)
      injection e1 with e1 _ _
      subst e1
      have hcap1 : ts.length + 1 ≤ c1 := by
        have h := hown1
        rw [← HL1.out] at h
        have := (own_toks h).2.1
        rw [HL1.out] at this
        exact this
      have hb12 := hb1.trans (hb2.mono hb1.size)
      clear hb1 hb2
      have HO1 := Lib.hid hown1
      clear hown1
      go_wp2_with fail
      refine (Cut_any t _ (by omega)).mono ?_
      rintro e w3 ⟨v, rfl, hown2, hb3⟩
      rw [HQ2.out] at hown2 ⊢
      simp only at hown2 ⊢
      obtain ⟨A2, c2, rfl⟩ := ownsRow_slice hown2
      rw [HL2.out] at hown2 ⊢
      obtain ⟨g2, cc2, e2, _, hgl2⟩ := hown2.form (by omega)
      injection e2 with e2 _ _
      subst e2
      have hcap2 : us.length + 1 ≤ c2 := by
        have h := hown2
        rw [← HL2.out] at h
        have := (own_toks h).2.1
        rw [HL2.out] at this
        exact this
      have HO1' := Lib.hid (ownsRow_below HO1.out hb3)
      have hb13 := hb12.trans (hb3.mono hb12.size)
      have hgl1' : g1 < w3.heap.size := Nat.lt_of_lt_of_le hgl1 hb3.size
      clear hb12 hb3 HO1
      have HO2 := Lib.hid hown2
      clear hown2
      go_wp2_with fail
      refine (Cut_any _ _ (by rw [HCT.out]; omega)).mono ?_
      rintro e w4 ⟨v, rfl, hown3, hb4⟩
      have HO1'' := Lib.hid (ownsRow_below HO1'.out hb4)
      have HO2' := Lib.hid (ownsRow_below HO2.out hb4)
      have hb14 := hb13.trans (hb4.mono hb13.size)
      have hgl1'' : g1 < w4.heap.size := Nat.lt_of_lt_of_le hgl1' hb4.size
      have hgl2' : g2 < w4.heap.size := Nat.lt_of_lt_of_le hgl2 hb4.size
      clear hb13 hb4 HO1' HO2
      rcases HQ3.out with ⟨hsum, hZ⟩ | ⟨hsum, p, hZ⟩
      · rw [hZ] at hown3 ⊢
        simp only at hown3 ⊢
        obtain ⟨A3, c3, rfl⟩ := ownsRow_slice hown3
        have HO3 := Lib.hid hown3
        clear hown3 HQ3 hZ HQ1 HQ2
        have t1 : ((ts.length : Int) + 1 == 0) = false := beq_eq_false_iff_ne.2 (by omega)
        have t2 : ((us.length : Int) + 1 == 0) = false := beq_eq_false_iff_ne.2 (by omega)
        have t3 : decide ((2000 : Int) < (ts.length : Int) + 1 + ((us.length : Int) + 1) - 2) = false := by simp; omega
        generalize hZl : (ts ++ mv (a + 1) us ++ ([⟨0, [], 0, ((a + 1 + b : Nat) : Int)⟩] : List Tok)).length = nz at *
        have HZL := Lib.hid hZl
        clear hZl
        obtain ⟨inf, hinf, hz0, hz1, hz2⟩ := info_parts info_tok
        go_wp2_with (at_builtin; refine wpList_append_own _ rfl _ _ 23 rfl w4.heap.size 42 inf (.agg #[.int .i64 0, .string ⟨#[]⟩, .int .i64 0, .int .i64 0]) 4 40 Tryd.underlying23 hinf hz0 hz1 hz2 rfl (by decide) _ _ _ rfl (World.ownsRow_nil w4 w4.heap.size 42 4) ⟨g1, 0, none⟩ ts.length _ (toksC ts) rfl (toksC_len ts) ?c1 ?c2 ?c3 ?c4 ?c5 ?_)
        case c1 => exact fun j u hu => HO1''.out.cells (g := g1) rfl j u (toksC_left _ _ j u hu)
        case c2 => exact toksC_one' ts
        case c3 => unfold maxLen; omega
        case c4 => omega
        case c5 => exact Nat.le_refl _
        intro v' w5 hown5 hg5 _
        obtain ⟨A5, c5, rfl⟩ := ownsRow_slice hown5
        have hb45 : Below w4.heap.size w4 w5 := (Below.refl _ w4).grown hg5 (Nat.le_refl _) (fun k hk => by simp [Value.ownBlock] at hk)
        have hcl : w5.cell? ⟨g1, ts.length * 4 + 3, none⟩ = some (.int .i64 (a : Int)) := by
          rw [hb45.cell (p := ⟨g1, ts.length * 4 + 3, none⟩) hgl1'']
          have h := HO1''.out
          rw [← HL1.out] at h
          obtain ⟨_, _, hr⟩ := own_toks h
          obtain ⟨g, eg, _, hc⟩ := hr (by rw [HL1.out]; omega)
          injection eg with eg
          injection eg with eg
          subst eg
          have := (hc ts.length (by rw [HL1.out]; omega)).2.2.2
          rw [HA.out] at this
          exact this
        have HO5 := Lib.hid hown5
        clear hown5 hg5
        go_wp2_with fail
        clear hcl
        go_loopw [15, 17] (JRel ts (us ++ ([⟨0, [], 0, (b : Int)⟩] : List Tok)) (a + 1) w4) (fun _ i _ => us.length + 1 - (intOf i).toNat)
        case atStart => exact ⟨0, A5, c5, by omega, rfl, rfl, by simpa [mv] using HO5.out, hb45⟩
        case round =>
          clear HO5 hb45
          obtain ⟨k, A, cap, hk, rfl, rfl, hown, hbr⟩ := hrel
          rw [HL2.out] at hk
          have HO := Lib.hid hown
          clear hown
          by_cases hlt : k < us.length + 1
          · have hc2 : ∀ q, (_ : q < us.length + 1) → wr.cell? ⟨g2, q * 4, none⟩ = some (.int .i64 ((us ++ ([⟨0, [], 0, (b : Int)⟩] : List Tok)).getD q zTok).kind) ∧ wr.cell? ⟨g2, q * 4 + 1, none⟩ = some (.string ⟨((us ++ ([⟨0, [], 0, (b : Int)⟩] : List Tok)).getD q zTok).text.toArray⟩) ∧
                wr.cell? ⟨g2, q * 4 + 2, none⟩ = some (.int .i64 ((us ++ ([⟨0, [], 0, (b : Int)⟩] : List Tok)).getD q zTok).n) ∧ wr.cell? ⟨g2, q * 4 + 3, none⟩ = some (.int .i64 ((us ++ ([⟨0, [], 0, (b : Int)⟩] : List Tok)).getD q zTok).at_) := by
              intro q hq
              have h := HO2'.out
              rw [← HL2.out] at h
              obtain ⟨_, _, hr⟩ := own_toks h
              obtain ⟨g, eg, _, hc⟩ := hr (by rw [HL2.out]; omega)
              injection eg with eg
              injection eg with eg
              subst eg
              obtain ⟨x0, x1, x2, x3⟩ := hc q (by rw [HL2.out]; exact hq)
              exact ⟨(hbr.cell (p := ⟨g2, q * 4, none⟩) hgl2').trans x0, (hbr.cell (p := ⟨g2, q * 4 + 1, none⟩) hgl2').trans x1, (hbr.cell (p := ⟨g2, q * 4 + 2, none⟩) hgl2').trans x2, (hbr.cell (p := ⟨g2, q * 4 + 3, none⟩) hgl2').trans x3⟩
            obtain ⟨x0, x1, x2, x3⟩ := hc2 k hlt
            clear hc2
            obtain ⟨p1, p2, _, _⟩ := HPl.out k hlt
            have HM : Hid (ts ++ mv (a + 1) ((us ++ ([⟨0, [], 0, (b : Int)⟩] : List Tok)).take (k + 1)) = ts ++ mv (a + 1) ((us ++ ([⟨0, [], 0, (b : Int)⟩] : List Tok)).take k) ++ [{ (us ++ ([⟨0, [], 0, (b : Int)⟩] : List Tok)).getD k zTok with at_ := ((us ++ ([⟨0, [], 0, (b : Int)⟩] : List Tok)).getD k zTok).at_ + ((a + 1 : Nat) : Int) }]) := by
              unfold Hid
              have hk2 : k < (us ++ ([⟨0, [], 0, (b : Int)⟩] : List Tok)).length := by rw [HL2.out]; exact hlt
              rw [List.take_succ_eq_append_getElem hk2, List.getD_eq_getElem?_getD, List.getElem?_eq_getElem hk2]
              unfold mv
              rw [List.map_append, List.append_assoc]
              rfl
            generalize us ++ ([⟨0, [], 0, (b : Int)⟩] : List Tok) = U at *
            generalize U.getD k zTok = x at *
            obtain ⟨xk, xt, xn, xa⟩ := x
            simp only at *
            have hszr : w4.heap.size ≤ wr.heap.size := hbr.size
            go_wp2_with (at_builtin; refine wpList_append_own _ rfl _ _ 23 rfl w4.heap.size 42 inf (.agg #[.int .i64 0, .string ⟨#[]⟩, .int .i64 0, .int .i64 0]) 4 40 Tryd.underlying23 hinf hz0 hz1 hz2 rfl (by decide) _ _ _ rfl ((HO.out.alloc _).alloc _) ⟨wr.heap.size + 1, 0, none⟩ 1 1 (tokC ⟨xk, xt, xn, xa + ((a + 1 : Nat) : Int)⟩) rfl rfl ?d1 ?d2 ?d3 ?d4 ?d5 ?_)
            case d1 => exact new_cells wr _ _ (tokC ⟨xk, xt, xn, xa + ((a : Int) + 1)⟩)
            case d2 => exact tokC_one _
            case d3 => unfold maxLen; omega
            case d4 => omega
            case d5 => simp; omega
            intro v' w6 hown6 hg6 _
            obtain ⟨A6, c6, rfl⟩ := ownsRow_slice hown6
            have hbr6 : Below w4.heap.size w4 w6 := ((hbr.alloc hszr _).alloc (by simp; omega) _).grown hg6 (by simp; omega) (fun q hq => (HO.out.lt _ hq).1)
            have hown7 : w6.ownsRow w4.heap.size 42 4 (.slice A6 (ts.length + k + 1) c6) (ts.length + (k + 1)) (toksC (ts ++ mv (a + 1) (U.take (k + 1)))) := by
              rw [HM.out, toksC_append, toksC_one]
              exact hown6
            have H7 := Lib.hid hown7
            clear hown6 hg6 hown7 x0 x1 x2 x3
            go_wp2_with fail
            go_roundw
            case rel => exact ⟨k + 1, A6, c6, by rw [HL2.out]; omega, rfl, by go_num, H7.out, hbr6⟩
            case measure => simp [intOf]; omega
          · obtain rfl : k = us.length + 1 := by omega
            have hfin : ts ++ mv (a + 1) ((us ++ ([⟨0, [], 0, (b : Int)⟩] : List Tok)).take (us.length + 1)) = ts ++ mv (a + 1) us ++ ([⟨0, [], 0, ((a + 1 + b : Nat) : Int)⟩] : List Tok) := by
              rw [List.take_of_length_le (by rw [HL2.out]; exact Nat.le_refl _)]
              unfold mv
              rw [List.map_append, List.append_assoc]
              congr 2
              show [({ kind := 0, text := [], n := 0, at_ := (b : Int) + ((a + 1 : Nat) : Int) } : Tok)] = _
              rw [show (b : Int) + ((a + 1 : Nat) : Int) = ((a + 1 + b : Nat) : Int) from by omega]
            have HW := HO.out
            rw [hfin] at HW
            have hzl2 : (ts ++ mv (a + 1) us ++ ([⟨0, [], 0, ((a + 1 + b : Nat) : Int)⟩] : List Tok)).length = ts.length + (us.length + 1) := by
              simp only [List.length_append, mv_length, List.length_cons, List.length_nil]; omega
            have HW3 := ownsRow_below HO3.out hbr
            generalize hZg : ts ++ mv (a + 1) us ++ ([⟨0, [], 0, ((a + 1 + b : Nat) : Int)⟩] : List Tok) = Z at *
            have HW' : wr.ownsRow w4.heap.size 42 4 (.slice A (ts.length + (us.length + 1)) cap) Z.length (toksC Z) := by rw [hzl2]; exact HW
            have HW3' : wr.ownsRow w3.heap.size 42 4 (.slice A3 nz c3) Z.length (toksC Z) := by rw [HZL.out]; exact HW3
            have HS := Lib.hid (Same_own (by rw [hzl2]; omega) HW3' HW')
            clear HW HW3 HW' HW3' hfin HO hzl2 hZg
            have hbf := hb14.trans (hbr.mono hb14.size)
            go_wp2_with fail
            (with_reducible refine HS.out.mono ?_)
            rintro e w7 ⟨rfl, hb7⟩
            have hbf7 := hbf.trans (hb7.mono hbf.size)
            go_wp2_with fail
            go_ret
            exact ⟨rfl, hbf7⟩
      · rw [hZ] at hown3 ⊢
        simp only at hown3 ⊢
        obtain ⟨A3, c3, rfl⟩ := ownsRow_slice hown3
        clear hown3 HQ3 hZ HQ1 HQ2
        have t1 : ((ts.length : Int) + 1 == 0) = false := beq_eq_false_iff_ne.2 (by omega)
        have t2 : ((us.length : Int) + 1 == 0) = false := beq_eq_false_iff_ne.2 (by omega)
        go_wp2_with fail
        go_ret
        exact ⟨rfl, hb14⟩
end Go.Proofs.YtbbebnbofalmlaaDoor.Lx
namespace Go.Proofs.YtbbebnbofalmlaaDoor.LexJoins
open Go.ChangeShapes Go.WideShapes Go.ChangeAt Go.RowKit Lx

theorem contract (H : Type) (enc : TypeId × Value → H) (W : World) (base : Nat) (args : Array Value) (ds gs : List (DataW H)) (before : List MemPlace)
    (hval : ∀ (j : Nat) t v, Tryd.f10.params[j]? = some t → args[j]? = some v → Value.okWide Tryd.prog W .any base t v)
    (hW : DataW.Whole enc Tryd.prog Tryd.f10.params.toList Rows.lexJoinsSpec.vars false W args.toList ds gs before) (hL : laidMetH Tryd.prog Rows.lexJoinsRow.laid W) :
    Calls Tryd.prog 10 args W fun e W' => ∃ v, e = .returned v ∧ Rows.lexJoinsSpec.post enc Tryd.prog Tryd.f10 false true false false W args v W' := by
  have hW' := hW
  obtain ⟨p, q, hA0, hV, rfl, hfz, hnd⟩ := hW
  have hA : DataW.TrodAll enc Tryd.prog W 0 (fun _ => true) true Tryd.f10.params.toList args.toList ds p := hA0
  rw [Tryd.params10] at hA hval
  obtain ⟨v0, vs0, d0, ds0, p0, q0, hargs, rfl, rfl, h0, r0⟩ := trodAll_cons hA
  obtain ⟨v1, vs1, d1, ds1, p1, q1, rfl, rfl, rfl, h1, r1⟩ := trodAll_cons r0
  obtain ⟨rfl, rfl, rfl⟩ := trodAll_nil r1
  obtain rfl : args = #[v0, v1] := by cases args; simp_all
  obtain ⟨rfl, rfl⟩ := trodVars_none hV
  obtain ⟨x0, rfl, rfl, rfl, w0⟩ := Go.ChangeMaps.open_string Tryd.underlying9 (hval 0 9 v0 rfl rfl) h0
  obtain ⟨x1, rfl, rfl, rfl, w1⟩ := Go.ChangeMaps.open_string Tryd.underlying9 (hval 1 9 v1 rfl rfl) h1
  clear hA0
  refine (joins_walk x0 x1 W (by unfold maxLen at w0; exact w0) (by unfold maxLen at w1; exact w1) (table hL)).mono fun e W' h => ?_
  obtain ⟨rfl, hb⟩ := h
  exact ⟨_, rfl, _, _, _, [], [], [], hW', trodAll_cons_mk (shut_bool Tryd.underlying4 _) trodAll_mk0, (trodAll_cons_mk (Go.ChangeMaps.shut_string Tryd.underlying9 w0) (trodAll_cons_mk (Go.ChangeMaps.shut_string Tryd.underlying9 w1) trodAll_mk0)), rfl, hb.frame _, fun h => by cases h⟩

theorem laid_met (os : Os) : laidMet Tryd.prog Rows.lexJoinsRow.laid ((laidWorld os).forCall (fun _ _ => 0) ⟨#[], #[.string ⟨#[]⟩, .string ⟨#[]⟩], []⟩).memory :=
  laidMet_of_run' 8 (by kernel_rfl) (by kernel_rfl)
theorem reads (os : Os) {H : Type} (enc : TypeId × Value → H) : ∃ places, DataW.whole enc Tryd.prog ((laidWorld os).forCall (fun _ _ => 0) ⟨#[], #[.string ⟨#[]⟩, .string ⟨#[]⟩], []⟩).memory Tryd.f10.params.toList Rows.lexJoinsSpec.vars false #[Value.string ⟨#[]⟩, Value.string ⟨#[]⟩].toList 8 = some ([.lit (.string []), .lit (.string [])], [], places) :=
  ⟨[], by kernel_rfl⟩

set_option maxRecDepth 100000 in
theorem lifted (os : Os) (started : os.Started) (H : Type) (enc : TypeId × Value → H) (F : Stop.Interp) :
    ReturnsInHanded {} Tryd.checked os 10 .any ((OpenSpec.ofChange Rows.lexJoinsSpec).preRow enc Tryd.prog Tryd.f10 Rows.lexJoinsRow.domain false Rows.lexJoinsRow.laid) (((OpenSpec.ofChange Rows.lexJoinsSpec).at F).post enc Tryd.prog Tryd.f10 false true false false) := by
  obtain ⟨places, hx⟩ := reads os enc
  refine returnsInHanded_of_row (C := Tryd.checked) (s := OpenSpec.ofChange Rows.lexJoinsSpec) own started (by kernel_rfl) Tryd.func10
    (witness_row_at (enc := enc) (C := Tryd.checked) false (laidWorld os) #[.string ⟨#[]⟩, .string ⟨#[]⟩] rfl (by kernel_rfl) (by kernel_rfl) (by kernel_rfl)
      (OpenSpec.preRow_of_cond 8 hx (by kernel_rfl) (fun k hk => by cases hk) (by kernel_rfl) (laid_met os))) ?_
  intro W base args ds gs before hval hW _ _ _ hL _ _
  exact contract H enc W base args ds gs before hval hW hL

theorem said : Rows.LexJoinsSaid :=
  OpenClaim.holds_of_cond 10 Tryd.f10 rfl rfl rfl rfl rfl rfl rfl ⟨rfl, rfl, rfl, rfl, rfl⟩ rfl rfl rfl rfl rfl (by kernel_rfl) Tryd.func10 (by kernel_rfl)
    (of_decide_eq_true (by kernel_rfl)) (by unfold Func.isWrapper; first | (rw [if_pos (by decide +kernel)]; kernel_rfl) | (rw [if_neg (by decide +kernel)]; exact ⟨rfl, rfl⟩))
    (fun os started H enc _ F => by rw [OpenClaim.pre_eq_preRow]; exact lifted os started H enc F)

theorem plain (f : FuncId) (fn : Func) (hf : Tryd.pinned.checked.prog.funcNamed "malthouse/malthouselaw01.LexJoins" = some f) (hfn : Tryd.pinned.checked.prog.funcs[f]? = some fn) :
    false = Tryd.pinned.checked.prog.looks [] ∧ ∀ (j : Nat) t, fn.params[j]? = some t → Tryd.pinned.checked.prog.wantsStandIn t = false := by
  obtain rfl : f = 10 := Option.some.inj ((show Tryd.prog.funcNamed "malthouse/malthouselaw01.LexJoins" = some 10 by kernel_rfl).symm.trans hf) |>.symm
  obtain rfl : fn = Tryd.f10 := (Option.some.inj (Tryd.func10.symm.trans hfn)).symm
  refine ⟨by kernel_rfl, fun j t ht => ?_⟩
  rw [Tryd.params10] at ht
  have hm : t ∈ [9, 9] := by simpa using Array.mem_of_getElem? ht
  have h0 : Tryd.prog.wantsStandIn 9 = false := by kernel_rfl
  simp only [List.mem_cons, List.not_mem_nil, or_false, or_self] at hm
  subst hm
  exact h0

theorem card : Rows.LexJoinsCardSaid :=
  Claim7.holds_tied_plain_at .later [] _ _ _ _ said (fun _ h => by cases h) (by kernel_rfl) (fun _ h => by cases h) lexJoins_row_tie rfl ⟨rfl, rfl⟩ (by kernel_rfl) rfl plain (by kernel_rfl)
end Go.Proofs.YtbbebnbofalmlaaDoor.LexJoins
namespace Go.Proofs.YtbbebnbofalmlaaDoor
theorem lexJoins_holds : Rows.LexJoinsCardSaid := LexJoins.card
end Go.Proofs.YtbbebnbofalmlaaDoor
