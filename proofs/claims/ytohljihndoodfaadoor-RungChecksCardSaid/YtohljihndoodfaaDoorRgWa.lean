/-
  The contract of the scan's outcome.
-/
import Derived.Test.YtohljihndoodfaaDoorRgW9
namespace Go.Proofs.YtohljihndoodfaaDoor.Rg
open Go.RowKit Lx Ep

theorem rev_len {n : Nat} {m : List Bool} (h : m.length = n) : m.reverse.length = n := by rw [List.length_reverse]; exact h
/-- A box of another type is no row's own block. -/
theorem box_apart {w : World} {q : Nat} {t : TypeId} {cs : Array Value} (hx : Box w q t cs) {base n size c : Nat} {e : TypeId} {A : Option Addr} {xs : List Value} (he : e ≠ t) (h : w.ownsRow base e size (.slice A n c) n xs) : some q ≠ obk A := by
  rcases h.2 with ⟨h1, _⟩ | ⟨g, cap, cur, h1, _, hh, _⟩
  · injection h1 with h1
    subst h1
    intro hk; cases hk
  · injection h1 with h1
    subst h1
    intro hk
    injection hk with hk
    subst hk
    unfold Box at hx
    rw [hh] at hx
    simp at hx
    exact he hx.2
theorem stack_drop {N : List Nm} {bits : List Bool} {env : List (Nm × Int)} {l : List In} {k : Nat} (h : k < l.length) : stackP N bits env [] (l.take (k + 1)) = effP (l[k]).op (operandP N bits env l[k]) (stackP N bits env [] (l.take k)) := by
  unfold stackP
  rw [List.take_succ_eq_append_getElem h, List.foldl_append]
  rfl
/-- What the check says of an instruction that passes, and of those behind it. -/
theorem code_go {N : List Nm} {tag : Nm → Bool} {l : List In} {k : Nat} {d : Int} (h : k < l.length) (hc : codeGo N tag d (l.drop k) = 0) :
    insP N tag l[k] = 0 ∧ takesP (l[k]).op ≤ d ∧ d + (1 - takesP (l[k]).op) ≤ 8 ∧ codeGo N tag (d + (1 - takesP (l[k]).op)) (l.drop (k + 1)) = 0 := by
  rw [codeGo_drop h] at hc
  by_cases h0 : insP N tag l[k] = 0
  · rw [if_pos h0] at hc
    by_cases h1 : d < takesP (l[k]).op
    · rw [if_pos h1] at hc; omega
    · rw [if_neg h1] at hc
      by_cases h2 : 8 < d + (1 - takesP (l[k]).op)
      · rw [if_pos h2] at hc; omega
      · rw [if_neg h2] at hc
        exact ⟨h0, by omega, by omega, hc⟩
  · rw [if_neg h0] at hc
    exact absurd hc h0
theorem code_end {N : List Nm} {tag : Nm → Bool} {d : Int} (hc : codeGo N tag d [] = 0) : d = 1 := by
  unfold codeGo at hc
  by_cases h : d = 1
  · exact h
  · rw [if_neg h] at hc; omega

def OcRel (N : List Nm) (bits : List Bool) (env : List (Nm × Int)) (tag : Nm → Bool) (l : List In) (len : Nat) (w : World) (v i : Value) (wr : World) : Prop :=
  ∃ (k n : Nat) (A : Option Addr) (c : Nat) (m : List Bool), k ≤ len ∧ i = .int .i64 (k : Int) ∧ v = .slice A n c ∧ n ≤ 8 ∧ Hid (m.length = n) ∧ Hid (m.reverse = stackP N bits env [] (l.take k)) ∧ Hid (codeGo N tag (n : Int) (l.drop k) = 0) ∧ Hid (RowB w.heap.size wr A c m) ∧ Hid (Below w.heap.size w wr)
def Six (w' : World) (q : Nat) (i : In) (m : Nat) : Prop := w'.cell? ⟨q, 0, none⟩ = some (.int .i64 i.op) ∧ w'.cell? ⟨q, 1, none⟩ = some (.string ⟨i.nm.toArray⟩) ∧ w'.cell? ⟨q, 2, none⟩ = some (.int .i64 i.e.op) ∧ w'.cell? ⟨q, 3, none⟩ = some (.int .i64 i.e.n) ∧ w'.cell? ⟨q, 4, none⟩ = some (.string ⟨i.e.name.toArray⟩) ∧ w'.cell? ⟨q, 5, none⟩ = some (.slice i.ea m i.ec)

set_option maxRecDepth 100000 in
set_option maxHeartbeats 8000000 in
theorem outcome_any (p : Nat) (NA BA EA HA PA : Option Addr) (nc bc hn hc pn pc : Nat) (en ec : Nat) (N : List Nm) (bits : List Bool) (env : List (Nm × Int)) (tag : Nm → Bool) (l : List In) (CA : Option Addr) (cap : Nat) (w : World) (hT : Tabs w) (hB : Box w p 68 (scanC NA N.length nc BA bits.length bc EA en ec HA hn hc PA pn pc))
    (hN : Strs w NA N) (hBi : Bools w BA bits) (hE : EnvV w env (.slice EA en ec)) (hC : Code w CA l) (hlN : N.length ≤ 1000000) (hlB : bits.length = N.length) (hgo : codeGo N tag 0 l = 0) (hll : l.length ≤ 1000) :
    Calls Tryd.prog 34 #[.pointer (some ⟨p, 0, none⟩), .slice CA l.length cap] w (BoolPost (outP N bits env l) w) := by
  have HOp : Hid (∀ (i : In) wx, Below w.heap.size w wx → TrE wx i → insP N tag i = 0 → Calls Tryd.prog 48 #[.pointer (some ⟨p, 0, none⟩), insV i] wx (BoolPost (operandP N bits env i) wx)) := fun i wx hb hI h0 =>
    operand_any p NA BA EA HA PA nc bc hn hc pn pc en ec N bits env i wx (hT.below hb) (hB.below hb hB.lt) (hN.below hb) (hBi.below hb) (hE.below hb (Nat.le_refl _)) hI hlN hlB (formed_op (insP_formed h0)) (insP_bit h0)
  have HC := Lib.hid hC
  clear hT hB hN hBi hE hC
  generalize hL : l.length = len at *
  have HL := Lib.hid hL
  clear hL
  have HO : Hid (outP N bits env l = (stackP N bits env [] l).headD false) := rfl
  generalize outP N bits env l = X at *
  go_enter Tryd.func34, Tryd.ntmps34
  go_wp2
  go_loopw [5, 10] (OcRel N bits env tag l len w) (fun _ i _ => len - (intOf i).toNat)
  case atStart => exact ⟨0, 0, none, 0, [], by omega, rfl, rfl, by omega, rfl, rfl, hgo, RowB.nil_ _ _, Below.refl _ _⟩
  case round =>
    obtain ⟨k, n, A, c, m, hkl, rfl, rfl, hn8, HM, HSt, HG, HR, HB⟩ := hrel
    by_cases hlt : k < len
    · have hki : k < l.length := by rw [HL.out]; exact hlt
      obtain ⟨g, off, rfl, hg, hE, c0, c1, c2, c3, c4, c5⟩ := Code.at6 (HC.out.below HB.out) hki
      obtain ⟨hi0, hi1, hi2, hi3⟩ := code_go hki HG.out
      have HS2 := Lib.hid (stack_drop (N := N) (bits := bits) (env := env) hki)
      have HI := Lib.hid (HOp.out l[k])
      generalize l[k] = i at *
      have hfo := formed_op (insP_formed hi0)
      have hklt : ((k : Nat) : Int) < (len : Int) := by omega
      generalize hw1 : wr.alloc (.cells #[.int .i64 i.op, .string ⟨i.nm.toArray⟩, .int .i64 i.e.op, .int .i64 i.e.n, .string ⟨i.e.name.toArray⟩, .slice i.ea i.e.kids.length i.ec] 40) = w1
      have hx1 : Box w1 wr.heap.size 40 #[.int .i64 i.op, .string ⟨i.nm.toArray⟩, .int .i64 i.e.op, .int .i64 i.e.n, .string ⟨i.e.name.toArray⟩, .slice i.ea i.e.kids.length i.ec] := by rw [← hw1]; exact Box.new _ _ _
      have hb1 : Below w.heap.size w w1 := by rw [← hw1]; exact HB.out.alloc HB.out.size _
      have hbr : Below wr.heap.size wr w1 := by rw [← hw1]; exact (Below.refl _ wr).alloc (Nat.le_refl _) _
      have hR1 : RowB w.heap.size w1 A c m := HR.out.below hbr
      have HE1 := Lib.hid (hE.below hbr)
      have HIc := Lib.hid (HI.out)
      have HEf : Hid (∀ (x : Bool) wx, RowB w.heap.size wx A c m → w.heap.size ≤ wx.heap.size → Calls Tryd.prog 47 #[.slice A n c, .int .i64 i.op, .bool x] wx (StkPost w.heap.size (obk A) (effP i.op x m.reverse).reverse wx)) := fun x wx hr hs => by
        have e := effect_any i.op x m A c w.heap.size wx hfo.1 hfo.2 hr (by rw [HM.out]; omega) hs (by rw [HM.out]; exact hi1)
        rw [HM.out] at e
        exact e
      have HLn : Hid (∀ x, (effP i.op x m.reverse).reverse.length = (n + 1 - (takesP i.op).toNat)) := fun x => by
        have := effP_len x (s := m.reverse) hfo.1 hfo.2 (by rw [List.length_reverse, HM.out]; exact hi1)
        rw [List.length_reverse, HM.out] at this
        rw [List.length_reverse]
        have := takesP_012 i.op
        omega
      have hn2 : ((n + 1 - (takesP i.op).toNat : Nat) : Int) = n + (1 - takesP i.op) := by have := takesP_012 i.op; omega
      have HG2 : Hid (codeGo N tag ((n + 1 - (takesP i.op).toNat : Nat) : Int) (l.drop (k + 1)) = 0) := by unfold Hid; rw [hn2]; exact hi3
      have hn28 : n + 1 - (takesP i.op).toNat ≤ 8 := by omega
      have HSt2 : Hid (effP i.op (operandP N bits env i) m.reverse = stackP N bits env [] (l.take (k + 1))) := by unfold Hid; rw [HS2.out, HSt.out]
      have HI0 := Lib.hid hi0
      clear HS2 HSt HI hi0 hi1 hi2 hi3 hn2 hfo hE HG
      generalize n + 1 - (takesP i.op).toNat = n2 at *
      generalize operandP N bits env i = ov at *
      generalize hkm : i.e.kids.length = km at *
      have key : ∀ w', Below w1.heap.size w1 w' → Six w' wr.heap.size i km := fun w' hb => ⟨(hx1.below hb hx1.lt).cell 0, (hx1.below hb hx1.lt).cell 1, (hx1.below hb hx1.lt).cell 2, (hx1.below hb hx1.lt).cell 3, (hx1.below hb hx1.lt).cell 4, (hx1.below hb hx1.lt).cell 5⟩
      have hd := below_drew (Below.refl w1.heap.size w1)
      have cd := key _ hd
      have HOp1 := HIc.out _ (below_drew hb1) (HE1.out.below (below_drew (Below.refl _ _))) HI0.out
      have hap := box_apart hx1 (by decide) hR1
      unfold insV at HOp1
      rw [hkm] at HOp1
      unfold Six at key cd
      clear HIc HE1 HI0 hkm HR HM
      go_wp2_with fail
      clear hw1
      go_region_held (fun w' => w'.cell? ⟨wr.heap.size, 0, none⟩ = some (.int .i64 i.op) ∧ w'.cell? ⟨wr.heap.size, 1, none⟩ = some (.string ⟨i.nm.toArray⟩) ∧ w'.cell? ⟨wr.heap.size, 2, none⟩ = some (.int .i64 i.e.op) ∧ w'.cell? ⟨wr.heap.size, 3, none⟩ = some (.int .i64 i.e.n) ∧ w'.cell? ⟨wr.heap.size, 4, none⟩ = some (.string ⟨i.e.name.toArray⟩) ∧ w'.cell? ⟨wr.heap.size, 5, none⟩ = some (.slice i.ea km i.ec)) (first | exact cd | exact e1 | exact e2 | assumption) (first
        | (go_at_call 48; refine HOp1.mono ?_; rintro e w4 ⟨rfl, hb4⟩; have h4 := hd.trans (hb4.mono hd.size); have e1 := key _ h4)
        | (go_at_call 47; refine (HEf.out ov w4 (hR1.below h4) (hb1.trans (h4.mono hb1.size)).size).mono ?_; rintro e w5 ⟨A5, c5, rfl, hr5, hb5, hg5⟩; have hx5 := (hx1.below h4 hx1.lt).grown hg5 hap; have e2 := And.intro (hx5.cell 0) (And.intro (hx5.cell 1) (And.intro (hx5.cell 2) (And.intro (hx5.cell 3) (And.intro (hx5.cell 4) (hx5.cell 5)))))))
      all_goals
        have HF : Hid (OcRel N bits env tag l len w (.slice A5 (effP i.op ov m.reverse).reverse.length c5) (.int .i64 ((k + 1 : Nat) : Int)) w5) := ⟨k + 1, n2, A5, c5, _, by omega, rfl, by rw [HLn.out], hn28, HLn.out ov, by rw [List.reverse_reverse]; exact HSt2.out, HG2.out, hr5, (hb1.trans (h4.mono hb1.size)).trans hb5⟩
        clear hr5 hb5 hg5 hx5 e2 HEf HLn HSt2 HG2 hd cd key hx1 hap hb1 hbr hb4 h4 e1 HOp1
        go_wp2
        go_roundw
        case rel =>
          have h := HF.out
          rw [List.length_reverse] at h
          exact h
        case measure => simp [intOf]; omega
    · have hk : k = len := by omega
      have e1 : l.take k = l := List.take_of_length_le (by rw [HL.out]; omega)
      have e2 := HG.out
      rw [List.drop_eq_nil_of_le (by rw [HL.out]; omega)] at e2
      have hn1 := code_end e2
      have hn1' : n = 1 := by omega
      subst hn1'
      rw [e1] at HSt
      obtain ⟨m0, t, rfl⟩ := rev_one (m := m) (by rw [HM.out]; omega)
      have hm0 : m0 = [] := by have := HM.out; simp at this; exact this
      subst hm0
      have HX : Hid (X = t) := by unfold Hid; rw [HO.out, ← HSt.out]; rfl
      obtain ⟨g, rfl, -, hg, hc, hf, hcs⟩ := HR.out.form (by simp)
      have c0 := hcs 0 (by simp)
      simp at c0
      clear hcs hf hc hk e1 e2 hn1 HSt HG HM HR HO HOp
      go_wp2
      go_ret
      exact ⟨ret_bool HX.out.symm, HB.out⟩
end Go.Proofs.YtohljihndoodfaaDoor.Rg
