/-
  Contracts of record and settle: the writes of a group, cut off anywhere.
-/
import Derived.Test.YtkklplccngdalaaWlW3
import Derived.StillTailTactics
namespace Go.Proofs.Ytkklplccngdalaa.Dk
open Go.RowKit

theorem still_of {P : Program} {f : Nat} {args : Array Value} {v : Value} {w : World} (h : Calls P f args w (Same v w)) : Calls P f args w (fun e w'' => e = .returned v ∧ w'' = w) := h.mono fun _ _ k => ⟨k.1, k.2.symm⟩

theorem still_tail {P : Program} {id : Nat} {Q : Exit → Act → World → Prop} {a : Act} {w : World} {l : List Oper} (n : Nat) (hm : P.follows .mixedOrders = true) (hB : Region.lexTailB .any l.toArray n = true)
    (h : ∀ W, W = w.drew → wpStill P l.toArray W (fun a' => wpList P l.toArray Q (l.drop n) a' W) (l.take n) a) : (Code.region id l.toArray true).wp P Q a w := wp_region_still_tail n hm hB (h _ rfl)

theorem wrap_small {n : Int} (h0 : 0 ≤ n) (h1 : n ≤ 1000000000) : IntKind.i64.wrap n = n := by
  have hm : n % 18446744073709551616 = n := Int.emod_eq_of_lt h0 (by omega)
  show (if (IntKind.i64.signed && decide (n % 18446744073709551616 ≥ 9223372036854775808)) = true then _ else n % 18446744073709551616) = _
  rw [hm, if_neg]
  have : ¬ n ≥ 9223372036854775808 := by omega
  simp [this]
theorem less_i64 {n : Int} (h : i64 n) : i64 (less n) := by unfold i64 less at *; split <;> omega
theorem write_left {d : Dsk} {k : Int} {b : List UInt8} (h : i64 d.left) : i64 (d.write k b).left := by
  unfold Dsk.write
  split
  · exact h
  · split
    · exact h
    · split
      · exact h
      · exact less_i64 h
theorem puts_left : ∀ (ws : List WI) {d : Dsk}, i64 d.left → i64 (puts d ws).left
  | [], _, h => h
  | x :: r, d, h => puts_left r (d := d.write (x.1 : Int) x.2) (write_left h)
theorem puts_len : ∀ (ws : List WI) (d : Dsk), (puts d ws).L.length = d.L.length
  | [], _ => rfl
  | x :: r, d => by
    show (puts (d.write (x.1 : Int) x.2) r).L.length = _
    rw [puts_len r, write_len]
theorem puts_wr : ∀ (ws : List WI) (d : Dsk), d.wr ≤ (puts d ws).wr ∧ (puts d ws).wr ≤ d.wr + ws.length
  | [], d => by show d.wr ≤ d.wr ∧ d.wr ≤ d.wr + 0; omega
  | x :: r, d => by
    have h1 := puts_wr r (d.write (x.1 : Int) x.2)
    have h2 := write_wr d (x.1 : Int) x.2
    show d.wr ≤ (puts (d.write (x.1 : Int) x.2) r).wr ∧ (puts (d.write (x.1 : Int) x.2) r).wr ≤ d.wr + ((r.length + 1 : Nat) : Int)
    omega

theorem pre_map (f : Nat → WI) (k : Nat) : ∀ m, k ≤ m → ∃ r, (List.range m).map f = (List.range k).map f ++ r
  | 0, h => by
    obtain rfl : k = 0 := by omega
    exact ⟨[], by simp⟩
  | m + 1, h => by
    by_cases e : k = m + 1
    · subst e
      exact ⟨[], by simp⟩
    · obtain ⟨r, hr⟩ := pre_map f k m (by omega)
      exact ⟨r ++ [f m], by rw [List.range_succ, List.map_append, hr, List.append_assoc]; rfl⟩
theorem puts_pre {d : Dsk} {ws vs : List WI} (h : ∃ r, ws = vs ++ r) (ho : (puts d vs).on = false) : puts d ws = puts d vs := by
  obtain ⟨r, rfl⟩ := h
  rw [puts_append, puts_off _ _ ho]
theorem recW_sp (n : Nat) (l : List GI) {k : Nat} (h : k ≤ l.length) : ∃ r, recW n l = spW n l k ++ r := by
  obtain ⟨r, hr⟩ := pre_map (fun i => (spareAt n i, (gi l i).2)) k l.length h
  unfold recW spW
  rw [hr]
  exact ⟨r ++ ixW l (nIx l) ++ [(0, headB l.length)], by simp [List.append_assoc]⟩
theorem recW_ix (n : Nat) (l : List GI) {k : Nat} (h : k ≤ nIx l) : ∃ r, recW n l = (spW n l l.length ++ ixW l k) ++ r := by
  obtain ⟨r, hr⟩ := pre_map (fun q => (1 + q, idxB (partG l q))) k (nIx l) h
  unfold recW ixW
  rw [hr]
  exact ⟨r ++ [(0, headB l.length)], by simp [List.append_assoc]⟩
theorem setW_da (n : Nat) (l : List GI) {k : Nat} (h : k ≤ l.length) : ∃ r, setW n l = daW n l k ++ r := by
  obtain ⟨r, hr⟩ := pre_map (fun i => (dataAt n (gi l i).1.toNat, (gi l i).2)) k l.length h
  unfold setW daW
  rw [hr]
  exact ⟨r ++ [(0, headB 0)], by simp [List.append_assoc]⟩

section
variable {w : World} {q g s : Nat} {d : Dsk} {A : Option Addr} {l : List GI}
theorem post_off {D D' : Dsk} {e : Ending} {w' : World} (hD : D = D') (ho : D'.on = false) (h1 : e = .returned (.int .i64 6)) (h2 : Lg w' q g s D' true) (h3 : Fr (Tri q g s) w w') : LPost (.int .i64 (er D)) q g s D (!D.on) w e w' := by
  subst hD
  rw [er_off ho, ho]
  exact ⟨h1, h2, h3⟩
theorem post_on {D D' : Dsk} {e : Ending} {w' : World} (hD : D = D') (ho : D'.on = true) (h1 : e = .returned (.int .i64 0)) (h2 : Lg w' q g s D' false) (h3 : Fr (Tri q g s) w w') : LPost (.int .i64 (er D)) q g s D (!D.on) w e w' := by
  subst hD
  rw [er_on ho, ho]
  exact ⟨h1, h2, h3⟩

theorem tri_new {b : Bool} (h : Lg w q g s d b) {gB : Nat} (hg : w.heap.size ≤ gB) : ¬ Tri q g s gB := fun t => by
  have := h.lt
  rcases t with rfl | rfl | rfl <;> omega
def SpRel (n q g s : Nat) (d : Dsk) (l : List GI) (w : World) (i : Value) (wr : World) : Prop :=
  ∃ k : Nat, i = .int .i64 (k : Int) ∧ k ≤ l.length ∧ Lg wr q g s (puts d (spW n l k)) false ∧ (puts d (spW n l k)).on = true ∧ Fr (Tri q g s) w wr

def IxRel (n q g s : Nat) (d : Dsk) (l : List GI) (w : World) (i : Value) (wr : World) : Prop :=
  ∃ j : Nat, i = .int .i64 ((j * 64 : Nat) : Int) ∧ j ≤ nIx l ∧ Lg wr q g s (puts d (spW n l l.length ++ ixW l j)) false ∧ (puts d (spW n l l.length ++ ixW l j)).on = true ∧ Fr (Tri q g s) w wr
set_option maxRecDepth 100000 in
set_option maxHeartbeats 2000000 in
theorem record_all (c : Nat) (h : Lg w q g s d false) (ho : d.on = true) (hn : 4 ≤ d.L.length) (hG : Grp (Tri q g s) w A l) (hok : okG (room d.L.length) l) (hc : l.length ≤ c) (hm : c ≤ maxLen) (hi : i64 d.left) (hwr : 0 ≤ d.wr ∧ d.wr ≤ 100000000) :
    Calls Try.prog 33 #[.pointer (some ⟨q, 0, none⟩), .slice A l.length c] w (LPost (.int .i64 (er (puts d (recW d.L.length l)))) q g s (puts d (recW d.L.length l)) (!(puts d (recW d.L.length l)).on) w) := by
  have hlen := okG_len hok
  have hroom := room_lt (n := d.L.length)
  have h2048 := h.2.2.2.2
  go_enter Try.func33, Try.ntmps33
  go_wp2
  go_loopw [12] (SpRel d.L.length q g s d l w) (fun i _ => l.length - (intOf i).toNat)
  case atStart => exact ⟨0, rfl, by omega, h, ho, Fr.refl _ _⟩
  case round =>
    obtain ⟨k, rfl, hk, hL, hon, hfr⟩ := hrel
    by_cases hlt : k < l.length
    · obtain ⟨ad, B, c', rfl, hlt2, g1, g2, g3, g4, g5, g6⟩ := (hG.fr hfr).at_ hlt
      have hx := hok.1 _ (List.getElem_mem hlt)
      have hsucc : puts d (spW d.L.length l (k + 1)) = (puts d (spW d.L.length l k)).write ((spareAt d.L.length k : Nat) : Int) l[k].2 := by rw [spW_succ, puts_snoc, gi_eq hlt]
      have hln := puts_len (spW d.L.length l k) d
      have hw1 := puts_wr (spW d.L.length l k) d
      have hspl : (spW d.L.length l k).length = k := by simp [spW]
      have hlf := puts_left (spW d.L.length l k) hi
      have hD : ∀ wq, Lg wq q g s (puts d (spW d.L.length l k)) false → LieX (Tri q g s) wq B l[k].2 → Calls Try.prog 43 #[.pointer (some ⟨q, 0, none⟩), .int .i64 ((spareAt d.L.length k : Nat) : Int), .slice B 256 c'] wq (LPost (.int .i64 (er (puts d (spW d.L.length l (k + 1))))) q g s (puts d (spW d.L.length l (k + 1))) (!(puts d (spW d.L.length l (k + 1))).on) wq) := fun wq hLq hLi => by
        rw [hsucc]
        exact lwrite_all (spareAt d.L.length k) B l[k].2 c' hLq hon (by rw [hln]; exact spare_lt hn (by omega)) hx.2.2 hlf (by rw [hspl] at hw1; omega) hLi.lie (fun ad e t => hLi.off (by rw [hx.2.2]; omega) ad e (Tri.two t))
      have hSp : ∀ wq, Lg wq q g s (puts d (spW d.L.length l k)) false → Calls Try.prog 44 #[.pointer (some ⟨q, 0, none⟩), .int .i64 (k : Int)] wq (Same (.int .i64 ((spareAt d.L.length k : Nat) : Int)) wq) := fun wq hLq => by
        have := spare_all k hLq (by rw [hln]; exact hn) (by omega)
        rw [hln] at this
        exact this
      have hx2 := hx.2.2
      rw [hx2] at g2
      have HD := Lib.hid hD
      have HS := Lib.hid hSp
      have HL := Lib.hid hL
      have HF := Lib.hid hfr
      have HX := Lib.hid g5
      clear hD hSp hL hfr g5 hsucc hx hln hw1 hspl hlf g6 h hG
      have hk9 : k + 1 ≤ 100000 := by omega
      cases hDon : (puts d (spW d.L.length l (k + 1))).on
      · have HD1 : Hid (∀ wq, Lg wq q g s (puts d (spW d.L.length l k)) false → LieX (Tri q g s) wq B l[k].2 → Calls Try.prog 43 #[.pointer (some ⟨q, 0, none⟩), .int .i64 ((spareAt d.L.length k : Nat) : Int), .slice B 256 c'] wq (LPost (.int .i64 6) q g s (puts d (spW d.L.length l (k + 1))) true wq)) := by
          have := HD.out
          rw [er_off hDon, hDon] at this
          exact this
        have HE := Lib.hid (puts_pre (d := d) (recW_sp d.L.length l (show k + 1 ≤ l.length from hlt)) hDon)
        clear HD
        go_wp2_with fail
        refine still_tail 6 (by kernel_rfl) (by kernel_rfl) fun W hW => ?_
        simp only [List.take_succ_cons, List.take_zero, List.drop_succ_cons, List.drop_zero]
        have hLW : Lg W q g s (puts d (spW d.L.length l k)) false := hW ▸ (HL.out.alloc _).drew_
        have hXW : LieX (Tri q g s) W B l[k].2 := hW ▸ (HX.out.fr (((Fr.refl _ _).alloc _).drew))
        have hFW : Fr (Tri q g s) w W := hW ▸ ((HF.out.alloc _).drew)
        have hcW : W.cell? ⟨wr.heap.size, 1, none⟩ = some (.slice B 256 c') := hW ▸ (Box.new wr _ _).cell 1
        clear hW
        have HLW := Lib.hid hLW
        have HXW := Lib.hid hXW
        have HFW := Lib.hid hFW
        clear hLW hXW hFW
        repeat still_step
        still_call (still_of (HS.out _ HLW.out))
        repeat still_step
        refine wpStill_nil ?_
        go_wp2_with fail
        with_reducible refine (HD1.out _ HLW.out HXW.out).mono ?_
        rintro e w2 ⟨rfl, h2, f2⟩
        have HF2 := HFW.out.trans f2
        clear HFW HLW HXW f2 HL HX HF
        go_wp2
        go_ret
        exact post_off HE.out hDon rfl h2 HF2
      · have HD1 : Hid (∀ wq, Lg wq q g s (puts d (spW d.L.length l k)) false → LieX (Tri q g s) wq B l[k].2 → Calls Try.prog 43 #[.pointer (some ⟨q, 0, none⟩), .int .i64 ((spareAt d.L.length k : Nat) : Int), .slice B 256 c'] wq (LPost (.int .i64 0) q g s (puts d (spW d.L.length l (k + 1))) false wq)) := by
          have := HD.out
          rw [er_on hDon, hDon] at this
          exact this
        clear HD
        go_wp2_with fail
        refine still_tail 6 (by kernel_rfl) (by kernel_rfl) fun W hW => ?_
        simp only [List.take_succ_cons, List.take_zero, List.drop_succ_cons, List.drop_zero]
        have hLW : Lg W q g s (puts d (spW d.L.length l k)) false := hW ▸ (HL.out.alloc _).drew_
        have hXW : LieX (Tri q g s) W B l[k].2 := hW ▸ (HX.out.fr (((Fr.refl _ _).alloc _).drew))
        have hFW : Fr (Tri q g s) w W := hW ▸ ((HF.out.alloc _).drew)
        have hcW : W.cell? ⟨wr.heap.size, 1, none⟩ = some (.slice B 256 c') := hW ▸ (Box.new wr _ _).cell 1
        clear hW
        have HLW := Lib.hid hLW
        have HXW := Lib.hid hXW
        have HFW := Lib.hid hFW
        clear hLW hXW hFW
        repeat still_step
        still_call (still_of (HS.out _ HLW.out))
        repeat still_step
        refine wpStill_nil ?_
        go_wp2_with fail
        with_reducible refine (HD1.out _ HLW.out HXW.out).mono ?_
        rintro e w2 ⟨rfl, h2, f2⟩
        have HF2 := HFW.out.trans f2
        clear HFW HLW HXW f2 HL HX HF
        go_wp2
        go_roundw
        case rel => exact ⟨k + 1, by go_num, by omega, h2, hDon, HF2⟩
        case measure => simp [intOf]; omega
    · obtain rfl : k = l.length := by omega
      clear hk hlt
      have HL := Lib.hid hL
      have HF := Lib.hid hfr
      clear hL hfr h
      go_wp2
      go_loopw [8] (IxRel d.L.length q g s d l w) (fun i _ => l.length - (intOf i).toNat)
      case atStart => exact ⟨0, rfl, by omega, by rw [show ixW l 0 = [] from rfl, List.append_nil]; exact HL.out, by rw [show ixW l 0 = [] from rfl, List.append_nil]; exact hon, HF.out⟩
      case round =>
        clear HL HF
        obtain ⟨j, rfl, hj, hL, hon, hfr⟩ := hrel
        by_cases hlt : j * 64 < l.length
        · have hj1 : j < nIx l := by unfold nIx; omega
          have hp : (partG l j).length = min (j * 64 + 64) l.length - j * 64 := by unfold partG; rw [List.length_take, List.length_drop]; omega
          have hsucc : puts d (spW d.L.length l l.length ++ ixW l (j + 1)) = (puts d (spW d.L.length l l.length ++ ixW l j)).write (((1 + j : Nat)) : Int) (idxB (partG l j)) := by rw [ixW_succ, ← List.append_assoc, puts_snoc]
          have hln := puts_len (spW d.L.length l l.length ++ ixW l j) d
          have hw1 := puts_wr (spW d.L.length l l.length ++ ixW l j) d
          have hspl : (spW d.L.length l l.length ++ ixW l j).length = l.length + j := by simp [spW, ixW]
          have hlf := puts_left (spW d.L.length l l.length ++ ixW l j) hi
          have hjn : 1 + j < d.L.length := by
            obtain ⟨i, hi1, hi2⟩ := ix_lt hok hj1
            rw [hi2]
            exact index_lt hn hi1
          obtain ⟨ad, hA, had, _⟩ := hG (by omega)
          subst hA
          have hsub : ∀ wq, Fr (Tri q g s) w wq → Grp (Tri q g s) wq (some (ad.add (j * 64 * 2))) (partG l j) := fun wq hf => (hG.fr hf).sub (j * 64) 64 (fun _ => rfl)
          have hval : ∀ x ∈ partG l j, 0 ≤ x.1 ∧ x.1 < 100000 := fun x hx => by
            have := hok.1 x (List.mem_of_mem_drop (List.mem_of_mem_take hx))
            unfold okI at this
            omega
          have hI : ∀ wq c2, Fr (Tri q g s) w wq → (partG l j).length ≤ c2 → c2 ≤ maxLen → Calls Try.prog 46 #[.slice (some (ad.add (j * 64 * 2))) (partG l j).length c2] wq (FullP (idxB (partG l j)) wq) := fun wq c2 hf h1 h2 => index_all (Tri q g s) _ (partG l j) c2 wq (hsub wq hf) (by rw [hp]; omega) h1 h2 hval
          have hD : ∀ wq gB, Lg wq q g s (puts d (spW d.L.length l l.length ++ ixW l j)) false → Box wq gB 5 (u8C (idxB (partG l j))).toArray → ¬ Tri q g s gB → Calls Try.prog 43 #[.pointer (some ⟨q, 0, none⟩), .int .i64 (((1 + j : Nat)) : Int), .slice (some ⟨gB, 0, none⟩) 256 256] wq (LPost (.int .i64 (er (puts d (spW d.L.length l l.length ++ ixW l (j + 1))))) q g s (puts d (spW d.L.length l l.length ++ ixW l (j + 1))) (!(puts d (spW d.L.length l l.length ++ ixW l (j + 1))).on) wq) := fun wq gB hLq hBq hnq => by
            rw [hsucc]
            exact lwrite_all (1 + j) _ (idxB (partG l j)) 256 hLq hon (by rw [hln]; exact hjn) (idxB_len _) hlf (by rw [hspl] at hw1; unfold nIx at hj; omega) (full_lie hBq) (fun ad e t => by injection e with e; subst e; exact hnq (Tri.two t))
          have HE := Lib.hid (fun (ho : (puts d (spW d.L.length l l.length ++ ixW l (j + 1))).on = false) => puts_pre (d := d) (recW_ix d.L.length l (show j + 1 ≤ nIx l from hj1)) ho)
          have HI2 := Lib.hid hI
          have HD := Lib.hid hD
          have HL := Lib.hid hL
          have HF := Lib.hid hfr
          have hnj : (j + 1) * 64 = j * 64 + 64 := by omega
          clear hsucc hln hw1 hspl hlf hjn hsub hval hI hD hL hfr hG
          generalize hJ : j * 64 = J at *
          have HI : Hid (∀ wq, Calls Try.prog 45 #[.int .i64 (J : Int)] wq (Same (.int .i64 ((1 + j : Nat) : Int)) wq)) := fun wq => by
            have := indexOf_all J wq (by omega)
            rw [show J / 64 = j by omega] at this
            exact this
          clear hJ
          generalize hjj : 1 + j = j1 at *
          clear hjj
          have hcJ : ¬ c = J := by omega
          have hJl : (J : Int) ≤ (l.length : Int) := by omega
          have hlc : (l.length : Int) ≤ (c : Int) := by omega
          have hwrap : IntKind.i64.wrap ((J : Int) + 64) = (J : Int) + 64 := wrap_small (by omega) (by omega)
          have HNJ := Lib.hid hnj
          clear hnj
          cases hDon : (puts d (spW d.L.length l l.length ++ ixW l (j + 1))).on
          · have HD1 : Hid (∀ wq gB, Lg wq q g s (puts d (spW d.L.length l l.length ++ ixW l j)) false → Box wq gB 5 (u8C (idxB (partG l j))).toArray → ¬ Tri q g s gB → Calls Try.prog 43 #[.pointer (some ⟨q, 0, none⟩), .int .i64 (j1 : Int), .slice (some ⟨gB, 0, none⟩) 256 256] wq (LPost (.int .i64 6) q g s (puts d (spW d.L.length l l.length ++ ixW l (j + 1))) true wq)) := by
              have := HD.out
              rw [er_off hDon, hDon] at this
              exact this
            clear HD
            by_cases hca : (l.length : Int) < (J : Int) + 64
            · have hp2 : (partG l j).length = l.length - J := by rw [hp]; omega
              have HI3 : Hid (∀ wq, Fr (Tri q g s) w wq → Calls Try.prog 46 #[.slice (some (ad.add (J * 2))) (l.length - J) (c - J)] wq (FullP (idxB (partG l j)) wq)) := fun wq hf => by
                have := HI2.out wq (c - J) hf (by rw [hp2]; omega) (by omega)
                rw [hp2] at this
                exact this
              clear HI2 hp hp2
              go_wp2_with fail
              go_region_with (first | (go_at_call 45; (with_reducible refine (HI.out _).mono ?_); rintro e w' ⟨rfl, rfl⟩) | (go_at_call 46; (with_reducible refine (HI3.out _ HF.out.drew).mono ?_); rintro e w2 ⟨gB, rfl, hgB, hxB, hbB⟩; have hL2 := HL.out.drew_.below hbB; have hnB := tri_new HL.out hgB; have HF2 := Lib.hid (HF.out.drew.trans (Fr.of_below hbB))) | (go_at_call 43; (with_reducible refine (HD1.out _ gB hL2 hxB hnB).mono ?_); rintro e w3 ⟨rfl, h3, f3⟩; have HF3 := HF2.out.trans f3))
              all_goals clear HL HF HI HI3 HD1 hL2 hxB HF2 f3 hbB
              all_goals go_wp2
              all_goals go_ret
              all_goals exact post_off (HE.out hDon) hDon rfl h3 HF3
            · have hp2 : (partG l j).length = 64 := by rw [hp]; omega
              have HI3 : Hid (∀ wq, Fr (Tri q g s) w wq → Calls Try.prog 46 #[.slice (some (ad.add (J * 2))) 64 (c - J)] wq (FullP (idxB (partG l j)) wq)) := fun wq hf => by
                have := HI2.out wq (c - J) hf (by rw [hp2]; omega) (by omega)
                rw [hp2] at this
                exact this
              have hJc : (J : Int) + 64 ≤ (c : Int) := by omega
              have hJ0 : (0 : Int) ≤ (J : Int) + 64 := by omega
              clear HI2 hp hp2
              go_wp2_with fail
              go_region_with (first | (go_at_call 45; (with_reducible refine (HI.out _).mono ?_); rintro e w' ⟨rfl, rfl⟩) | (go_at_call 46; (with_reducible refine (HI3.out _ HF.out.drew).mono ?_); rintro e w2 ⟨gB, rfl, hgB, hxB, hbB⟩; have hL2 := HL.out.drew_.below hbB; have hnB := tri_new HL.out hgB; have HF2 := Lib.hid (HF.out.drew.trans (Fr.of_below hbB))) | (go_at_call 43; (with_reducible refine (HD1.out _ gB hL2 hxB hnB).mono ?_); rintro e w3 ⟨rfl, h3, f3⟩; have HF3 := HF2.out.trans f3))
              all_goals clear HL HF HI HI3 HD1 hL2 hxB HF2 f3 hbB
              all_goals go_wp2
              all_goals go_ret
              all_goals exact post_off (HE.out hDon) hDon rfl h3 HF3
          · have HD1 : Hid (∀ wq gB, Lg wq q g s (puts d (spW d.L.length l l.length ++ ixW l j)) false → Box wq gB 5 (u8C (idxB (partG l j))).toArray → ¬ Tri q g s gB → Calls Try.prog 43 #[.pointer (some ⟨q, 0, none⟩), .int .i64 (j1 : Int), .slice (some ⟨gB, 0, none⟩) 256 256] wq (LPost (.int .i64 0) q g s (puts d (spW d.L.length l l.length ++ ixW l (j + 1))) false wq)) := by
              have := HD.out
              rw [er_on hDon, hDon] at this
              exact this
            clear HD
            by_cases hca : (l.length : Int) < (J : Int) + 64
            · have hp2 : (partG l j).length = l.length - J := by rw [hp]; omega
              have HI3 : Hid (∀ wq, Fr (Tri q g s) w wq → Calls Try.prog 46 #[.slice (some (ad.add (J * 2))) (l.length - J) (c - J)] wq (FullP (idxB (partG l j)) wq)) := fun wq hf => by
                have := HI2.out wq (c - J) hf (by rw [hp2]; omega) (by omega)
                rw [hp2] at this
                exact this
              clear HI2 hp hp2
              go_wp2_with fail
              go_region_with (first | (go_at_call 45; (with_reducible refine (HI.out _).mono ?_); rintro e w' ⟨rfl, rfl⟩) | (go_at_call 46; (with_reducible refine (HI3.out _ HF.out.drew).mono ?_); rintro e w2 ⟨gB, rfl, hgB, hxB, hbB⟩; have hL2 := HL.out.drew_.below hbB; have hnB := tri_new HL.out hgB; have HF2 := Lib.hid (HF.out.drew.trans (Fr.of_below hbB))) | (go_at_call 43; (with_reducible refine (HD1.out _ gB hL2 hxB hnB).mono ?_); rintro e w3 ⟨rfl, h3, f3⟩; have HF3 := HF2.out.trans f3))
              all_goals clear HL HF HI HI3 HD1 hL2 hxB HF2 f3 hbB
              all_goals go_wp2
              all_goals exact ⟨⟨j + 1, by rw [HNJ.out]; go_num, hj1, h3, hDon, HF3⟩, by simp [intOf]; omega⟩
            · have hp2 : (partG l j).length = 64 := by rw [hp]; omega
              have HI3 : Hid (∀ wq, Fr (Tri q g s) w wq → Calls Try.prog 46 #[.slice (some (ad.add (J * 2))) 64 (c - J)] wq (FullP (idxB (partG l j)) wq)) := fun wq hf => by
                have := HI2.out wq (c - J) hf (by rw [hp2]; omega) (by omega)
                rw [hp2] at this
                exact this
              have hJc : (J : Int) + 64 ≤ (c : Int) := by omega
              have hJ0 : (0 : Int) ≤ (J : Int) + 64 := by omega
              clear HI2 hp hp2
              go_wp2_with fail
              go_region_with (first | (go_at_call 45; (with_reducible refine (HI.out _).mono ?_); rintro e w' ⟨rfl, rfl⟩) | (go_at_call 46; (with_reducible refine (HI3.out _ HF.out.drew).mono ?_); rintro e w2 ⟨gB, rfl, hgB, hxB, hbB⟩; have hL2 := HL.out.drew_.below hbB; have hnB := tri_new HL.out hgB; have HF2 := Lib.hid (HF.out.drew.trans (Fr.of_below hbB))) | (go_at_call 43; (with_reducible refine (HD1.out _ gB hL2 hxB hnB).mono ?_); rintro e w3 ⟨rfl, h3, f3⟩; have HF3 := HF2.out.trans f3))
              all_goals clear HL HF HI HI3 HD1 hL2 hxB HF2 f3 hbB
              all_goals go_wp2
              all_goals exact ⟨⟨j + 1, by rw [HNJ.out]; go_num, hj1, h3, hDon, HF3⟩, by simp [intOf]; omega⟩
        · have hje : j = nIx l := by unfold nIx at *; omega
          subst hje
          have hj64 : decide (((nIx l * 64 : Nat) : Int) < (l.length : Int)) = false := by simp; omega
          have hrec : puts d (recW d.L.length l) = (puts d (spW d.L.length l l.length ++ ixW l (nIx l))).write ((0 : Nat) : Int) (headB l.length) := by unfold recW; rw [puts_snoc]
          have hln := puts_len (spW d.L.length l l.length ++ ixW l (nIx l)) d
          have hw1 := puts_wr (spW d.L.length l l.length ++ ixW l (nIx l)) d
          have hspl : (spW d.L.length l l.length ++ ixW l (nIx l)).length = l.length + nIx l := by simp [spW, ixW]
          have hlf := puts_left (spW d.L.length l l.length ++ ixW l (nIx l)) hi
          have hnx : nIx l ≤ 2048 := by unfold nIx; omega
          have hD : ∀ wq gB, Lg wq q g s (puts d (spW d.L.length l l.length ++ ixW l (nIx l))) false → Box wq gB 5 (u8C (headB l.length)).toArray → ¬ Tri q g s gB → Calls Try.prog 43 #[.pointer (some ⟨q, 0, none⟩), .int .i64 0, .slice (some ⟨gB, 0, none⟩) 256 256] wq (LPost (.int .i64 (er (puts d (recW d.L.length l)))) q g s (puts d (recW d.L.length l)) (!(puts d (recW d.L.length l)).on) wq) := fun wq gB hLq hBq hnq => by
            rw [hrec]
            exact lwrite_all 0 _ (headB l.length) 256 hLq hon (by rw [hln]; omega) (headB_len _) hlf (by rw [hspl] at hw1; omega) (full_lie hBq) (fun ad e t => by injection e with e; subst e; exact hnq (Tri.two t))
          have HD := Lib.hid hD
          have HL := Lib.hid hL
          have HF := Lib.hid hfr
          have HH := Lib.hid (fun w => head_all l.length w (by omega))
          clear hrec hln hw1 hspl hlf hD hL hfr hG hok
          generalize puts d (recW d.L.length l) = D at *
          generalize nIx l * 64 = J at *
          go_wp2_with fail
          with_reducible refine (HH.out _).mono ?_
          rintro e w2 ⟨gB, rfl, hgB, hxB, hbB⟩
          have hL2 := HL.out.below hbB
          have hnB := tri_new HL.out hgB
          have HF2 := Lib.hid (HF.out.trans (Fr.of_below hbB))
          clear HL HF HH
          go_wp2_with fail
          with_reducible refine (HD.out _ gB hL2 hxB hnB).mono ?_
          rintro e w3 ⟨rfl, h3, f3⟩
          have HF3 := HF2.out.trans f3
          clear HD hL2 hxB HF2 f3
          go_wp2
          go_ret
          exact ⟨rfl, h3, HF3⟩
end
end Go.Proofs.Ytkklplccngdalaa.Dk
