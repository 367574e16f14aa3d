/-
  Contracts of restore, Open, Read, Commit.
-/
import Derived.Test.YtkklplccngdalaaWlW6
import Derived.Test.YtkklplccngdalaaWlP
namespace Go.Proofs.Ytkklplccngdalaa.Dk
open Go.RowKit

section
variable {w : World} {q g s : Nat} {d : Dsk} {l : List GI} {M : List (List UInt8)} {A : Option Addr}

theorem read_at (n : Int) (k : Nat) (b : List UInt8) (h : Dk w g s d) (ho : d.on = true) (hn : n = (k : Int)) (hl : d.L[k]? = some b) :
    Calls Try.prog 36 #[.pointer (some ⟨g, 0, none⟩), .int .i64 n] w (ReadPost b w) := by
  obtain ⟨hk, rfl⟩ := List.getElem?_eq_some_iff.1 hl
  subst hn
  exact read_ok k h ho hk
theorem equal_256 {ga gb : Nat} {t1 t2 : TypeId} {b : List UInt8} (h1 : Box w ga t1 (u8C b).toArray) (h2 : Box w gb t2 (u8C b).toArray) (hb : b.length = 256) :
    Calls Try.prog 49 #[.slice (some ⟨ga, 0, none⟩) 256 256, .slice (some ⟨gb, 0, none⟩) 256 256] w (Same (.bool true) w) := by
  have := equal_all _ _ b b 256 256 w (full_lie h1) (full_lie h2)
  rw [hb, decide_eq_true rfl] at this
  exact this

set_option maxRecDepth 100000 in
set_option maxHeartbeats 1000000 in
theorem restore_off (h : Lg w q g s d false) (ho : d.on = false) : Calls Try.prog 40 #[.pointer (some ⟨q, 0, none⟩)] w (Same (.int .i64 6) w) := by
  obtain ⟨c0, _, _⟩ := h.cells
  go_enter Try.func40, Try.ntmps40
  go_wp2_with fail
  refine (read_off 0 h.2.1 ho).mono ?_
  rintro e w' ⟨rfl, rfl⟩
  clear h
  go_wp2
  go_ret
  exact ⟨rfl, rfl⟩

def IPost (v : Int) (w : World) (e : Ending) (w' : World) : Prop := e = .returned (.int .i64 v) ∧ Below w.heap.size w w'
set_option maxRecDepth 100000 in
set_option maxHeartbeats 1000000 in
theorem restore_st (h : Lg w q g s d false) (ho : d.on = true) (hh : d.L[0]? = some (headB 0)) : Calls Try.prog 40 #[.pointer (some ⟨q, 0, none⟩)] w (IPost 0 w) := by
  obtain ⟨c0, _, _⟩ := h.cells
  have hlen := headB_len 0
  have hent := ent_head (n := 0) (by omega)
  have HE : Hid (∀ wq gb t, Box wq gb t (u8C (headB 0)).toArray → Calls Try.prog 48 #[.slice (some ⟨gb, 0, none⟩) 256 256, .int .i64 0] wq (Same (.int .i64 0) wq)) := fun wq gb t hb => by
    have := entry_all 0 (headB 0) gb t wq hb (headB_len 0) (by omega)
    rw [hent] at this
    exact this
  have HR := Lib.hid (read_at 0 0 (headB 0) h.2.1 ho rfl hh)
  have HH : Hid (∀ w, Calls Try.prog 47 #[.int .i64 0] w (FullP (headB 0) w)) := fun w => head_all 0 w (by omega)
  have b1 : decide (((room d.L.length : Nat) : Int) < 0) = false := by simp
  have HS : Hid (∀ wq, Lg wq q g s d false → Calls Try.prog 25 #[.pointer (some ⟨q, 0, none⟩)] wq (Same (.int .i64 (room d.L.length : Nat)) wq)) := fun wq hq => lsectors_all hq
  have HL := Lib.hid h
  have HQ : Hid (∀ wq ga gb t1 t2, Box wq ga t1 (u8C (headB 0)).toArray → Box wq gb t2 (u8C (headB 0)).toArray → Calls Try.prog 49 #[.slice (some ⟨ga, 0, none⟩) 256 256, .slice (some ⟨gb, 0, none⟩) 256 256] wq (Same (.bool true) wq)) := fun wq ga gb t1 t2 h1 h2 => equal_256 h1 h2 hlen
  clear h hlen hent hh
  generalize headB 0 = Hd at *
  generalize room d.L.length = R at *
  go_enter Try.func40, Try.ntmps40
  go_wp2_with fail
  refine HR.out.mono ?_
  rintro e w1 ⟨gb, rfl, hgb, hxb, hb1⟩
  have HL1 := Lib.hid (HL.out.below hb1)
  clear HL HR c0
  go_wp2_with fail
  refine (HE.out _ gb _ hxb).mono ?_
  rintro e w' ⟨rfl, rfl⟩
  clear HE
  go_wp2_with fail
  refine (HS.out _ HL1.out).mono ?_
  rintro e w' ⟨rfl, rfl⟩
  go_wp2_with fail
  refine (HH.out _).mono ?_
  rintro e w2 ⟨gh, rfl, hgh, hxh, hb2⟩
  have hx2 := hxb.below hb2 hxb.lt
  have hb3 := hb1.trans (hb2.mono hb1.size)
  clear hb1 hb2 hxb HH HS HL1
  go_wp2_with fail
  refine (HQ.out _ gb gh _ _ hx2 hxh).mono ?_
  rintro e w' ⟨rfl, rfl⟩
  clear HQ hx2 hxh
  go_wp2
  go_ret
  exact ⟨rfl, hb3⟩

set_option maxRecDepth 100000 in
set_option maxHeartbeats 2000000 in
theorem restore_pend (h : Lg w q g s d false) (ho : d.on = true) (hn : 4 ≤ d.L.length) (hP : Pend d.L.length d.L M l) (hi : i64 d.left) (hwr : 0 ≤ d.wr ∧ d.wr ≤ 100000000) :
    Calls Try.prog 40 #[.pointer (some ⟨q, 0, none⟩)] w (LPost (.int .i64 (er (puts d (setW d.L.length l)))) q g s (puts d (setW d.L.length l)) (!(puts d (setW d.L.length l)).on) w) := by
  obtain ⟨c0, _, _⟩ := h.cells
  have hok := hP.2.2.1
  have hl0 := hP.2.2.2.1
  have hh := hP.2.1
  have hlen := okG_len hok
  have hroom := room_lt (n := d.L.length)
  have h2048 := h.2.2.2.2
  have hent := ent_head (n := l.length) (by omega)
  have HE : Hid (∀ wq gb t, Box wq gb t (u8C (headB l.length)).toArray → Calls Try.prog 48 #[.slice (some ⟨gb, 0, none⟩) 256 256, .int .i64 0] wq (Same (.int .i64 (l.length : Int)) wq)) := fun wq gb t hb => by
    have := entry_all 0 (headB l.length) gb t wq hb (headB_len _) (by omega)
    rw [hent] at this
    exact this
  have HR := Lib.hid (read_at 0 0 (headB l.length) h.2.1 ho rfl hh)
  have HH : Hid (∀ w, Calls Try.prog 47 #[.int .i64 (l.length : Int)] w (FullP (headB l.length) w)) := fun w => head_all l.length w (by omega)
  have b1 : decide (((room d.L.length : Nat) : Int) < (l.length : Int)) = false := by simp; omega
  have b2 : ((l.length : Int) == 0) = false := beq_eq_false_iff_ne.2 (by omega)
  have b3 : (l.length == 0) = false := beq_eq_false_iff_ne.2 (by omega)
  have HS : Hid (∀ wq, Lg wq q g s d false → Calls Try.prog 25 #[.pointer (some ⟨q, 0, none⟩)] wq (Same (.int .i64 (room d.L.length : Nat)) wq)) := fun wq hq => lsectors_all hq
  have HC : Hid (∀ wq, Lg wq q g s d false → Calls Try.prog 50 #[.pointer (some ⟨q, 0, none⟩), .int .i64 (l.length : Int)] wq (RecPost l (Tri q g s) wq)) := fun wq hq => recorded_all hq ho hn hP
  have HF : Hid (∀ wq gR, Lg wq q g s d false → Grp (Tri q g s) wq (some ⟨gR, 0, none⟩) l → Calls Try.prog 32 #[.pointer (some ⟨q, 0, none⟩), .slice (some ⟨gR, 0, none⟩) l.length l.length] wq (BPost true wq)) := fun wq gR hq hG => by
    have := fits_all (some ⟨gR, 0, none⟩) l l.length (Tri q g s) hq hG (Nat.le_refl _) (by unfold maxLen; omega)
    rw [decide_eq_true hok] at this
    exact this
  have HT : Hid (∀ wq gR, Lg wq q g s d false → Grp (Tri q g s) wq (some ⟨gR, 0, none⟩) l → Calls Try.prog 34 #[.pointer (some ⟨q, 0, none⟩), .slice (some ⟨gR, 0, none⟩) l.length l.length] wq (LPost (.int .i64 (er (puts d (setW d.L.length l)))) q g s (puts d (setW d.L.length l)) (!(puts d (setW d.L.length l)).on) wq)) := fun wq gR hq hG =>
    settle_all l.length hq ho hn hG hok (Nat.le_refl _) (by unfold maxLen; omega) hi hwr
  have HL := Lib.hid h
  have hlenB := headB_len l.length
  have HQ : Hid (∀ wq ga gb t1 t2, Box wq ga t1 (u8C (headB l.length)).toArray → Box wq gb t2 (u8C (headB l.length)).toArray → Calls Try.prog 49 #[.slice (some ⟨ga, 0, none⟩) 256 256, .slice (some ⟨gb, 0, none⟩) 256 256] wq (Same (.bool true) wq)) := fun wq ga gb t1 t2 h1 h2 => equal_256 h1 h2 hlenB
  clear h hlenB hent hh hP hok hl0 hi hwr hn hroom b1
  generalize headB l.length = Hd at *
  generalize room d.L.length = R at *
  generalize puts d (setW d.L.length l) = D at *
  go_enter Try.func40, Try.ntmps40
  go_wp2_with fail
  refine HR.out.mono ?_
  rintro e w1 ⟨gb, rfl, hgb, hxb, hb1⟩
  have HL1 := Lib.hid (HL.out.below hb1)
  clear HL HR c0
  go_wp2_with fail
  refine (HE.out _ gb _ hxb).mono ?_
  rintro e w' ⟨rfl, rfl⟩
  clear HE
  go_wp2_with fail
  refine (HS.out _ HL1.out).mono ?_
  rintro e w' ⟨rfl, rfl⟩
  go_wp2_with fail
  refine (HH.out _).mono ?_
  rintro e w2 ⟨gh, rfl, hgh, hxh, hb2⟩
  have hx2 := hxb.below hb2 hxb.lt
  have hb3 := hb1.trans (hb2.mono hb1.size)
  have HL2 := Lib.hid (HL1.out.below hb2)
  clear hb1 hb2 hxb HH HS HL1
  go_wp2_with fail
  refine (HQ.out _ gb gh _ _ hx2 hxh).mono ?_
  rintro e w' ⟨rfl, rfl⟩
  clear HQ hx2 hxh
  go_wp2_with fail
  refine (HC.out _ HL2.out).mono ?_
  rintro e w3 ⟨gR, rfl, hG3, hb4⟩
  have HL3 := Lib.hid (HL2.out.below hb4)
  have hb5 := hb3.trans (hb4.mono hb3.size)
  clear HL2 hb3 hb4 HC
  go_wp2_with fail
  refine (HF.out _ gR HL3.out hG3).mono ?_
  rintro e w4 ⟨rfl, hb6⟩
  have HL4 := Lib.hid (HL3.out.below hb6)
  have hb7 := hb5.trans (hb6.mono hb5.size)
  have hG4 := hG3.below hb6
  clear HL3 hb5 hb6 HF hG3
  go_wp2_with fail
  refine (HT.out _ gR HL4.out hG4).mono ?_
  rintro e w5 ⟨rfl, h5, f5⟩
  have hf := (Fr.of_below (S := Tri q g s) hb7).trans f5
  clear HL4 hb7 hG4 HT f5
  go_wp2
  go_ret
  exact ⟨rfl, h5, hf⟩

/-! ### Open -/
theorem open_nil (w : World) : Calls Try.prog 26 #[.pointer none] w (Same (.tuple #[.pointer none, .int .i64 1]) w) := by
  go_enter Try.func26, Try.ntmps26
  go_wp2
  go_ret2
  exact ⟨rfl, rfl⟩
set_option maxRecDepth 100000 in
set_option maxHeartbeats 1000000 in
theorem open_small (h : Dk w g s d) (hn : d.L.length < 4) : Calls Try.prog 26 #[.pointer (some ⟨g, 0, none⟩)] w (Same (.tuple #[.pointer none, .int .i64 1]) w) := by
  have HR := Lib.hid (room_all d.L.length w (by omega))
  rw [room_small hn] at HR
  go_enter Try.func26, Try.ntmps26
  go_wp2_with fail
  refine (sectors_all h).mono ?_
  rintro e w' ⟨rfl, rfl⟩
  go_wp2_with fail
  refine HR.out.mono ?_
  rintro e w' ⟨rfl, rfl⟩
  go_wp2
  go_ret2
  exact ⟨rfl, rfl⟩

theorem lg_new (h : Dk w g s d) (hn : d.L.length ≤ 2048) : Lg (w.alloc (.cells #[.pointer (some ⟨g, 0, none⟩), .bool false] 68)) w.heap.size g s d false := by
  have := h.lt
  exact ⟨Box.new w _ _, h.below ((Below.refl _ w).alloc (Nat.le_refl _) _), by omega, by omega, hn⟩
theorem fr_new {o : Obj} {w' : World} (h : Fr (Tri w.heap.size g s) (w.alloc o) w') : Fr (Two g s) w w' :=
  ⟨h.os, h.tape, h.output, by have := h.size; simp at this; omega, fun k hk hs => by
    have h1 := h.block k (by simp; omega) (fun t => by rcases t with rfl | t; · omega
                                                       · exact hs t)
    rw [h1]
    exact Below.heap_alloc _ _ _ hk⟩

/-- What Open says, and leaves. -/
def OPost (n : Nat) (M : List (List UInt8)) (g s : Nat) (d : Dsk) (w : World) (e : Ending) (w' : World) : Prop :=
  ∃ D : Dsk, D.L.length = n ∧ i64 D.left ∧ d.wr ≤ D.wr ∧ D.wr ≤ d.wr + 5000 ∧ (St n d.L M → D = d) ∧ Fr (Two g s) w w' ∧
    ((D.on = true ∧ St n D.L M ∧ ∃ q, e = .returned (.tuple #[.pointer (some ⟨q, 0, none⟩), .int .i64 0]) ∧ w.heap.size ≤ q ∧ Lg w' q g s D false) ∨
     (D.on = false ∧ 0 ≤ d.left ∧ Inv n D.L M ∧ e = .returned (.tuple #[.pointer none, .int .i64 6]) ∧ Dk w' g s D))

set_option maxRecDepth 100000 in
set_option maxHeartbeats 1000000 in
theorem open_off (h : Dk w g s d) (ho : d.on = false) (hn : 4 ≤ d.L.length) (h2048 : d.L.length ≤ 2048) :
    Calls Try.prog 26 #[.pointer (some ⟨g, 0, none⟩)] w (fun e w' => e = .returned (.tuple #[.pointer none, .int .i64 6]) ∧ Below w.heap.size w w') := by
  have HR := Lib.hid (room_all d.L.length w (by omega))
  have hr := room_pos hn
  have hL := lg_new h h2048
  have b1 : (((room d.L.length : Nat) : Int) == 0) = false := beq_eq_false_iff_ne.2 (by omega)
  have b2 : (room d.L.length == 0) = false := beq_eq_false_iff_ne.2 (by omega)
  have HO := Lib.hid (restore_off hL ho)
  have hbe := (Below.refl w.heap.size w).alloc (Nat.le_refl _) (.cells #[.pointer (some ⟨g, 0, none⟩), .bool false] 68)
  clear hr hL
  generalize room d.L.length = R at *
  go_enter Try.func26, Try.ntmps26
  go_wp2_with fail
  refine (sectors_all h).mono ?_
  rintro e w' ⟨rfl, rfl⟩
  go_wp2_with fail
  refine HR.out.mono ?_
  rintro e w' ⟨rfl, rfl⟩
  clear h
  go_wp2_with fail
  refine HO.out.mono ?_
  rintro e w' ⟨rfl, rfl⟩
  go_wp2
  go_ret2
  exact ⟨rfl, hbe⟩
set_option maxRecDepth 100000 in
set_option maxHeartbeats 1000000 in
theorem open_st (h : Dk w g s d) (ho : d.on = true) (hn : 4 ≤ d.L.length) (h2048 : d.L.length ≤ 2048) (hh : d.L[0]? = some (headB 0)) :
    Calls Try.prog 26 #[.pointer (some ⟨g, 0, none⟩)] w (fun e w' => ∃ q, e = .returned (.tuple #[.pointer (some ⟨q, 0, none⟩), .int .i64 0]) ∧ w.heap.size ≤ q ∧ Lg w' q g s d false ∧ Below w.heap.size w w') := by
  have HR := Lib.hid (room_all d.L.length w (by omega))
  have hr := room_pos hn
  have hL := lg_new h h2048
  have b1 : (((room d.L.length : Nat) : Int) == 0) = false := beq_eq_false_iff_ne.2 (by omega)
  have b2 : (room d.L.length == 0) = false := beq_eq_false_iff_ne.2 (by omega)
  have HO := Lib.hid (restore_st hL ho hh)
  have HL := Lib.hid hL
  clear hr hL
  generalize room d.L.length = R at *
  go_enter Try.func26, Try.ntmps26
  go_wp2_with fail
  refine (sectors_all h).mono ?_
  rintro e w' ⟨rfl, rfl⟩
  go_wp2_with fail
  refine HR.out.mono ?_
  rintro e w' ⟨rfl, rfl⟩
  clear h
  go_wp2_with fail
  refine HO.out.mono ?_
  rintro e w1 ⟨rfl, hb1⟩
  have hL1 := HL.out.below hb1
  have hb2 := below_new hb1
  clear HL HO hb1
  go_wp2
  go_ret2
  exact ⟨_, rfl, Nat.le_refl _, hL1, hb2⟩
def OpenP (D : Dsk) (g s : Nat) (w : World) (e : Ending) (w' : World) : Prop :=
  Fr (Two g s) w w' ∧ (D.on = true → ∃ q, e = .returned (.tuple #[.pointer (some ⟨q, 0, none⟩), .int .i64 0]) ∧ w.heap.size ≤ q ∧ Lg w' q g s D false) ∧ (D.on = false → e = .returned (.tuple #[.pointer none, .int .i64 6]) ∧ Dk w' g s D)
set_option maxRecDepth 100000 in
set_option maxHeartbeats 1000000 in
theorem open_pend (h : Dk w g s d) (ho : d.on = true) (hn : 4 ≤ d.L.length) (h2048 : d.L.length ≤ 2048) (hP : Pend d.L.length d.L M l) (hi : i64 d.left) (hwr : 0 ≤ d.wr ∧ d.wr ≤ 100000000) :
    Calls Try.prog 26 #[.pointer (some ⟨g, 0, none⟩)] w (OpenP (puts d (setW d.L.length l)) g s w) := by
  have HR := Lib.hid (room_all d.L.length w (by omega))
  have hr := room_pos hn
  have hL := lg_new h h2048
  have b1 : (((room d.L.length : Nat) : Int) == 0) = false := beq_eq_false_iff_ne.2 (by omega)
  have b2 : (room d.L.length == 0) = false := beq_eq_false_iff_ne.2 (by omega)
  have HO := Lib.hid (restore_pend hL ho hn hP hi hwr)
  clear hr hL hP
  generalize room d.L.length = R at *
  generalize puts d (setW d.L.length l) = D at *
  cases hD : D.on
  · rw [er_off hD, hD] at HO
    go_enter Try.func26, Try.ntmps26
    go_wp2_with fail
    refine (sectors_all h).mono ?_
    rintro e w' ⟨rfl, rfl⟩
    go_wp2_with fail
    refine HR.out.mono ?_
    rintro e w' ⟨rfl, rfl⟩
    clear h
    go_wp2_with fail
    refine HO.out.mono ?_
    rintro e w1 ⟨rfl, h1, f1⟩
    have hf := fr_new f1
    have hd := h1.2.1
    clear HO f1 h1
    go_wp2
    go_ret2
    exact ⟨hf, fun h => absurd h (by rw [hD]; simp), fun _ => ⟨rfl, hd⟩⟩
  · rw [er_on hD, hD] at HO
    go_enter Try.func26, Try.ntmps26
    go_wp2_with fail
    refine (sectors_all h).mono ?_
    rintro e w' ⟨rfl, rfl⟩
    go_wp2_with fail
    refine HR.out.mono ?_
    rintro e w' ⟨rfl, rfl⟩
    clear h
    go_wp2_with fail
    refine HO.out.mono ?_
    rintro e w1 ⟨rfl, h1, f1⟩
    have hf := fr_new f1
    clear HO f1
    go_wp2
    go_ret2
    exact ⟨hf, fun _ => ⟨_, rfl, Nat.le_refl _, h1⟩, fun h => absurd h (by rw [hD]; simp)⟩
theorem open_inv {n : Nat} (h : Dk w g s d) (ho : d.on = true) (hL : d.L.length = n) (hn : 4 ≤ n) (h2048 : n ≤ 2048) (hI : Inv n d.L M) (hi : i64 d.left) (hwr : 0 ≤ d.wr ∧ d.wr ≤ 100000000) :
    Calls Try.prog 26 #[.pointer (some ⟨g, 0, none⟩)] w (OPost n M g s d w) := by
  subst hL
  rcases hI with hS | ⟨l, hP⟩
  · refine (open_st h ho hn h2048 hS.2.1).mono ?_
    rintro e w' ⟨q, he, hq, hLg, hb⟩
    exact ⟨d, rfl, hi, Int.le_refl _, by omega, fun _ => rfl, Fr.of_below hb, .inl ⟨ho, hS, q, he, hq, hLg⟩⟩
  · refine (open_pend h ho hn h2048 hP hi hwr).mono ?_
    rintro e w' ⟨hf, hif1, hif2⟩
    have hset := set_inv rfl hP hn ho
    have hw := puts_wr (setW d.L.length l) d
    have hlen := okG_len hP.2.2.1
    have hroom := room_lt (n := d.L.length)
    rw [setW_len] at hw
    have hSt : St d.L.length d.L M → puts d (setW d.L.length l) = d := fun hS => by
      have h1 := hS.2.1
      rw [hP.2.1] at h1
      injection h1 with h1
      have h2 := congrArg (fun b => ent b 0) h1
      simp only [ent_head (n := l.length) (by omega), ent_head (n := 0) (by omega)] at h2
      have := hP.2.2.2.1
      omega
    refine ⟨puts d (setW d.L.length l), puts_len _ _, puts_left _ hi, hw.1, by omega, hSt, hf, ?_⟩
    cases hD : (puts d (setW d.L.length l)).on
    · refine .inr ⟨rfl, ?_, .inr ⟨l, hset.2 hD⟩, hif2 hD⟩
      rcases Int.lt_or_le d.left 0 with h0 | h0
      · have := (puts_on (setW_ok hn hP.2.2.1) ho).2 (.inl h0)
        rw [hD] at this
        cases this
      · exact h0
    · exact .inl ⟨rfl, hset.1 hD, hif1 hD⟩
end
end Go.Proofs.Ytkklplccngdalaa.Dk
