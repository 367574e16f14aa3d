/-
  The contract of page.Lay.
-/
import Derived.Test.YthgoapcafjijfaaPgW1
namespace Go.Proofs.Ythgoapcafjijfaa.Pg
open Go.RowKit

theorem u8C_rep (n : Nat) (x : UInt8) : u8C (List.replicate n x) = List.replicate n (.int .u8 (x.toNat : Int)) := by simp [u8C]
theorem made_one (n : Nat) : madeCells #[.int .u8 0] n = (u8C (List.replicate n 0)).toArray := by
  rw [u8C_rep]
  apply Array.toList_inj.1
  rw [toList_madeCells_one]
  rfl
theorem run_make256 (w : World) : (Instr.makeSlice 25 (.int .i64 256) (.int .i64 256)).run Try.prog w = .ok (.slice (some ⟨w.heap.size, 0, none⟩) 256 256) (w.alloc (.cells (u8C (padB [])).toArray 5)) := by
  obtain ⟨i0, hi0, hz0, hz1, hz2⟩ := info_parts info_u8
  have h := run_make (P := Try.prog) w 25 5 i0 _ Try.underlying25 hi0 hz0 .i64 .i64 256 256 (by omega) (by omega) (by rw [hz2]; omega) (by omega)
  rw [h, hz1]
  have e : madeCells (Value.int .u8 0).cells ((256 : Int).toNat * 1) = (u8C (padB [])).toArray := made_one 256
  rw [e]
  rfl
theorem u8C_set (l : List UInt8) (k : Nat) (x : UInt8) : (u8C l).toArray.setIfInBounds k (.int .u8 (x.toNat : Int)) = (u8C (l.set k x)).toArray := by
  simp [u8C, List.map_set]
theorem nat_u8 {n : Nat} (h : n < 256) : (n : Int) = ((UInt8.ofNat n).toNat : Int) := by
  rw [UInt8.toNat_ofNat']
  omega
theorem box_pad {w : World} {g q n : Nat} {P : List UInt8} {t : TypeId} (h : Box w g t (u8C (padB P)).toArray) (hq : P.length = q) (hl : q < 256) (hn : n < 256) : Box (w.setCell ⟨g, q, none⟩ (.int .u8 (n : Int))) g t (u8C (padB (P ++ [UInt8.ofNat n]))).toArray := by
  subst hq
  have := h.set_ P.length (.int .u8 (n : Int))
  rw [nat_u8 hn, u8C_set, pad_set hl] at this
  rw [nat_u8 hn]
  exact this
theorem box_u8 {w : World} {g : Nat} {t : TypeId} {b : List UInt8} (h : Box w g t (u8C b).toArray) {k : Nat} (hk : k < b.length) : w.cell? ⟨g, k, none⟩ = some (.int .u8 ((gb b k : Nat) : Int)) := by
  rw [h.cell k]
  simp [u8C, gb, List.getD_eq_getElem?_getD, List.getElem?_eq_getElem hk]
theorem u8C_take (l : List UInt8) (n : Nat) : u8C (l.take n) = (u8C l).take n := by simp [u8C, List.map_take]
theorem u8C_drop (l : List UInt8) (n : Nat) : u8C (l.drop n) = (u8C l).drop n := by simp [u8C, List.map_drop]
theorem pad_cells {P s : List UInt8} (h : P.length + s.length ≤ 256) : (u8C (padB P)).take P.length ++ (u8C s ++ (u8C (padB P)).drop (P.length + s.length)) = u8C (padB (P ++ s)) := by
  rw [← pad_splice h, u8C_append, u8C_append, u8C_take, u8C_drop]
/-- copy(b[q:], bytes). -/
theorem run_copy_pad {w : World} {g q : Nat} {P s : List UInt8} {A : Option Addr} (c : Nat) (h : Box w g 5 (u8C (padB P)).toArray) (hq : P.length = q) (hl : q + s.length < 256) (hs : Lie w A s) :
    ∃ w2, (∀ d e, s.length ≤ d → (Builtin.copy_ #[25, 25] 3 #[.slice (some ⟨g, q, none⟩) d e, .slice A s.length c]).run Try.prog w = .ok (.int .i64 (s.length : Int)) w2) ∧ Box w2 g 5 (u8C (padB (P ++ s))).toArray ∧ Fr (fun k => k = g) w w2 := by
  subst hq
  by_cases h0 : s.length = 0
  · obtain rfl : s = [] := List.length_eq_zero_iff.1 h0
    have hr := fun d e => run_copy_none (P := Try.prog) w 25 25 3 5 (some ⟨g, P.length, none⟩) A d e 0 c Try.underlying25 (by kernel_rfl) (by simp)
    exact ⟨w, fun d e _ => hr d e, by rw [List.append_nil]; exact h, Fr.refl _ _⟩
  · obtain ⟨ad, rfl, _, hc⟩ := hs (by omega)
    have hr := fun d e (hd : s.length ≤ d) => run_copy_row (P := Try.prog) w 25 25 3 5 g P.length d e ad s.length c (u8C (padB P)).toArray 5 (u8C s) Try.underlying25 (by kernel_rfl) h
      (by rw [u8C_length]; exact (Nat.min_eq_left (by omega)).symm) (fun j v hv => by
        obtain ⟨hj, rfl⟩ := u8C_get hv
        exact hc j hj) (by rw [u8C_length, List.size_toArray, u8C_length, pad_len (by omega)]; omega) (u8C_one s)
    simp only [u8C_length] at hr
    have e : (List.take P.length (u8C (padB P)).toArray.toList ++ (u8C s ++ List.drop (P.length + s.length) (u8C (padB P)).toArray.toList)) = u8C (padB (P ++ s)) := pad_cells (by omega)
    simp only [List.append_assoc, e] at hr
    refine ⟨_, hr, setRow_heap w g _ _ _ _ h, ⟨rfl, rfl, rfl, by simp [World.setRow], fun k _ hk => setRow_other w g k _ hk⟩⟩
/-- copy(b[q:], string). -/
theorem run_copy_pads {w : World} {g q : Nat} {P : List UInt8} {s : ByteArray} (h : Box w g 5 (u8C (padB P)).toArray) (hq : P.length = q) (hl : q + s.size < 256) :
    ∃ w2, (∀ d e, s.size ≤ d → (Builtin.copy_ #[25, 9] 3 #[.slice (some ⟨g, q, none⟩) d e, .string s]).run Try.prog w = .ok (.int .i64 (s.size : Int)) w2) ∧ Box w2 g 5 (u8C (padB (P ++ s.data.toList))).toArray ∧ Fr (fun k => k = g) w w2 := by
  subst hq
  have hz : s.data.toList.length = s.size := by simp
  have hr := fun d e (hd : s.size ≤ d) => Lib.run_copy_row_string (P := Try.prog) w 25 9 3 5 g P.length d e s (u8C (padB P)).toArray 5 Try.underlying25 (by kernel_rfl) h hd (by rw [List.size_toArray, u8C_length, pad_len (by omega)]; omega)
  have e : (List.take P.length (u8C (padB P)).toArray.toList ++ Lib.byteCells s.data.toList ++ List.drop (P.length + s.size) (u8C (padB P)).toArray.toList) = u8C (padB (P ++ s.data.toList)) := by
    rw [← pad_cells (by omega), List.append_assoc, hz]
    rfl
  simp only [e] at hr
  exact ⟨_, hr, setRow_heap w g _ _ _ _ h, ⟨rfl, rfl, rfl, by simp [World.setRow], fun k _ hk => setRow_other w g k _ hk⟩⟩

/-- copy at a step of a region that draws its order, by its run's equation. -/
theorem step_copy_run {w w' : World} {ops : Array Oper} {o : Oper} {a : Act} {K : Act → World → Prop} {Q : Exit → Act → World → Prop} {E : Prop} (hgd : o.guard = none) (s x : Operand) (t1 t2 : TypeId)
    (ho : o.op = .call { callee := .builtin .copy, args := #[s, x], argTypes := #[t1, t2] }) {u v r : Value} (hs : a.eval s = u) (hx : a.eval x = v) (hr : (Builtin.copy_ #[t1, t2] o.type #[u, v]).run Try.prog w = .ok r w')
    (h : K (a.put o.dst r) w') : if Region.wanted o (yielded ops a.tmps) = true then Oper.wp Try.prog o a w K Q else E := by
  have hw : Region.wanted o (yielded ops a.tmps) = true := by simp [Region.wanted, hgd]
  rw [if_pos hw]
  unfold Oper.wp execOp
  simp only [ho, resolve, invoke, builtin, Sem.run_bind, Sem.run_pure, Result.andThen_ok, List.map_toArray, List.map_cons, List.map_nil, hs, hx, hr]
  exact h

def LayPost (l : List Rec) (w : World) (e : Ending) (w' : World) : Prop :=
  ∃ g, e = .returned (.tuple #[.slice (some ⟨g, 0, none⟩) 256 256, .int .i64 0]) ∧ w.heap.size ≤ g ∧ Box w' g 5 (u8C (layB l)).toArray ∧ Below w.heap.size w w'

section
variable (X : Nat → Prop) (A : Option Addr) (l : List Rec) (c : Nat) (w : World)
set_option maxRecDepth 100000 in
set_option maxHeartbeats 1000000 in
theorem lay_no (h : Recs X w A l) (hs : smP l) (hn : ¬ okP l) : Calls Try.prog 11 #[.slice A l.length c] w (Val (.tuple #[.slice none 0 0, .int .i64 (layE l)]) w) := by
  have HU := Lib.hid (used_all X A l c w h hs)
  have HI : Hid (∀ w1, Below w.heap.size w w1 → Calls Try.prog 21 #[.slice A l.length c] w1 (Val (.bool (decide (incP l))) w1)) := fun w1 hb => increasing_all X A l c w1 (h.below hb) hs.1
  have hsl := sum_le l
  have hl := hs.1
  clear h hs
  go_enter Try.func11, Try.ntmps11
  go_wp2_with fail
  with_reducible refine HU.out.mono ?_
  rintro e w1 ⟨n, b, rfl, h1, h2, hb⟩
  cases b with
  | false =>
    have hE := Lib.hid (layE_arg fun k => (h2 rfl).1 k.1)
    clear h1 h2 HU HI hn
    go_wp2
    go_ret2
    exact ⟨by rw [hE.out]; rfl, hb⟩
  | true =>
    obtain ⟨ha, rfl⟩ := h1 rfl
    by_cases hi : incP l
    · have h7 : 7 < sumP l := Nat.lt_of_not_le fun k => hn ⟨ha, hi, k⟩
      have hE := Lib.hid (layE_full ⟨ha, hi⟩ h7)
      have hd := Lib.hid (decide_eq_true hi)
      clear h1 h2 HU hn ha hi
      generalize sumP l = S at *
      go_wp2_with fail
      with_reducible refine (HI.out w1 hb).mono ?_
      rintro e w2 ⟨rfl, hb2⟩
      rw [hd.out]
      have hb3 := hb.trans (hb2.mono hb.size)
      clear HI hd
      go_wp2
      all_goals first | (exfalso; omega) | skip
      go_ret2
      exact ⟨by rw [hE.out]; rfl, hb3⟩
    · have hE := Lib.hid (layE_arg fun k => hi k.2)
      have hd := Lib.hid (decide_eq_false hi)
      clear h1 h2 HU hn ha hi
      generalize sumP l = S at *
      go_wp2_with fail
      with_reducible refine (HI.out w1 hb).mono ?_
      rintro e w2 ⟨rfl, hb2⟩
      rw [hd.out]
      have hb3 := hb.trans (hb2.mono hb.size)
      clear HI hd
      go_wp2
      go_ret2
      exact ⟨by rw [hE.out]; rfl, hb3⟩

def LayRel (g : Nat) (a i : Value) (wr : World) : Prop :=
  ∃ k : Nat, i = .int .i64 (k : Int) ∧ a = .int .i64 (((headP l k).length : Nat) : Int) ∧ k ≤ l.length ∧ Box wr g 5 (u8C (padB (headP l k))).toArray ∧ Below w.heap.size w wr
theorem enc_fits {l : List Rec} (ho : okP l) {k : Nat} (h : k < l.length) : (headP l k).length + 2 + l[k].1.size + l[k].2.length ≤ 225 := by
  have := head_len ho (k + 1)
  rw [head_succ h, List.length_append, encR_len] at this
  unfold szP at this
  omega
theorem head_step {l : List Rec} {k : Nat} (h : k < l.length) : headP l k ++ [UInt8.ofNat l[k].1.size] ++ [UInt8.ofNat l[k].2.length] ++ l[k].1.data.toList ++ l[k].2 = headP l (k + 1) := by
  rw [head_succ h]
  simp [encR]
set_option maxRecDepth 100000 in
set_option maxHeartbeats 4000000 in
theorem lay_ok (h : Recs X w A l) (hs : smP l) (ho : okP l) : Calls Try.prog 11 #[.slice A l.length c] w (LayPost l w) := by
  have HU := Lib.hid (used_all X A l c w h hs)
  have HI : Hid (∀ w1, Below w.heap.size w w1 → Calls Try.prog 21 #[.slice A l.length c] w1 (Val (.bool (decide (incP l))) w1)) := fun w1 hb => increasing_all X A l c w1 (h.below hb) hs.1
  have h := h.mono (Y := fun b => w.heap.size ≤ b) (fun b hb hy => by omega)
  have h7 := ho.2.2
  have hcn := count_le ho.1
  have hd := Lib.hid (decide_eq_true ho.2.1)
  have HA := Lib.hid ho.1
  have HO := Lib.hid ho
  have hmk := run_make256
  clear hs ho
  go_enter Try.func11, Try.ntmps11
  go_wp2_with fail
  with_reducible refine HU.out.mono ?_
  rintro e w1 ⟨n, b, rfl, h1, h2, hb⟩
  cases b with
  | false => exact absurd HA.out (h2 rfl).1
  | true =>
    obtain ⟨_, rfl⟩ := h1 rfl
    clear h1 h2 HU HA
    generalize sumP l = S at *
    go_wp2_with fail
    with_reducible refine (HI.out w1 hb).mono ?_
    rintro e w2 ⟨rfl, hb2⟩
    rw [hd.out]
    have hb3 := hb.trans (hb2.mono hb.size)
    clear HI hd hb hb2
    have hlen : l.length < 256 := by omega
    have hx0 := Box.new w2 5 (u8C (padB [])).toArray
    have es : ((u8C (padB [])).set 0 (.int .u8 (l.length : Int))).toArray = (u8C (padB (headP l 0))).toArray := by
      have e1 := u8C_set (padB []) 0 (UInt8.ofNat l.length)
      rw [← nat_u8 hlen] at e1
      have e2 := pad_set (P := []) (by simp) (UInt8.ofNat l.length)
      rw [show (padB []).set 0 (UInt8.ofNat l.length) = padB (headP l 0) from e2] at e1
      rw [← e1]
      simp
    have hx1 := Box.new w2 5 ((u8C (padB [])).set 0 (.int .u8 (l.length : Int))).toArray
    have hx1 : Box (w2.alloc (.cells ((u8C (padB [])).set 0 (.int .u8 (l.length : Int))).toArray 5)) w2.heap.size 5 (u8C (padB (headP l 0))).toArray := es ▸ hx1
    have hc0 : (w2.alloc (.cells (u8C (padB [])).toArray 5)).cell? ⟨w2.heap.size, 0, none⟩ = some (.int .u8 0) := box_u8 hx0 (k := 0) (by rw [pad_len (by simp)]; omega)
    have hf0 := hx0.frozen 0
    have hB := hb3.alloc hb3.size (.cells ((u8C (padB [])).set 0 (.int .u8 (l.length : Int))).toArray 5)
    clear hx0 es
    go_wp2
    all_goals first | (exfalso; omega) | skip
    clear hmk hc0 hf0
    go_loopw [7, 32] (LayRel l w w2.heap.size) (fun _ i _ => l.length - (intOf i).toNat)
    case atStart => exact ⟨0, rfl, rfl, by omega, hx1, hB⟩
    case round =>
      clear hx1 hB
      obtain ⟨k, rfl, rfl, hk, hx, hw⟩ := hrel
      by_cases hlt : k < l.length
      · obtain ⟨ad, D, c', rfl, hlt2, g1, g2, g3, g4, g5, g6⟩ := (h.below hw).at_ hlt
        have hfit := enc_fits HO.out hlt
        have HST := Lib.hid (head_step hlt)
        clear h
        generalize hP : headP l k = P at *
        generalize hq : P.length = q at *
        generalize hr : l[k] = p at *
        clear hr hP
        have hxa := hx.alloc (.cells #[.string p.1, .slice D p.2.length c'] 37)
        have hgp := hx.lt
        have hba := hw.alloc hw.size (.cells #[.string p.1, .slice D p.2.length c'] 37)
        have hpb := Box.new wr 37 #[.string p.1, .slice D p.2.length c']
        have hl5 := g5.fr ((Fr.refl _ wr).alloc (.cells #[.string p.1, .slice D p.2.length c'] 37))
        have p0 : (wr.alloc (.cells #[.string p.1, .slice D p.2.length c'] 37)).cell? ⟨wr.heap.size, 0, none⟩ = some (.string p.1) := hpb.cell 0
        have p1 : (wr.alloc (.cells #[.string p.1, .slice D p.2.length c'] 37)).cell? ⟨wr.heap.size, 1, none⟩ = some (.slice D p.2.length c') := hpb.cell 1
        clear hx hw g5
        go_wp2_with fail
        generalize hwa : wr.alloc (.cells #[.string p.1, .slice D p.2.length c'] 37) = wa at *
        have q0 := box_u8 hxa (k := q) (by rw [pad_len (by omega)]; omega)
        have q1 := box_u8 hxa (k := q + 1) (by rw [pad_len (by omega)]; omega)
        have f0 := hxa.frozen q
        have f1 := hxa.frozen (q + 1)
        have hG : w.heap.size ≤ w2.heap.size := hb3.size
        have hx2 := (box_pad (n := p.2.length) (box_pad (n := p.1.size) hxa hq (by omega) (by omega)) (q := q + 1) (by simp [hq]) (by omega) (by omega)).drew
        have fr2 := (((Fr.refl (fun k => k = w2.heap.size) wa).set_ (p := ⟨w2.heap.size, q, none⟩) rfl (.int .u8 (p.1.size : Int))).set_ (p := ⟨w2.heap.size, q + 1, none⟩) rfl (.int .u8 (p.2.length : Int))).drew
        have hsz : wa.heap.size = wr.heap.size + 1 := by rw [← hwa]; simp
        go_region
        clear q0 q1 f0 f1 p0 p1 hxa g1 g2
        generalize hw3 : ((wa.setCell ⟨w2.heap.size, q, none⟩ (.int .u8 (p.1.size : Int))).setCell ⟨w2.heap.size, q + 1, none⟩ (.int .u8 (p.2.length : Int))).drew = w3 at *
        have hl3 := hl5.fr (fr2.mono (fun b hb => by show w.heap.size ≤ b; omega))
        have hb3' := hba.trans (fr2.below hba.size (fun b hb => by omega))
        have hp3 := hpb.fr fr2 (by omega)
        clear fr2 hl5 hba hpb hw3
        obtain ⟨w4, hr4, hx4, fr4⟩ := run_copy_pads (s := p.1) (q := q + 2) hx2.drew (by simp [hq]) (by omega)
        have p0 : w3.cell? ⟨wr.heap.size, 0, none⟩ = some (.string p.1) := hp3.cell 0
        have p1 : w3.cell? ⟨wr.heap.size, 1, none⟩ = some (.slice D p.2.length c') := hp3.cell 1
        have HR4 := Lib.hid hr4
        clear hr4
        have i0 : (0 : Int) ≤ (q : Int) + 2 := by omega
        have iw : IntKind.i64.wrap ((q : Int) + 2 + (p.1.size : Int)) = (q : Int) + 2 + (p.1.size : Int) := by rw [IntKind.wrap_i64]; omega
        have jw : IntKind.i64.wrap ((q : Int) + 2 + (p.1.size : Int) + (p.2.length : Int)) = (q : Int) + 2 + (p.1.size : Int) + (p.2.length : Int) := by rw [IntKind.wrap_i64]; omega
        have i1 : (q : Int) + 2 ≤ 256 := by omega
        have i2 : ((q : Int) + 2).toNat = q + 2 := by omega
        have i3 : ¬ 256 = q + 2 := by omega
        go_wp2_with fail
        go_region_law (refine step_copy_run (by rfl) _ _ _ _ (by rfl) (by rfl) (by rfl) (HR4.out _ _ (by omega)) ?_)
        clear HR4 p0 p1 hx2
        have hl4 := hl3.drew.fr (fr4.mono (fun b hb => by show w.heap.size ≤ b; omega))
        have hb4 := hb3'.drew.trans (fr4.below hb3'.size (fun b hb => by omega))
        have hp4 := hp3.drew.fr fr4 (by omega)
        clear fr4 hl3 hb3' hp3
        obtain ⟨w5, hr5, hx5, fr5⟩ := run_copy_pad (s := p.2) (q := q + 2 + p.1.size) c' hx4.drew (by simp [hq]; omega) (by omega) hl4.lie.drew
        rw [HST.out] at hx5
        have hb5 := hb4.drew.trans (fr5.below hb4.size (fun b hb => by omega))
        have p1 : w4.cell? ⟨wr.heap.size, 1, none⟩ = some (.slice D p.2.length c') := hp4.cell 1
        have HR5 := Lib.hid hr5
        have HL : Hid ((headP l (k + 1)).length = q + 2 + p.1.size + p.2.length) := by
          show _ = _
          rw [← HST.out]
          simp [hq]
          omega
        clear hr5 hl4 hb4 hp4 hx4 fr5 HST hq
        have j0 : (0 : Int) ≤ (q : Int) + 2 + (p.1.size : Int) := by omega
        have j1 : (q : Int) + 2 + (p.1.size : Int) ≤ 256 := by omega
        have j2 : ((q : Int) + 2 + (p.1.size : Int)).toNat = q + 2 + p.1.size := by omega
        have j3 : ¬ 256 = q + 2 + p.1.size := by omega
        go_wp2_with fail
        go_region_law (refine step_copy_run (by rfl) _ _ _ _ (by rfl) (by rfl) (by rfl) (HR5.out _ _ (by omega)) ?_)
        clear HR5 p1
        go_wp2
        go_roundw
        case rel => exact ⟨k + 1, by go_num, by rw [HL.out]; go_num, by omega, hx5, hb5⟩
        case measure => simp [intOf]; omega
      · obtain rfl : k = l.length := by omega
        have HX : Hid (Box wr w2.heap.size 5 (u8C (layB l)).toArray) := by
          show Box _ _ _ _
          have e : layB l = padB (headP l l.length) := by unfold layB headP; rw [List.take_length]
          rw [e]
          exact hx
        clear h hx
        go_wp2
        go_ret2
        exact ⟨_, rfl, hb3.size, HX.out, hw⟩
end
end Go.Proofs.Ythgoapcafjijfaa.Pg
