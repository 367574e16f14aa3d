/-
  Contracts of tags.New and tags.Env.
-/
import Derived.Test.YtppffmmngomijaaTgW6
namespace Go.Proofs.Ytppffmmngomijaa.Tg
open Go.RowKit Lx

def zerosI (n : Nat) : Array Value := madeCells (Value.int .i64 0).cells (n * 1)
def zerosB (n : Nat) : Array Value := madeCells (Value.bool false).cells (n * 1)
theorem run_make_int (n : Nat) (hn : n ≤ 1000000) (w : World) : (Instr.makeSlice 25 (.int .i64 (n : Int)) (.int .i64 (n : Int))).run Try.prog w = .ok (.slice (some ⟨w.heap.size, 0, none⟩) n n) (w.alloc (.cells (zerosI n) 3)) := by
  obtain ⟨i0, hi0, hz0, hz1, hz2⟩ := info_parts info_int
  have h := run_make (P := Try.prog) w 25 3 i0 _ Try.underlying25 hi0 hz0 .i64 .i64 n n (by omega) (by omega) (by rw [hz2]; omega) (by omega)
  rw [h, hz1, Int.toNat_natCast]
  rfl
theorem run_make_bool (n : Nat) (hn : n ≤ 1000000) (w : World) : (Instr.makeSlice 26 (.int .i64 (n : Int)) (.int .i64 (n : Int))).run Try.prog w = .ok (.slice (some ⟨w.heap.size, 0, none⟩) n n) (w.alloc (.cells (zerosB n) 4)) := by
  obtain ⟨i0, hi0, hz0, hz1, hz2⟩ := info_parts info_bool
  have h := run_make (P := Try.prog) w 26 4 i0 _ Try.underlying26 hi0 hz0 .i64 .i64 n n (by omega) (by omega) (by rw [hz2]; omega) (by omega)
  rw [h, hz1, Int.toNat_natCast]
  rfl
theorem zerosI_eq (n : Nat) : (zerosI n).toList = (List.replicate n (0 : Int)).flatMap numC := by
  rw [flat_num, zerosI, Nat.mul_one]
  show (madeCells #[Value.int .i64 0] n).toList = _
  rw [toList_madeCells_one, List.map_replicate]
theorem zerosB_eq (n : Nat) : (zerosB n).toList = (List.replicate n false).flatMap flagC := by
  rw [flat_flag, zerosB, Nat.mul_one]
  show (madeCells #[Value.bool false] n).toList = _
  rw [toList_madeCells_one, List.map_replicate]
theorem own_made {w : World} {g n base : Nat} {e : TypeId} {xs : Array Value} {l : List Value} (hx : Box w g e xs) (hl : xs.toList = l) (hn : l.length = n) (hb : base ≤ g) (hm : n ≤ 1000000) : w.ownsRow base e 1 (.slice (some ⟨g, 0, none⟩) n n) n l := by
  refine ⟨by rw [hn, Nat.mul_one], .inr ⟨g, n, xs, rfl, hb, hx, Nat.le_refl _, by unfold maxLen; omega, ?_, ?_⟩⟩
  · rw [← Array.length_toList, hl, hn, Nat.mul_one]
  · rw [hl, ← hn, Nat.mul_one, List.take_length]

def NewR (w1 : World) (n : Nat) (v : Value) (wx : World) : Prop := ∃ p A c B d, v = .pointer (some ⟨p, 0, none⟩) ∧ Box wx p 28 #[.slice A n c, .slice B n d] ∧ OwnIm w1.heap.size wx ⟨List.replicate n 0, List.replicate n false⟩ A c B d ∧ Below w1.heap.size w1 wx
theorem own_new {w : World} {g1 g2 n base : Nat} (h1 : Box w g1 3 (zerosI n)) (h2 : Box w g2 4 (zerosB n)) (hb1 : base ≤ g1) (hb2 : base ≤ g2) (hm : n ≤ 1000000) : OwnIm base w ⟨List.replicate n 0, List.replicate n false⟩ (some ⟨g1, 0, none⟩) n (some ⟨g2, 0, none⟩) n := by
  refine own_im (List.length_replicate ..) (List.length_replicate ..) (own_made h1 (zerosI_eq n) ?_ hb1 hm) (own_made h2 (zerosB_eq n) ?_ hb2 hm)
  · rw [flat_num]; simp
  · rw [flat_flag]; simp

theorem newR_of {w1 W : World} {n gI gB gM : Nat} (hM : Box W gM 28 #[.slice (some ⟨gI, 0, none⟩) n n, .slice (some ⟨gB, 0, none⟩) n n]) (hI : Box W gI 3 (zerosI n)) (hB : Box W gB 4 (zerosB n)) (h1 : w1.heap.size ≤ gI) (h2 : w1.heap.size ≤ gB) (hn : n ≤ 1000000) (hb : Below w1.heap.size w1 W) : NewR w1 n (.pointer (some ⟨gM, 0, none⟩)) W :=
  ⟨gM, _, _, _, _, rfl, hM, own_new hI hB h1 h2 hn, hb⟩
section
variable {w : World} {o1 o2 o3 : Obj} {t : TypeId} {cs : Array Value}
theorem b3_0 : Box (((w.alloc (.cells cs t)).alloc o2).alloc o3).drew w.heap.size t cs := ((Box.new w t cs).alloc o2).alloc o3
theorem b3_1 : Box (((w.alloc o1).alloc (.cells cs t)).alloc o3).drew (w.heap.size + 1) t cs := (box_at (w := w.alloc o1) (by simp)).alloc o3
theorem b3_2 : Box (((w.alloc o1).alloc o2).alloc (.cells cs t)).drew (w.heap.size + 1 + 1) t cs := box_at (w := (w.alloc o1).alloc o2) (by simp)
theorem b3_b : Below w.heap.size w (((w.alloc o1).alloc o2).alloc o3).drew := below_drew ((((Below.refl _ w).alloc (Nat.le_refl _) _).alloc (by simp) _).alloc (by simp only [World.alloc, Array.size_push]; omega) _)
end

def Five (w' : World) (p q : Nat) (A : Option Addr) (n c : Nat) (nm : ByteArray) (out : Bool) (lo hi : Int) : Prop := w'.cell? ⟨p, 0, none⟩ = some (.slice A n c) ∧ w'.cell? ⟨q, 0, none⟩ = some (.string nm) ∧ w'.cell? ⟨q, 1, none⟩ = some (.bool out) ∧ w'.cell? ⟨q, 2, none⟩ = some (.int .i64 lo) ∧ w'.cell? ⟨q, 3, none⟩ = some (.int .i64 hi)
theorem own_putV {base : Nat} {w : World} {im : Im} {c d g k : Nat} {B : Option Addr} (h : OwnIm base w im (some ⟨g, 0, none⟩) c B d) (_hi : k < im.v.length) (n : Int) :
    OwnIm base (w.setCell ⟨g, k, none⟩ (.int .i64 n)) ⟨im.v.set k n, im.bad⟩ (some ⟨g, 0, none⟩) c B d ∧ Fr (Bk (some ⟨g, 0, none⟩) B) w (w.setCell ⟨g, k, none⟩ (.int .i64 n)) := by
  have hne := own_types h.2 h.1 (by decide)
  obtain ⟨h1, k1⟩ := h.1.stored k (.int .i64 n)
  have h2 := h.2.kept k1 (by simpa [Value.ownBlock] using hne)
  refine ⟨⟨?_, h2⟩, (Fr.refl _ w).set_ (p := ⟨g, k, none⟩) (Or.inl rfl) _⟩
  show World.ownsRow _ base 3 1 (.slice _ (im.v.set k n).length c) (im.v.set k n).length ((im.v.set k n).flatMap numC)
  rw [List.length_set, flat_num, List.map_set, ← flat_num]
  exact h1
theorem newI_at (l : List Tg) (k : Nat) (hk : k < l.length) : ((newI l).v.take k ++ List.replicate (l.length - k) 0).set k (nearZ l[k] 0) = (newI l).v.take (k + 1) ++ List.replicate (l.length - (k + 1)) 0 := by
  have h1 : l.length - k = (l.length - (k + 1)) + 1 := by omega
  have h2 : ((newI l).v.take k).length = k := by simp [newI]; omega
  rw [h1, List.replicate_succ, List.set_append_right _ _ (by omega), h2, Nat.sub_self, List.set_cons_zero, List.take_add_one]
  simp [newI, List.getElem?_eq_getElem hk]

set_option maxRecDepth 100000 in
set_option maxHeartbeats 4000000 in
theorem New_any (l : List Tg) (a : Option Addr) (cap : Nat) (w : World) (hl : l.length ≤ 1000000) (hcap : l.length ≤ cap) (hT : Tags w a l) :
    Calls Try.prog 11 #[.slice a l.length cap] w (ImPost (newT l) w) := by
  have hCk := Check_any l a cap (w.alloc (.cells #[.slice none 0 0, .slice none 0 0] 28)) hl hcap (hT.alloc _)
  have HX0 : Hid (checkT l ≠ 0 → newT l = (none, checkT l)) := fun h => by unfold newT; rw [if_neg h]
  have HX1 : Hid (checkT l = 0 → newT l = (some (newI l), 0)) := fun h => by unfold newT; rw [if_pos h]
  have hle := check_le l
  have HT := Lib.hid hT
  clear hT
  generalize newT l = X at *
  generalize checkT l = z at *
  generalize hlen : l.length = len at *
  have HL := Lib.hid hlen
  clear hlen
  go_enter Try.func11, Try.ntmps11
  go_wp2_with fail
  refine hCk.mono ?_
  rintro e w1 ⟨rfl, hb1⟩
  have hy := (Box.new w 28 #[.slice none 0 0, .slice none 0 0]).below hb1 (by simp)
  have hb0 := below_new hb1
  clear hb1
  by_cases h0 : z = 0
  · subst h0
    have HX2 : Hid (X = (some (newI l), 0)) := HX1.out rfl
    have hle' := hle rfl
    clear hle HX0 HX1
    go_wp2_with fail
    go_cut [5] (fun v5 wx => NewR w1 len v5 wx)
    case first =>
      have hmi := fun w => run_make_int len hl w
      have hmb := fun w => run_make_bool len hl w
      go_region_held3 (fun w' => True) (first | trivial | fail) (first | fail)
      all_goals (go_wp2_with fail; go_meet; apply newR_of)
      all_goals first | exact hl | exact b3_b | exact b3_0 | exact b3_1 | exact b3_2 | omega
    case rest =>
      rename World => wx
      obtain ⟨p, A', c', B', d', rfl, hbx, hox, hB4⟩ := hcut
      have hyx := hy.below hB4 hy.lt
      have hBw : Below w.heap.size w wx := hb0.trans (hB4.mono hb0.size)
      have hnp : ¬ Bk A' B' p := box_not_bk hbx hox (by decide) (by decide)
      have hn1 : ¬ Bk A' B' w.heap.size := not_bk hox (.inl hy.lt)
      have hbk : ∀ b, Bk A' B' b → w.heap.size ≤ b := fun b hb => Nat.le_trans hb0.size (bk_base hox b hb)
      have hww := hb0.size
      have HOX : Hid (OwnIm w1.heap.size wx ⟨(newI l).v.take 0 ++ List.replicate (len - 0) 0, List.replicate len false⟩ A' c' B' d') := hox
      clear hox hy hb0 hB4 hCk
      go_wp2_with fail
      go_loopw [23] (fun i wr => ∃ k : Nat, k ≤ len ∧ i = .int .i64 k ∧ Hid (OwnIm w1.heap.size wr ⟨(newI l).v.take k ++ List.replicate (len - k) 0, List.replicate len false⟩ A' c' B' d') ∧ Hid (Fr (Bk A' B') wx wr)) (fun i _ => len - (intOf i).toNat)
      case atStart => exact ⟨0, by omega, rfl, HOX, Fr.refl _ _⟩
      case round =>
        obtain ⟨k, hkl, rfl, HO, HFr⟩ := hrel
        have hyr := hyx.fr HFr.out hn1
        have hbr := hbx.fr HFr.out hnp
        have hBr : Below w.heap.size w wr := hBw.trans (HFr.out.below hBw.size hbk)
        have hvl : ((newI l).v.take k ++ List.replicate (len - k) (0 : Int)).length = len := by
          rw [List.length_append, List.length_take, List.length_replicate]; simp [newI, HL.out]; omega
        by_cases hlt : k < len
        · have hki : k < l.length := by rw [HL.out]; exact hlt
          obtain ⟨g, off, rfl, hg, c0, c1, c2, c3⟩ := Tags.at4 (RowF.upto HT.out hBr (Nat.le_refl _)) hki
          have HLm : ∀ w2, Calls Try.prog 30 #[.agg #[.string l[k].nm, .bool l[k].out, .int .i64 l[k].lo, .int .i64 l[k].hi], .int .i64 0] w2 fun e w' => e = .returned (.int .i64 (nearZ l[k] 0)) ∧ Below w2.heap.size w2 w' := fun w2 => by
            have h := limit_any l[k] 0 w2
            rw [near_eq _ _ (hle' _ (List.getElem_mem hki))] at h
            exact h
          have HNx := Lib.hid (newI_at l k hki)
          rw [HL.out] at HNx
          obtain ⟨gA, cA, hvA, hbA, hlA⟩ := HO.out.1.form (by show 0 < _; rw [hvl]; omega)
          injection hvA with hvA _ hvc
          subst hvA
          have hpA : gA ≠ p := fun e => hnp (.inl (by rw [e]))
          have hpA' : p ≠ gA := fun e => hpA e.symm
          have hkc : ∀ w2, Below (wr.alloc (.cells #[.string l[k].nm, .bool l[k].out, .int .i64 l[k].lo, .int .i64 l[k].hi] 51)).heap.size (wr.alloc (.cells #[.string l[k].nm, .bool l[k].out, .int .i64 l[k].lo, .int .i64 l[k].hi] 51)) w2 → OwnIm w1.heap.size w2 ⟨(newI l).v.take k ++ List.replicate (len - k) 0, List.replicate len false⟩ (some ⟨gA, 0, none⟩) c' B' d' ∧ Box w2 p 28 #[.slice (some ⟨gA, 0, none⟩) len c', .slice B' len d'] ∧ Box w2 wr.heap.size 51 #[.string l[k].nm, .bool l[k].out, .int .i64 l[k].lo, .int .i64 l[k].hi] := fun w2 hb2 =>
            ⟨(HO.out.below ((Below.refl _ _).alloc (Nat.le_refl _) _)).below hb2, (hbr.alloc _).below hb2 (Nat.lt_of_lt_of_le hbr.lt (by simp)), (Box.new _ _ _).below hb2 (by simp)⟩
          have hgr : gA < wr.heap.size := hlA
          generalize nearZ l[k] 0 = z at *
          generalize l[k] = t at *
          obtain ⟨nm, out, lo, hi⟩ := t
          simp only at *
          generalize hv1 : (newI l).v.take (k + 1) ++ List.replicate (len - (k + 1)) 0 = vk1 at *
          have HV1 := Lib.hid hv1
          clear hv1
          generalize (newI l).v.take k ++ List.replicate (len - k) 0 = vk at *
          have key : ∀ w2, Below (wr.alloc (.cells #[.string nm, .bool out, .int .i64 lo, .int .i64 hi] 51)).heap.size (wr.alloc (.cells #[.string nm, .bool out, .int .i64 lo, .int .i64 hi] 51)) w2 → Five w2 p wr.heap.size (some ⟨gA, 0, none⟩) len c' nm out lo hi := fun w2 hb2 =>
            ⟨(hkc w2 hb2).2.1.cell 0, (hkc w2 hb2).2.2.cell 0, (hkc w2 hb2).2.2.cell 1, (hkc w2 hb2).2.2.cell 2, (hkc w2 hb2).2.2.cell 3⟩
          have hd := below_drew (Below.refl (wr.alloc (.cells #[.string nm, .bool out, .int .i64 lo, .int .i64 hi] 51)).heap.size (wr.alloc (.cells #[.string nm, .bool out, .int .i64 lo, .int .i64 hi] 51)))
          have cd := key _ hd
          unfold Five at cd
          have hk64 : ((k : Nat) : Int) < (len : Int) := by omega
          go_wp2_with fail
          refine region_start (S := fun w' => w'.cell? ⟨p, 0, none⟩ = some (.slice (some ⟨gA, 0, none⟩) len c') ∧ w'.cell? ⟨wr.heap.size, 0, none⟩ = some (.string nm) ∧ w'.cell? ⟨wr.heap.size, 1, none⟩ = some (.bool out) ∧ w'.cell? ⟨wr.heap.size, 2, none⟩ = some (.int .i64 lo) ∧ w'.cell? ⟨wr.heap.size, 3, none⟩ = some (.int .i64 hi)) (n := 7) (lit := #[false, false, false, false, false, false, false]) rfl rfl (by kernel_rfl) cd fun hS => ?_
          refine tk (i := 0) (v := ?vb0) rfl (by kernel_rfl) (by kernel_rfl) (by kernel_rfl) (fun _ _ _ h => h) (by kernel_rfl) ?hb0 hS ?_
          case hb0 => intro w hSw; (try dsimp only at hSw); go_simp; try with_reducible rfl
          try simp only [Act.put, List.setIfInBounds_toArray, List.set_cons_zero, List.set_cons_succ]
          refine tk (i := 1) (v := ?vb1) rfl (by kernel_rfl) (by kernel_rfl) (by kernel_rfl) (fun _ _ _ h => h) (by kernel_rfl) ?hb1 hS ?_
          case hb1 => intro w hSw; (try dsimp only at hSw); go_simp; try with_reducible rfl
          try simp only [Act.put, List.setIfInBounds_toArray, List.set_cons_zero, List.set_cons_succ]
          refine tk (i := 2) (v := ?vb2) rfl (by kernel_rfl) (by kernel_rfl) (by kernel_rfl) (fun _ _ _ h => h) (by kernel_rfl) ?hb2 hS ?_
          case hb2 => intro w hSw; (try dsimp only at hSw); go_simp; try with_reducible rfl
          try simp only [Act.put, List.setIfInBounds_toArray, List.set_cons_zero, List.set_cons_succ]
          refine tk (i := 3) (v := ?vb3) rfl (by kernel_rfl) (by kernel_rfl) (by kernel_rfl) (fun _ _ _ h => h) (by kernel_rfl) ?hb3 hS ?_
          case hb3 => intro w hSw; (try dsimp only at hSw); go_simp; try with_reducible rfl
          try simp only [Act.put, List.setIfInBounds_toArray, List.set_cons_zero, List.set_cons_succ]
          refine wpAnyH_ready (rs := [4]) (by kernel_rfl) (by simp) ?_
          refine AllReadyH.cons rfl (fun K hK => ?_) AllReadyH.nil
          go_simp
          go_at_call 30
          refine (HLm _).mono ?_
          rintro e w2 ⟨rfl, hb2⟩
          have hB2 := hd.trans (hb2.mono hd.size)
          have e2 := key _ hB2
          obtain ⟨o2, p2, t2⟩ := hkc _ hB2
          unfold Five at e2
          refine hK.out _ _ e2 (fun hS2 => ?_)
          clear hK K
          refine tk (i := 5) (v := ?vb5) rfl (by kernel_rfl) (by kernel_rfl) (by kernel_rfl) (fun _ _ _ h => h) (by kernel_rfl) ?hb5 hS2 ?_
          case hb5 => intro w hSw; (try dsimp only at hSw); go_simp; try with_reducible rfl
          try simp only [Act.put, List.setIfInBounds_toArray, List.set_cons_zero, List.set_cons_succ]
          have z1 : w2.cell? ⟨gA, k, none⟩ = some (.int .i64 (vk[k]'(by rw [hvl]; exact hlt))) := by
            rw [o2.1.cellAt k (by show k < vk.length * 1; rw [hvl]; omega), flat_num]
            simp [hvl, hlt]
          have zf := o2.1.frozenAt k
          generalize vk[k]'(by rw [hvl]; exact hlt) = y0 at *
          have hgw : gA ≠ wr.heap.size := by omega
          obtain ⟨o3, f3⟩ := own_putV o2 (k := k) (by show k < vk.length; rw [hvl]; exact hlt) z
          have p3 := (p2.far (p := ⟨gA, k, none⟩) hpA' (.int .i64 z)).cell 0
          have t3 := t2.far (p := ⟨gA, k, none⟩) (Ne.symm hgw) (.int .i64 z)
          clear p2 t2 hkc
          refine wpAnyH_ready (rs := [6]) (by kernel_rfl) (by simp) ?_
          refine AllReadyH.cons rfl (fun K hK => ?_) AllReadyH.nil
          go_simp
          refine hK.out _ _ ⟨p3, t3.cell 0, t3.cell 1, t3.cell 2, t3.cell 3⟩ (fun hS3 => ?_)
          clear hK K
          refine wpAnyH_done (by kernel_rfl) ?_ _
          go_wp2_with fail
          go_roundw
          case rel =>
            refine ⟨k + 1, by omega, by go_num, ?_, ?_⟩
            · have := o3
              rw [HNx.out, ← HV1.out] at this
              exact this
            · exact (HFr.out.alloc _).trans ((Fr.of_below hB2).trans f3)
          case measure => simp [intOf]; omega
        · have hk : k = len := by omega
          subst hk
          have HO2 : Hid (OwnIm w1.heap.size wr (newI l) A' c' B' d') := by
            have hE : (⟨(newI l).v.take k ++ List.replicate (k - k) 0, List.replicate k false⟩ : Im) = newI l := by
              have e1 : ((newI l).v).length = k := by simp [newI, HL.out]
              rw [Nat.sub_self, List.replicate_zero, List.append_nil, List.take_of_length_le (by omega)]
              unfold newI
              congr 1
              rw [← HL.out, List.map_const']
            rw [← hE]
            exact HO.out
          have e0 := hyr.cell 0
          have e1 := hyr.cell 1
          have f0 := hyr.frozen 0
          have f1 := hyr.frozen 1
          simp at e0 e1
          have g0 := hbr.cell 0
          have g1 := hbr.cell 1
          simp at g0 g1
          have hy3 := two_set hyr (.slice A' k c') (.slice B' k d')
          have r0 := hy3.cell 0
          have r1 := hy3.cell 1
          simp at r0 r1
          have HFin := Lib.hid ((hBr.setCell (p := ⟨w.heap.size, 0, none⟩) (Nat.le_refl _) (.slice A' k c')).setCell (p := ⟨w.heap.size, 1, none⟩) (Nat.le_refl _) (.slice B' k d'))
          have HO3 := Lib.hid (own_im2 hyr (by decide) (by decide) HO2.out (.slice A' k c') (.slice B' k d'))
          clear hy3 hyr hbr hBr hyx hbx
          go_wp2_with fail
          rw [HX2.out]
          exact bodyPost_ret (v := .tuple #[.agg #[.slice A' k c', .slice B' k d'], .int .i64 0]) (by simp [results, Try.results11, go_sem, r0, r1]) rfl (impost_some (by simp [newI, HL.out]) (by simp [newI, HL.out]) HO3.out hww HFin.out)
  · have HX2 : Hid (X = (none, z)) := HX0.out h0
    have b1 : (z != (0 : Int)) = true := by simpa using h0
    have e0 := hy.cell 0
    have e1 := hy.cell 1
    have f0 := hy.frozen 0
    have f1 := hy.frozen 1
    simp at e0 e1
    have hy3 := two_set hy (.slice none 0 0) (.slice none 0 0)
    have r0 := hy3.cell 0
    have r1 := hy3.cell 1
    simp at r0 r1
    clear h0 hle
    go_wp2_with fail
    rw [HX2.out]
    exact bodyPost_ret (v := .tuple #[.agg #[.slice none 0 0, .slice none 0 0], .int .i64 z]) (by simp [results, Try.results11, go_sem, r0, r1]) rfl (impost_none ((hb0.setCell (p := ⟨w.heap.size, 0, none⟩) (Nat.le_refl _) _).setCell (p := ⟨w.heap.size, 1, none⟩) (Nat.le_refl _) _))
end Go.Proofs.Ytppffmmngomijaa.Tg
