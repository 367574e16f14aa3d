/-
  The document's New of tags answers as the plain words say.
-/
import Derived.Test.YtcapdekfbhbkiaaTgR5
namespace Go.Proofs.Ytcapdekfbhbkiaa.Tg
open Go.RowKit Lx

theorem newV_at (l : List Tg) (k : Nat) (hk : k < l.length) : (newI l).v.take k ++ [nearZ l[k] 0] = (newI l).v.take (k + 1) := by
  have hk' : k < (newI l).v.length := by simpa [newI] using hk
  rw [List.take_add_one, List.getElem?_eq_getElem hk']
  simp [newI]
theorem newB_at (l : List Tg) (k : Nat) (hk : k < l.length) : (newI l).bad.take k ++ [false] = (newI l).bad.take (k + 1) := by
  have hk' : k < (newI l).bad.length := by simpa [newI] using hk
  rw [List.take_add_one, List.getElem?_eq_getElem hk']
  simp [newI]

/-- append of one onto a row of one's own: the run, the row, all below `base` as it was. -/
theorem app_num (base : Nat) (w : World) (A : Option Addr) (n c : Nat) (l : List Int) (x : Int) (hn : n ≤ 100000) (hb : base ≤ w.heap.size) (h : w.ownsRow base 3 1 (.slice A n c) n (l.flatMap numC)) :
    ∃ A' c' w', (Builtin.append_ #[25, 25] 25 #[.slice A n c, .slice (some ⟨w.heap.size, 0, none⟩) 1 1]).run Try.prog (w.alloc (.cells #[.int .i64 x] 3)) = .ok (.slice A' (n + 1) c') w' ∧ w'.ownsRow base 3 1 (.slice A' (n + 1) c') (n + 1) ((l ++ [x]).flatMap numC) ∧ (w.alloc (.cells #[.int .i64 x] 3)).grownBy w' (Value.slice A n c).ownBlock ∧ Below base w w' := by
  obtain ⟨A', c', w', hr, ho, hg, _⟩ := run_append_1 Try.underlying25 info_int rfl (by omega) (by omega) #[.int .i64 x] rfl (by intro u hu; simp at hu; subst hu; rfl) h (by omega) hb
  refine ⟨A', c', w', hr, ?_, hg, ((Below.refl base w).alloc hb _).grown hg (by simp; omega) (fun k hk => (h.lt k hk).1)⟩
  rw [List.flatMap_append]
  exact ho

/-- append of one onto a row of one's own: the run, the row, all below `base` as it was. -/
theorem app_flag (base : Nat) (w : World) (A : Option Addr) (n c : Nat) (l : List Bool) (x : Bool) (hn : n ≤ 100000) (hb : base ≤ w.heap.size) (h : w.ownsRow base 4 1 (.slice A n c) n (l.flatMap flagC)) :
    ∃ A' c' w', (Builtin.append_ #[26, 26] 26 #[.slice A n c, .slice (some ⟨w.heap.size, 0, none⟩) 1 1]).run Try.prog (w.alloc (.cells #[.bool x] 4)) = .ok (.slice A' (n + 1) c') w' ∧ w'.ownsRow base 4 1 (.slice A' (n + 1) c') (n + 1) ((l ++ [x]).flatMap flagC) ∧ (w.alloc (.cells #[.bool x] 4)).grownBy w' (Value.slice A n c).ownBlock ∧ Below base w w' := by
  obtain ⟨A', c', w', hr, ho, hg, _⟩ := run_append_1 Try.underlying26 info_bool rfl (by omega) (by omega) #[.bool x] rfl (by intro u hu; simp at hu; subst hu; rfl) h (by omega) hb
  refine ⟨A', c', w', hr, ?_, hg, ((Below.refl base w).alloc hb _).grown hg (by simp; omega) (fun k hk => (h.lt k hk).1)⟩
  rw [List.flatMap_append]
  exact ho

def Four_ (w' : World) (g off k : Nat) (nm : ByteArray) (out : Bool) (lo hi : Int) : Prop := w'.cell? ⟨g, off + k * 4, none⟩ = some (.string nm) ∧ w'.cell? ⟨g, off + k * 4 + 1, none⟩ = some (.bool out) ∧ w'.cell? ⟨g, off + k * 4 + 2, none⟩ = some (.int .i64 lo) ∧ w'.cell? ⟨g, off + k * 4 + 3, none⟩ = some (.int .i64 hi)
/-- The image under way. -/
def NwR (base p0 p1 : Nat) (w : World) (v : List Int) (b : List Bool) (n m : Nat) (wr : World) : Prop := ∃ A c B d, Box wr p1 28 #[.slice A n c, .slice B m d] ∧ wr.ownsRow base 3 1 (.slice A n c) n (v.flatMap numC) ∧ wr.ownsRow base 4 1 (.slice B m d) m (b.flatMap flagC) ∧ Box wr p0 28 #[.slice none 0 0, .slice none 0 0] ∧ Below w.heap.size w wr ∧ base ≤ wr.heap.size

set_option maxRecDepth 100000 in
set_option maxHeartbeats 8000000 in
theorem refNew_any (l : List Tg) (a : Option Addr) (cap : Nat) (w : World) (hl : l.length ≤ 100000) (hNm : ∀ t ∈ l, t.nm.size ≤ 20000) (hT : Tags w a l) :
    Calls Try.prog 12 #[.slice a l.length cap] w (ImPost (newT l) w) := by
  have hCk := refCheck_any l a cap (w.alloc (.cells #[.slice none 0 0, .slice none 0 0] 28)) (by omega) hNm (hT.alloc _)
  have HX0 : Hid (checkT l ≠ 0 → newT l = (none, checkT l)) := fun h => by unfold newT; rw [if_neg h]
  have HX1 : Hid (checkT l = 0 → newT l = (some (newI l), 0)) := fun h => by unfold newT; rw [if_pos h]
  have HT := Lib.hid hT
  clear hT hNm
  generalize newT l = X at *
  generalize checkT l = z at *
  generalize hlen : l.length = len at *
  have HL := Lib.hid hlen
  clear hlen
  go_enter Try.func12, Try.ntmps12
  go_wp2_with fail
  refine hCk.mono ?_
  rintro e w1 ⟨rfl, hb1⟩
  have hy := (Box.new w 28 #[.slice none 0 0, .slice none 0 0]).below hb1 (by simp)
  have hb0 := below_new hb1
  clear hb1
  by_cases h0 : z = 0
  · subst h0
    have HX2 : Hid (X = (some (newI l), 0)) := HX1.out rfl
    clear HX0 HX1 hCk
    have hN0 : NwR (w1.heap.size + 1) w.heap.size w1.heap.size w ((newI l).v.take 0) ((newI l).bad.take 0) 0 0 (w1.alloc (.cells #[.slice none 0 0, .slice none 0 0] 28)) :=
      ⟨none, 0, none, 0, Box.new _ _ _, World.ownsRow_nil _ _ _ _, World.ownsRow_nil _ _ _ _, hy.alloc _, hb0.alloc hb0.size _, by simp⟩
    have hp01 : w.heap.size < w1.heap.size := hy.lt
    have hww := hb0.size
    clear hy hb0
    go_wp2_with fail
    generalize hW : w1.alloc (.cells #[.slice none 0 0, .slice none 0 0] 28) = W at *
    clear hW
    generalize hp1 : w1.heap.size = p1 at *
    clear hp1
    go_loopw [6] (fun i wr => ∃ k : Nat, k ≤ len ∧ i = .int .i64 k ∧ Hid (NwR (p1 + 1) w.heap.size p1 w ((newI l).v.take k) ((newI l).bad.take k) k k wr)) (fun i _ => len - (intOf i).toNat)
    case atStart => exact ⟨0, by omega, rfl, hN0⟩
    case round =>
      obtain ⟨k, hkl, rfl, HN⟩ := hrel
      obtain ⟨A, c, B, d, hbx, hoV, hoB, hyr, hBr, hbs⟩ := HN.out
      clear HN
      by_cases hlt : k < len
      · have hki : k < l.length := by rw [HL.out]; exact hlt
        obtain ⟨g, off, rfl, hg0, c0, c1, c2, c3⟩ := Tags.at4 HT.out hki
        have hNr := refNear_any l[k] 0
        have HNV := Lib.hid (newV_at l k hki)
        have HNB := Lib.hid (newB_at l k hki)
        generalize nearZ l[k] 0 = x at *
        generalize l[k] = t at *
        obtain ⟨nm, out, lo, hi⟩ := t
        simp only at *
        have key : ∀ w2, Below w.heap.size w w2 → Four_ w2 g off k nm out lo hi := fun w2 hb => ⟨(hb.cell (p := ⟨g, _, none⟩) hg0).trans c0, (hb.cell (p := ⟨g, _, none⟩) hg0).trans c1, (hb.cell (p := ⟨g, _, none⟩) hg0).trans c2, (hb.cell (p := ⟨g, _, none⟩) hg0).trans c3⟩
        clear c0 c1 c2 c3
        have hk100 : k ≤ 100000 := by omega
        generalize hv : (newI l).v.take k = v at *
        generalize hbd : (newI l).bad.take k = bd at *
        clear hv hbd
        have HVa : ∀ w2, Below wr.heap.size wr w2 → ∃ A' c' w', (Builtin.append_ #[25, 25] 25 #[.slice A k c, .slice (some ⟨w2.heap.size, 0, none⟩) 1 1]).run Try.prog (w2.alloc (.cells #[.int .i64 x] 3)) = .ok (.slice A' (k + 1) c') w' ∧ w'.ownsRow (p1 + 1) 3 1 (.slice A' (k + 1) c') (k + 1) ((v ++ [x]).flatMap numC) ∧ (w2.alloc (.cells #[.int .i64 x] 3)).grownBy w' (Value.slice A k c).ownBlock ∧ Below (p1 + 1) w2 w' := fun w2 hb => app_num (p1 + 1) w2 A k c v x hk100 (Nat.le_trans hbs hb.size) (own_keep hoV hb)
        have hd := below_drew (Below.refl wr.heap.size wr)
        have cd := key _ (hBr.trans (hd.mono hBr.size))
        unfold Four_ at cd
        have g0 : ∀ w2, Below wr.heap.size wr w2 → w2.cell? ⟨p1, 0, none⟩ = some (.slice A k c) := fun w2 hb => (hbx.below hb hbx.lt).cell 0
        have y0 : ∀ w2, Below wr.heap.size wr w2 → w2.frozen? ⟨p1, 0, none⟩ = false := fun w2 hb => (hbx.below hb hbx.lt).frozen 0
        go_wp2_with fail
        go_cut [6] (fun v6 wx => v6 = .int .i64 k ∧ NwR (p1 + 1) w.heap.size p1 w (v ++ [x]) bd (k + 1) k wx)
        case first =>
          refine region_start (S := fun w' => w'.cell? ⟨g, off + k * 4, none⟩ = some (.string nm) ∧ w'.cell? ⟨g, off + k * 4 + 1, none⟩ = some (.bool out) ∧ w'.cell? ⟨g, off + k * 4 + 2, none⟩ = some (.int .i64 lo) ∧ w'.cell? ⟨g, off + k * 4 + 3, none⟩ = some (.int .i64 hi)) (n := 11) (lit := #[false, false, false, false, false, false, false, false, false, false, false]) rfl rfl (by kernel_rfl) cd fun hS => ?_
          refine tk (i := 0) (v := ?vb0) rfl (by kernel_rfl) (by kernel_rfl) (by kernel_rfl) (fun _ _ _ h => h) (by kernel_rfl) ?hb0 hS ?_
          case hb0 => intro w hSw; (try dsimp only at hSw); go_simp; try with_reducible rfl
          try simp only [Act.put, List.setIfInBounds_toArray, List.set_cons_zero, List.set_cons_succ]
          refine tk (i := 2) (v := ?vb2) rfl (by kernel_rfl) (by kernel_rfl) (by kernel_rfl) (fun _ _ _ h => h) (by kernel_rfl) ?hb2 hS ?_
          case hb2 => intro w hSw; (try dsimp only at hSw); go_simp; try with_reducible rfl
          try simp only [Act.put, List.setIfInBounds_toArray, List.set_cons_zero, List.set_cons_succ]
          refine tk (i := 3) (v := ?vb3) rfl (by kernel_rfl) (by kernel_rfl) (by kernel_rfl) (fun _ _ _ h => h) (by kernel_rfl) ?hb3 hS ?_
          case hb3 => intro w hSw; (try dsimp only at hSw); go_simp; try with_reducible rfl
          try simp only [Act.put, List.setIfInBounds_toArray, List.set_cons_zero, List.set_cons_succ]
          refine tk (i := 4) (v := ?vb4) rfl (by kernel_rfl) (by kernel_rfl) (by kernel_rfl) (fun _ _ _ h => h) (by kernel_rfl) ?hb4 hS ?_
          case hb4 => intro w hSw; (try dsimp only at hSw); go_simp; try with_reducible rfl
          try simp only [Act.put, List.setIfInBounds_toArray, List.set_cons_zero, List.set_cons_succ]
          refine tk (i := 5) (v := ?vb5) rfl (by kernel_rfl) (by kernel_rfl) (by kernel_rfl) (fun _ _ _ h => h) (by kernel_rfl) ?hb5 hS ?_
          case hb5 => intro w hSw; (try dsimp only at hSw); go_simp; try with_reducible rfl
          try simp only [Act.put, List.setIfInBounds_toArray, List.set_cons_zero, List.set_cons_succ]
          refine wpAnyH_ready (rs := [1, 6]) (by kernel_rfl) (by simp) ?_
          refine AllReadyH.cons rfl (fun K hK => ?_) (AllReadyH.cons rfl (fun K hK => ?_) AllReadyH.nil)
          · skip
            have gg := g0 _ hd
            go_simp
            clear gg
            have kk1 := key _ (hBr.trans (hd.mono hBr.size))
            unfold Four_ at kk1
            refine hK.out _ _ kk1 (fun hS1 => ?_)
            clear hK K
            refine wpAnyH_ready (rs := [6]) (by kernel_rfl) (by simp) ?_
            refine AllReadyH.cons rfl (fun K hK => ?_) AllReadyH.nil
            go_simp
            go_at_call 31; refine (hNr _).mono ?_; rintro e w2 ⟨rfl, hbN⟩
            have h2 := hd.trans (hbN.mono hd.size)
            have kk2 := key _ (hBr.trans (h2.mono hBr.size))
            unfold Four_ at kk2
            refine hK.out _ _ kk2 (fun hS2 => ?_)
            clear hK K
            refine wpAnyH_ready (rs := [7]) (by kernel_rfl) (by simp) ?_
            refine AllReadyH.cons rfl (fun K hK => ?_) AllReadyH.nil
            go_simp
            have h3 := h2.alloc h2.size (.cells #[.int .i64 x] 3)
            have kk3 := key _ (hBr.trans (h3.mono hBr.size))
            unfold Four_ at kk3
            refine hK.out _ _ kk3 (fun hS3 => ?_)
            clear hK K
            refine wpAnyH_ready (rs := [8]) (by kernel_rfl) (by simp) ?_
            refine AllReadyH.cons rfl (fun K hK => ?_) AllReadyH.nil
            obtain ⟨A', c', w3, hr3, ho3, hg3, hb3⟩ := HVa _ h2
            refine step_append_run rfl _ _ _ _ rfl rfl rfl hr3 ?_
            have hB3 : Below w.heap.size w w3 := (hBr.trans (h2.mono hBr.size)).trans (hb3.mono (by omega))
            have kk4 := key _ hB3
            unfold Four_ at kk4
            refine hK.out _ _ kk4 (fun hS4 => ?_)
            clear hK K
            try simp only [Act.put, List.setIfInBounds_toArray, List.set_cons_zero, List.set_cons_succ]
            refine tk (i := 9) (v := ?vc9) rfl (by kernel_rfl) (by kernel_rfl) (by kernel_rfl) (fun _ _ _ h => h) (by kernel_rfl) ?hc9 hS4 ?_
            case hc9 => intro w hSw; (try dsimp only at hSw); go_simp; try with_reducible rfl
            try simp only [Act.put, List.setIfInBounds_toArray, List.set_cons_zero, List.set_cons_succ]
            have hbx3 := (hbx.below h2 hbx.lt).below hb3 (Nat.lt_succ_self _)
            have hyr3 := (hyr.below h2 hyr.lt).below hb3 (by omega)
            have z0 := hbx3.cell 0
            have z2 := hbx3.frozen 0
            simp at z0
            have hoB3 : w3.ownsRow (p1 + 1) 4 1 (.slice B k d) k (bd.flatMap flagC) := (own_keep hoB (h2.alloc h2.size _)).kept hg3 (own_types hoB hoV (by decide))
            have hF3 : NwR (p1 + 1) w.heap.size p1 w (v ++ [x]) bd (k + 1) k (w3.setCell ⟨p1, 0, none⟩ (.slice A' (k + 1) c')) := by
              refine ⟨A', c', B, d, ?_, own_set1 hbx3 (by decide) ho3 0 _, own_set1 hbx3 (by decide) hoB3 0 _, hyr3.far (p := ⟨p1, 0, none⟩) (by show w.heap.size ≠ p1; omega) _, hB3.setCell (p := ⟨p1, 0, none⟩) (by show w.heap.size ≤ p1; omega) _, by have := hb3.size; have := (h2).size; simp; omega⟩
              have := hbx3.set_ 0 (.slice A' (k + 1) c')
              simpa using this
            refine wpAnyH_ready (rs := [10]) (by kernel_rfl) (by simp) ?_
            refine AllReadyH.cons rfl (fun K hK => ?_) AllReadyH.nil
            go_simp
            have kk5 := key _ (hB3.setCell (p := ⟨p1, 0, none⟩) (by show w.heap.size ≤ p1; omega) (.slice A' (k + 1) c'))
            unfold Four_ at kk5
            refine hK.out _ _ kk5 (fun _ => ?_)
            clear hK K
            refine wpAnyH_done (by kernel_rfl) ?_ _
            go_wp2_with fail
            go_meet
            exact ⟨rfl, hF3⟩
          · skip
            go_simp
            go_at_call 31; refine (hNr _).mono ?_; rintro e w2 ⟨rfl, hbN⟩
            have h2 := hd.trans (hbN.mono hd.size)
            have kk6 := key _ (hBr.trans (h2.mono hBr.size))
            unfold Four_ at kk6
            refine hK.out _ _ kk6 (fun hS6 => ?_)
            clear hK K
            refine wpAnyH_ready (rs := [1, 7]) (by kernel_rfl) (by simp) ?_
            refine AllReadyH.cons rfl (fun K hK => ?_) (AllReadyH.cons rfl (fun K hK => ?_) AllReadyH.nil)
            · skip
              have gg := g0 _ h2
              go_simp
              clear gg
              have kk7 := key _ (hBr.trans (h2.mono hBr.size))
              unfold Four_ at kk7
              refine hK.out _ _ kk7 (fun hS7 => ?_)
              clear hK K
              refine wpAnyH_ready (rs := [7]) (by kernel_rfl) (by simp) ?_
              refine AllReadyH.cons rfl (fun K hK => ?_) AllReadyH.nil
              go_simp
              have h3 := h2.alloc h2.size (.cells #[.int .i64 x] 3)
              have kk8 := key _ (hBr.trans (h3.mono hBr.size))
              unfold Four_ at kk8
              refine hK.out _ _ kk8 (fun hS8 => ?_)
              clear hK K
              refine wpAnyH_ready (rs := [8]) (by kernel_rfl) (by simp) ?_
              refine AllReadyH.cons rfl (fun K hK => ?_) AllReadyH.nil
              obtain ⟨A', c', w3, hr3, ho3, hg3, hb3⟩ := HVa _ h2
              refine step_append_run rfl _ _ _ _ rfl rfl rfl hr3 ?_
              have hB3 : Below w.heap.size w w3 := (hBr.trans (h2.mono hBr.size)).trans (hb3.mono (by omega))
              have kk9 := key _ hB3
              unfold Four_ at kk9
              refine hK.out _ _ kk9 (fun hS9 => ?_)
              clear hK K
              try simp only [Act.put, List.setIfInBounds_toArray, List.set_cons_zero, List.set_cons_succ]
              refine tk (i := 9) (v := ?vd9) rfl (by kernel_rfl) (by kernel_rfl) (by kernel_rfl) (fun _ _ _ h => h) (by kernel_rfl) ?hd9 hS9 ?_
              case hd9 => intro w hSw; (try dsimp only at hSw); go_simp; try with_reducible rfl
              try simp only [Act.put, List.setIfInBounds_toArray, List.set_cons_zero, List.set_cons_succ]
              have hbx3 := (hbx.below h2 hbx.lt).below hb3 (Nat.lt_succ_self _)
              have hyr3 := (hyr.below h2 hyr.lt).below hb3 (by omega)
              have z0 := hbx3.cell 0
              have z2 := hbx3.frozen 0
              simp at z0
              have hoB3 : w3.ownsRow (p1 + 1) 4 1 (.slice B k d) k (bd.flatMap flagC) := (own_keep hoB (h2.alloc h2.size _)).kept hg3 (own_types hoB hoV (by decide))
              have hF3 : NwR (p1 + 1) w.heap.size p1 w (v ++ [x]) bd (k + 1) k (w3.setCell ⟨p1, 0, none⟩ (.slice A' (k + 1) c')) := by
                refine ⟨A', c', B, d, ?_, own_set1 hbx3 (by decide) ho3 0 _, own_set1 hbx3 (by decide) hoB3 0 _, hyr3.far (p := ⟨p1, 0, none⟩) (by show w.heap.size ≠ p1; omega) _, hB3.setCell (p := ⟨p1, 0, none⟩) (by show w.heap.size ≤ p1; omega) _, by have := hb3.size; have := (h2).size; simp; omega⟩
                have := hbx3.set_ 0 (.slice A' (k + 1) c')
                simpa using this
              refine wpAnyH_ready (rs := [10]) (by kernel_rfl) (by simp) ?_
              refine AllReadyH.cons rfl (fun K hK => ?_) AllReadyH.nil
              go_simp
              have kk10 := key _ (hB3.setCell (p := ⟨p1, 0, none⟩) (by show w.heap.size ≤ p1; omega) (.slice A' (k + 1) c'))
              unfold Four_ at kk10
              refine hK.out _ _ kk10 (fun _ => ?_)
              clear hK K
              refine wpAnyH_done (by kernel_rfl) ?_ _
              go_wp2_with fail
              go_meet
              exact ⟨rfl, hF3⟩
            · skip
              go_simp
              have h3 := h2.alloc h2.size (.cells #[.int .i64 x] 3)
              have kk11 := key _ (hBr.trans (h3.mono hBr.size))
              unfold Four_ at kk11
              refine hK.out _ _ kk11 (fun hS11 => ?_)
              clear hK K
              refine wpAnyH_ready (rs := [1]) (by kernel_rfl) (by simp) ?_
              refine AllReadyH.cons rfl (fun K hK => ?_) AllReadyH.nil
              have gg := g0 _ h3
              go_simp
              clear gg
              have kk12 := key _ (hBr.trans (h3.mono hBr.size))
              unfold Four_ at kk12
              refine hK.out _ _ kk12 (fun hS12 => ?_)
              clear hK K
              refine wpAnyH_ready (rs := [8]) (by kernel_rfl) (by simp) ?_
              refine AllReadyH.cons rfl (fun K hK => ?_) AllReadyH.nil
              obtain ⟨A', c', w3, hr3, ho3, hg3, hb3⟩ := HVa _ h2
              refine step_append_run rfl _ _ _ _ rfl rfl rfl hr3 ?_
              have hB3 : Below w.heap.size w w3 := (hBr.trans (h2.mono hBr.size)).trans (hb3.mono (by omega))
              have kk13 := key _ hB3
              unfold Four_ at kk13
              refine hK.out _ _ kk13 (fun hS13 => ?_)
              clear hK K
              try simp only [Act.put, List.setIfInBounds_toArray, List.set_cons_zero, List.set_cons_succ]
              refine tk (i := 9) (v := ?ve9) rfl (by kernel_rfl) (by kernel_rfl) (by kernel_rfl) (fun _ _ _ h => h) (by kernel_rfl) ?he9 hS13 ?_
              case he9 => intro w hSw; (try dsimp only at hSw); go_simp; try with_reducible rfl
              try simp only [Act.put, List.setIfInBounds_toArray, List.set_cons_zero, List.set_cons_succ]
              have hbx3 := (hbx.below h2 hbx.lt).below hb3 (Nat.lt_succ_self _)
              have hyr3 := (hyr.below h2 hyr.lt).below hb3 (by omega)
              have z0 := hbx3.cell 0
              have z2 := hbx3.frozen 0
              simp at z0
              have hoB3 : w3.ownsRow (p1 + 1) 4 1 (.slice B k d) k (bd.flatMap flagC) := (own_keep hoB (h2.alloc h2.size _)).kept hg3 (own_types hoB hoV (by decide))
              have hF3 : NwR (p1 + 1) w.heap.size p1 w (v ++ [x]) bd (k + 1) k (w3.setCell ⟨p1, 0, none⟩ (.slice A' (k + 1) c')) := by
                refine ⟨A', c', B, d, ?_, own_set1 hbx3 (by decide) ho3 0 _, own_set1 hbx3 (by decide) hoB3 0 _, hyr3.far (p := ⟨p1, 0, none⟩) (by show w.heap.size ≠ p1; omega) _, hB3.setCell (p := ⟨p1, 0, none⟩) (by show w.heap.size ≤ p1; omega) _, by have := hb3.size; have := (h2).size; simp; omega⟩
                have := hbx3.set_ 0 (.slice A' (k + 1) c')
                simpa using this
              refine wpAnyH_ready (rs := [10]) (by kernel_rfl) (by simp) ?_
              refine AllReadyH.cons rfl (fun K hK => ?_) AllReadyH.nil
              go_simp
              have kk14 := key _ (hB3.setCell (p := ⟨p1, 0, none⟩) (by show w.heap.size ≤ p1; omega) (.slice A' (k + 1) c'))
              unfold Four_ at kk14
              refine hK.out _ _ kk14 (fun _ => ?_)
              clear hK K
              refine wpAnyH_done (by kernel_rfl) ?_ _
              go_wp2_with fail
              go_meet
              exact ⟨rfl, hF3⟩
        case rest =>
          rename World => wx
          obtain ⟨rfl, hN⟩ := hcut
          clear hbx hoV hoB hyr hBr hbs HVa hd cd g0 y0 key hNr
          obtain ⟨A, c, B, d, hbx, hoV, hoB, hyr, hBr, hbs⟩ := hN
          obtain ⟨B', d', w5, hr5, ho5, hg5, hb5⟩ := app_flag (p1 + 1) wx B k d bd false hk100 hbs hoB
          have q0 := hbx.cell 0
          have q1 := hbx.cell 1
          have q2 := hbx.frozen 1
          simp at q0 q1
          have hlt1 : p1 < p1 + 1 := Nat.lt_succ_self _
          have hbx5 := hbx.below hb5 hlt1
          have hyr5 := hyr.below hb5 (by omega)
          have z0 := hbx5.cell 0
          have z1 := hbx5.cell 1
          have z2 := hbx5.frozen 1
          simp at z0 z1
          have hoV5 : w5.ownsRow (p1 + 1) 3 1 (.slice A (k + 1) c) (k + 1) ((v ++ [x]).flatMap numC) := (own_keep hoV ((Below.refl _ _).alloc (Nat.le_refl _) _)).kept hg5 (own_types hoV hoB (by decide))
          have HFin : Hid (NwR (p1 + 1) w.heap.size p1 w (v ++ [x]) (bd ++ [false]) (k + 1) (k + 1) (w5.setCell ⟨p1, 1, none⟩ (.slice B' (k + 1) d'))) := by
            refine ⟨A, c, B', d', ?_, own_set1 hbx5 (by decide) hoV5 1 _, own_set1 hbx5 (by decide) ho5 1 _, hyr5.far (p := ⟨p1, 1, none⟩) (by show w.heap.size ≠ p1; omega) _, (hBr.trans (hb5.mono (by omega))).setCell (p := ⟨p1, 1, none⟩) (by show w.heap.size ≤ p1; omega) _, by have := hb5.size; simp; omega⟩
            have := hbx5.set_ 1 (.slice B' (k + 1) d')
            simpa using this
          clear hbx hbx5 hyr hyr5 hoV hoB hoV5 ho5 hBr hb5 hg5 hbs
          have hk64 : IntKind.i64.wrap ((k : Int) + 1) = ((k + 1 : Nat) : Int) := by rw [IntKind.wrap_i64]; omega
          go_wp2_with (at_builtin; refine wpList_append_run rfl (.tmp 30) (.tmp 31) _ _ rfl rfl rfl hr5 ?_)
          go_roundw
          case rel =>
            refine ⟨k + 1, hlt, by go_num, ?_⟩
            rw [← HNV.out, ← HNB.out]
            exact HFin
          case measure => simp [intOf]; omega
      · have hk : k = len := by omega
        subst hk
        have hE1 : (newI l).v.take k = (newI l).v := List.take_of_length_le (by simp [newI, HL.out])
        have hE2 : (newI l).bad.take k = (newI l).bad := List.take_of_length_le (by simp [newI, HL.out])
        rw [hE1] at hoV
        rw [hE2] at hoB
        clear hE1 hE2
        have q0 := hbx.cell 0
        have q1 := hbx.cell 1
        simp at q0 q1
        have e0 := hyr.cell 0
        have e1 := hyr.cell 1
        have f0 := hyr.frozen 0
        have f1 := hyr.frozen 1
        simp at e0 e1
        have hy3 := two_set hyr (.slice A k c) (.slice B k d)
        have r0 := hy3.cell 0
        have r1 := hy3.cell 1
        simp at r0 r1
        have HO2 := Lib.hid (own_im2 hyr (by decide) (by decide) (own_im (im := newI l) (by simp [newI, HL.out]) (by simp [newI, HL.out]) hoV hoB) (.slice A k c) (.slice B k d))
        have HFin := Lib.hid ((hBr.setCell (p := ⟨w.heap.size, 0, none⟩) (Nat.le_refl _) (.slice A k c)).setCell (p := ⟨w.heap.size, 1, none⟩) (Nat.le_refl _) (.slice B k d))
        clear hy3 hyr hbx hBr hoV hoB
        go_wp2_with fail
        rw [HX2.out]
        exact bodyPost_ret (v := .tuple #[.agg #[.slice A k c, .slice B k d], .int .i64 0]) (by simp [results, Try.results12, go_sem, r0, r1]) rfl (impost_some (by simp [newI, HL.out]) (by simp [newI, HL.out]) HO2.out (by omega) HFin.out)
  · have HX2 : Hid (X = (none, z)) := HX0.out h0
    have b1 : (z != (0 : Int)) = true := by simpa using h0
    have e0 := hy.cell 0
    have e1 := hy.cell 1
    have f0 := hy.frozen 0
    have f1 := hy.frozen 1
    simp at e0 e1
    have hy3 := two_set hy (.slice none 0 0) (.slice none 0 0)
    have r0 := hy3.cell 0
    have r1 := hy3.cell 1
    simp at r0 r1
    clear h0
    go_wp2_with fail
    rw [HX2.out]
    exact bodyPost_ret (v := .tuple #[.agg #[.slice none 0 0, .slice none 0 0], .int .i64 z]) (by simp [results, Try.results12, go_sem, r0, r1]) rfl (impost_none ((hb0.setCell (p := ⟨w.heap.size, 0, none⟩) (Nat.le_refl _) _).setCell (p := ⟨w.heap.size, 1, none⟩) (Nat.le_refl _) _))
end Go.Proofs.Ytcapdekfbhbkiaa.Tg
