/-
  Contracts of tags.Env, of the document's Env, and of its Cells at equal cells.
-/
import Derived.Test.YtcapdekfbhbkiaaTgW2
namespace Go.Proofs.Ytcapdekfbhbkiaa.Tg
open Go.RowKit Lx

theorem env_yes {l : List Tg} {im : Im} (h : rightB l im = true) : envT l im = (l.zip im.v).map fun p => (p.1.nm, p.2) := by unfold envT; rw [if_pos h]
theorem env_no {l : List Tg} {im : Im} (h : rightB l im = false) : envT l im = [] := by unfold envT; rw [h]; rfl
theorem env_len {l : List Tg} {im : Im} (h : rightB l im = true) : (envT l im).length = l.length := by
  rw [env_yes h, List.length_map, List.length_zip, (right_ok h).2.1, Nat.min_self]
theorem env_at {l : List Tg} {im : Im} (h : rightB l im = true) {k : Nat} {t : Tg} {x : Int} (ht : l[k]? = some t) (hx : im.v[k]? = some x) : (envT l im)[k]? = some (t.nm, x) := by
  rw [env_yes h, List.getElem?_map, (List.getElem?_zip_eq_some (z := (t, x))).2 ⟨ht, hx⟩]
  rfl
def EnvPost (n : Nat) (E : List Cl) (w : World) (e : Ending) (w' : World) : Prop := ∃ A c, e = .returned (.slice A n c) ∧ Cells w' A E ∧ E.length = n ∧ Below w.heap.size w w'
def zerosC (n : Nat) : Array Value := madeCells (Value.agg #[.string ⟨#[]⟩, .int .i64 0]).cells (n * 2)
theorem zerosC_size (n : Nat) : (zerosC n).size = n * 2 := size_madeCells _ _
theorem run_make_cell (n : Nat) (hn : n ≤ 1000000) (w : World) : (Instr.makeSlice 36 (.int .i64 (n : Int)) (.int .i64 (n : Int))).run Try.prog w = .ok (.slice (some ⟨w.heap.size, 0, none⟩) n n) (w.alloc (.cells (zerosC n) 49)) := by
  obtain ⟨i0, hi0, hz0, hz1, hz2⟩ := info_parts info_cell
  have h := run_make (P := Try.prog) w 36 49 i0 _ Try.underlying36 hi0 hz0 .i64 .i64 n n (by omega) (by omega) (by rw [hz2]; omega) (by omega)
  rw [h, hz1, Int.toNat_natCast]
  rfl
/-- The first k cells are there. -/
def CPart (E : List Cl) (g n k : Nat) (w : World) : Prop := ∃ xs : Array Value, Box w g 49 xs ∧ xs.size = n * 2 ∧ ∀ j (hj : j < E.length), j < k → xs[j * 2]? = some (.string E[j].1) ∧ xs[j * 2 + 1]? = some (.int .i64 E[j].2)
theorem CPart.lt {E : List Cl} {g n k : Nat} {w : World} (h : CPart E g n k w) : g < w.heap.size := by
  obtain ⟨xs, hb, _⟩ := h; exact hb.lt
theorem CPart.below {E : List Cl} {g n k : Nat} {w w' : World} (h : CPart E g n k w) (hb : Below w.heap.size w w') : CPart E g n k w' := by
  obtain ⟨xs, h1, h2, h3⟩ := h
  exact ⟨xs, h1.below hb h1.lt, h2, h3⟩
theorem CPart.cells {E : List Cl} {g n : Nat} {w : World} (h : CPart E g n n w) (hn : E.length = n) : Cells w (some ⟨g, 0, none⟩) E := fun _ => by
  obtain ⟨xs, h1, h2, h3⟩ := h
  refine ⟨g, 0, rfl, h1.lt, fun i hi j u hu => ?_⟩
  obtain ⟨k1, k2⟩ := h3 i hi (by omega)
  rw [h1.cell, Nat.zero_add]
  match j, hu with
  | 0, hu => simp only [cellC, List.getElem?_cons_zero] at hu; rw [Nat.add_zero, k1, hu]
  | 1, hu => simp only [cellC, List.getElem?_cons_succ, List.getElem?_cons_zero] at hu; rw [k2, hu]
  | j + 2, hu => simp [cellC] at hu
theorem CPart.put {E : List Cl} {g n k : Nat} {w : World} (h : CPart E g n k w) (hk : k < n) (hn : E.length = n) (y : ByteArray) (z : Int) (he : ∀ hk : k < E.length, E[k] = (y, z)) : CPart E g n (k + 1) ((w.setCell ⟨g, k * 2, none⟩ (.string y)).setCell ⟨g, k * 2 + 1, none⟩ (.int .i64 z)) := by
  obtain ⟨xs, h1, h2, h3⟩ := h
  refine ⟨_, (h1.set_ (k * 2) (.string y)).set_ (k * 2 + 1) (.int .i64 z), by simp [h2], fun j hj hjk => ?_⟩
  by_cases hq : j = k
  · subst hq
    rw [he hj]
    constructor
    · rw [Array.getElem?_setIfInBounds_ne (by omega), Array.getElem?_setIfInBounds_self_of_lt (by omega)]
    · rw [Array.getElem?_setIfInBounds_self_of_lt (by simp; omega)]
  · obtain ⟨k1, k2⟩ := h3 j hj (by omega)
    constructor
    · rw [Array.getElem?_setIfInBounds_ne (by omega), Array.getElem?_setIfInBounds_ne (by omega)]; exact k1
    · rw [Array.getElem?_setIfInBounds_ne (by omega), Array.getElem?_setIfInBounds_ne (by omega)]; exact k2
theorem CPart.there {E : List Cl} {g n k : Nat} {w : World} (h : CPart E g n k w) (hk : k < n) : (∃ u, w.cell? ⟨g, k * 2, none⟩ = some u) ∧ (∃ u, w.cell? ⟨g, k * 2 + 1, none⟩ = some u) ∧ w.frozen? ⟨g, k * 2, none⟩ = false ∧ w.frozen? ⟨g, k * 2 + 1, none⟩ = false := by
  obtain ⟨xs, h1, h2, h3⟩ := h
  exact ⟨⟨_, (h1.cell _).trans (Array.getElem?_eq_getElem (by omega))⟩, ⟨_, (h1.cell _).trans (Array.getElem?_eq_getElem (by omega))⟩, h1.frozen _, h1.frozen _⟩

set_option maxRecDepth 100000 in
set_option maxHeartbeats 4000000 in
theorem Env_any (l : List Tg) (im : Im) (a A B : Option Addr) (cap c d : Nat) (w : World) (hl : l.length ≤ 1000000) (hn : im.v.length ≤ 1000000) (hm : im.bad.length ≤ 1000000) (hcap : l.length ≤ cap) (hT : Tags w a l) (hV : Nums w A im.v) (hB : Flags w B im.bad) :
    Calls Try.prog 25 #[.slice a l.length cap, .agg #[.slice A im.v.length c, .slice B im.bad.length d]] w (EnvPost (envT l im).length (envT l im) w) := by
  have hR := Right_any l a cap im A B c d (w.alloc (.cells #[.slice A im.v.length c, .slice B im.bad.length d] 28)) hl hn hm hcap (hT.alloc _) (hV.alloc _) (hB.alloc _)
  have hx0 := Box.new w 28 #[.slice A im.v.length c, .slice B im.bad.length d]
  cases hr : rightB l im with
  | false =>
    have hE := env_no hr
    rw [hE]
    rw [hr] at hR
    clear hT hV hB hE hr
    generalize l.length = len at *
    generalize im.v.length = n at *
    generalize im.bad.length = m at *
    go_enter Try.func25, Try.ntmps25
    go_wp2_with fail
    refine hR.mono ?_
    rintro e w1 ⟨rfl, hb1⟩
    go_wp2_with fail
    go_ret
    exact ⟨none, 0, rfl, RowF.nil_, rfl, below_new hb1⟩
  | true =>
    have HEl := Lib.hid (env_len hr)
    have HEa := Lib.hid (fun k t x ht hx => env_at (k := k) (t := t) (x := x) hr ht hx)
    rw [hr] at hR
    have hvl := (right_ok hr).2.1
    have HT := Lib.hid hT
    have HV := Lib.hid hV
    clear hT hV hB hr
    rw [HEl.out]
    generalize hEE : envT l im = E at *
    clear hEE
    have HVL := Lib.hid hvl
    generalize hL : l.length = len at *
    have HL := Lib.hid hL
    clear hL
    generalize hn1 : im.v.length = n at *
    have HN := Lib.hid hn1
    clear hn1
    generalize im.bad.length = m at *
    subst hvl
    have hmk := fun w => run_make_cell n hl w
    go_enter Try.func25, Try.ntmps25
    go_wp2_with fail
    refine hR.mono ?_
    rintro e w1 ⟨rfl, hb1⟩
    have hx1 := hx0.below hb1 hx0.lt
    have hB1 := below_new hb1
    clear hx0 hb1 hR
    have hP0 : CPart E w1.heap.size n 0 (w1.alloc (.cells (zerosC n) 49)) := ⟨_, Box.new _ _ _, zerosC_size n, fun j _ hj => absurd hj (by omega)⟩
    have hpg : w.heap.size < w1.heap.size := hx1.lt
    have hx2 := hx1.alloc (.cells (zerosC n) 49)
    have hB2 := hB1.alloc hB1.size (.cells (zerosC n) 49)
    clear hx1 hB1
    go_wp2_with fail
    generalize hW : w1.alloc (.cells (zerosC n) 49) = W at *
    clear hW
    generalize hgg : w1.heap.size = gC at *
    clear hgg
    go_loopw [17] (fun i wr => ∃ k : Nat, k ≤ n ∧ i = .int .i64 k ∧ Hid (CPart E gC n k wr) ∧ Hid (Box wr w.heap.size 28 #[.slice A n c, .slice B m d]) ∧ Below w.heap.size w wr) (fun i _ => n - (intOf i).toNat)
    case atStart => exact ⟨0, by omega, rfl, hP0, hx2, hB2⟩
    case round =>
      obtain ⟨k, hkl, rfl, HP, HX, hBr⟩ := hrel
      by_cases hlt : k < n
      · have hki : k < l.length := by rw [HL.out]; exact hlt
        have hkv : k < im.v.length := by rw [HN.out]; exact hlt
        obtain ⟨g, off, rfl, hg, c0, c1, c2, c3⟩ := Tags.at4 (RowF.below HT.out hBr) hki
        obtain ⟨gv, ov, rfl, hgv, cv⟩ := Nums.at1 HV.out hkv
        rw [← hBr.cell (p := ⟨gv, _, none⟩) hgv] at cv
        have hgvr : gv < wr.heap.size := Nat.lt_of_lt_of_le hgv hBr.size
        have HEk : Hid (∀ hk : k < E.length, E[k] = (l[k].nm, im.v[k])) := fun he => by
          have := HEa.out k _ _ (List.getElem?_eq_getElem hki) (List.getElem?_eq_getElem hkv)
          rw [List.getElem?_eq_getElem he] at this
          injection this
        have hE : E.length = n := by rw [HEl.out]
        have hEh := Lib.hid hE
        clear hE
        generalize l[k] = t at *
        obtain ⟨nm, out, lo, hi⟩ := t
        simp only at *
        generalize im.v[k] = x at *
        have hq := HX.out.alloc (.cells #[.string nm, .bool out, .int .i64 lo, .int .i64 hi] 51)
        have ht := Box.new wr 51 #[.string nm, .bool out, .int .i64 lo, .int .i64 hi]
        have hP := HP.out.below ((Below.refl _ _).alloc (Nat.le_refl _) (.cells #[.string nm, .bool out, .int .i64 lo, .int .i64 hi] 51))
        have hBa := hBr.alloc hBr.size (.cells #[.string nm, .bool out, .int .i64 lo, .int .i64 hi] 51)
        have cva : (wr.alloc (.cells #[.string nm, .bool out, .int .i64 lo, .int .i64 hi] 51)).cell? ⟨gv, ov + k, none⟩ = some (.int .i64 x) := by rw [World.cell?_alloc_lt _ _ _ hgvr]; exact cv
        have hgC : gC < wr.heap.size := HP.out.lt
        have hk64 : IntKind.i64.wrap ((k : Int) + 1) = ((k + 1 : Nat) : Int) := by rw [IntKind.wrap_i64]; omega
        go_wp2_with fail
        generalize hWr : wr.alloc (.cells #[.string nm, .bool out, .int .i64 lo, .int .i64 hi] 51) = W2 at *
        clear hWr cv c0 c1 c2 c3
        obtain ⟨⟨u0, th0⟩, ⟨u1, th1⟩, fz0, fz1⟩ := hP.there hlt
        have cd : W2.drew.cell? ⟨w.heap.size, 0, none⟩ = some (.slice (some ⟨gv, ov, none⟩) n c) ∧ W2.drew.cell? ⟨wr.heap.size, 0, none⟩ = some (.string nm) ∧ W2.drew.cell? ⟨gv, ov + k, none⟩ = some (.int .i64 x) := ⟨hq.cell 0, ht.cell 0, cva⟩
        have hd0 : W2.drew.cell? ⟨gC, k * 2, none⟩ = some u0 := th0
        have hd1 : W2.drew.cell? ⟨gC, k * 2 + 1, none⟩ = some u1 := th1
        have hf0 : W2.drew.frozen? ⟨gC, k * 2, none⟩ = false := fz0
        have hf1 : W2.drew.frozen? ⟨gC, k * 2 + 1, none⟩ = false := fz1
        have hP2 := CPart.put hP hlt hEh.out nm x HEk.out
        have hq2 := (hq.far (p := ⟨gC, k * 2, none⟩) (by show w.heap.size ≠ gC; omega) (.string nm)).far (p := ⟨gC, k * 2 + 1, none⟩) (by show w.heap.size ≠ gC; omega) (.int .i64 x)
        have ht2 := (ht.far (p := ⟨gC, k * 2, none⟩) (by show wr.heap.size ≠ gC; omega) (.string nm)).far (p := ⟨gC, k * 2 + 1, none⟩) (by show wr.heap.size ≠ gC; omega) (.int .i64 x)
        have hB3 := (hBa.setCell (p := ⟨gC, k * 2, none⟩) (by show w.heap.size ≤ gC; omega) (.string nm)).setCell (p := ⟨gC, k * 2 + 1, none⟩) (by show w.heap.size ≤ gC; omega) (.int .i64 x)
        have cv2 : ((W2.setCell ⟨gC, k * 2, none⟩ (.string nm)).setCell ⟨gC, k * 2 + 1, none⟩ (.int .i64 x)).cell? ⟨gv, ov + k, none⟩ = some (.int .i64 x) := by
          rw [World.cell?_of_block (Below.heap_setCell _ _ _ _ (by show gv ≠ gC; omega)), World.cell?_of_block (Below.heap_setCell _ _ _ _ (by show gv ≠ gC; omega))]
          exact cva
        refine region_start (S := fun w' => w'.cell? ⟨w.heap.size, 0, none⟩ = some (.slice (some ⟨gv, ov, none⟩) n c) ∧ w'.cell? ⟨wr.heap.size, 0, none⟩ = some (.string nm) ∧ w'.cell? ⟨gv, ov + k, none⟩ = some (.int .i64 x)) (n := 12) (lit := #[false, false, false, false, false, false, false, false, false, false, false, false]) rfl rfl (by kernel_rfl) cd fun hS => ?_
        refine tk (i := 0) (v := ?vb0) rfl (by kernel_rfl) (by kernel_rfl) (by kernel_rfl) (fun _ _ _ h => h) (by kernel_rfl) ?hb0 hS ?_
        case hb0 => intro w hSw; (try dsimp only at hSw); go_simp; try with_reducible rfl
        try simp only [Act.put, List.setIfInBounds_toArray, List.set_cons_zero, List.set_cons_succ]
        refine tk (i := 1) (v := ?vb1) rfl (by kernel_rfl) (by kernel_rfl) (by kernel_rfl) (fun _ _ _ h => h) (by kernel_rfl) ?hb1 hS ?_
        case hb1 => intro w hSw; (try dsimp only at hSw); go_simp; try with_reducible rfl
        try simp only [Act.put, List.setIfInBounds_toArray, List.set_cons_zero, List.set_cons_succ]
        refine tk (i := 2) (v := ?vb2) rfl (by kernel_rfl) (by kernel_rfl) (by kernel_rfl) (fun _ _ _ h => h) (by kernel_rfl) ?hb2 hS ?_
        case hb2 => intro w hSw; (try dsimp only at hSw); go_simp; try with_reducible rfl
        try simp only [Act.put, List.setIfInBounds_toArray, List.set_cons_zero, List.set_cons_succ]
        refine tk (i := 3) (v := ?vb3) rfl (by kernel_rfl) (by kernel_rfl) (by kernel_rfl) (fun _ _ _ h => h) (by kernel_rfl) ?hb3 hS ?_
        case hb3 => intro w hSw; (try dsimp only at hSw); go_simp; try with_reducible rfl
        try simp only [Act.put, List.setIfInBounds_toArray, List.set_cons_zero, List.set_cons_succ]
        refine tk (i := 4) (v := ?vb4) rfl (by kernel_rfl) (by kernel_rfl) (by kernel_rfl) (fun _ _ _ h => h) (by kernel_rfl) ?hb4 hS ?_
        case hb4 => intro w hSw; (try dsimp only at hSw); go_simp; try with_reducible rfl
        try simp only [Act.put, List.setIfInBounds_toArray, List.set_cons_zero, List.set_cons_succ]
        refine tk (i := 5) (v := ?vb5) rfl (by kernel_rfl) (by kernel_rfl) (by kernel_rfl) (fun _ _ _ h => h) (by kernel_rfl) ?hb5 hS ?_
        case hb5 => intro w hSw; (try dsimp only at hSw); go_simp; try with_reducible rfl
        try simp only [Act.put, List.setIfInBounds_toArray, List.set_cons_zero, List.set_cons_succ]
        refine tk (i := 6) (v := ?vb6) rfl (by kernel_rfl) (by kernel_rfl) (by kernel_rfl) (fun _ _ _ h => h) (by kernel_rfl) ?hb6 hS ?_
        case hb6 => intro w hSw; (try dsimp only at hSw); go_simp; try with_reducible rfl
        try simp only [Act.put, List.setIfInBounds_toArray, List.set_cons_zero, List.set_cons_succ]
        refine tk (i := 7) (v := ?vb7) rfl (by kernel_rfl) (by kernel_rfl) (by kernel_rfl) (fun _ _ _ h => h) (by kernel_rfl) ?hb7 hS ?_
        case hb7 => intro w hSw; (try dsimp only at hSw); go_simp; try with_reducible rfl
        try simp only [Act.put, List.setIfInBounds_toArray, List.set_cons_zero, List.set_cons_succ]
        refine tk (i := 8) (v := ?vb8) rfl (by kernel_rfl) (by kernel_rfl) (by kernel_rfl) (fun _ _ _ h => h) (by kernel_rfl) ?hb8 hS ?_
        case hb8 => intro w hSw; (try dsimp only at hSw); go_simp; try with_reducible rfl
        try simp only [Act.put, List.setIfInBounds_toArray, List.set_cons_zero, List.set_cons_succ]
        refine tk (i := 9) (v := ?vb9) rfl (by kernel_rfl) (by kernel_rfl) (by kernel_rfl) (fun _ _ _ h => h) (by kernel_rfl) ?hb9 hS ?_
        case hb9 => intro w hSw; (try dsimp only at hSw); go_simp; try with_reducible rfl
        try simp only [Act.put, List.setIfInBounds_toArray, List.set_cons_zero, List.set_cons_succ]
        refine tk (i := 10) (v := ?vb10) rfl (by kernel_rfl) (by kernel_rfl) (by kernel_rfl) (fun _ _ _ h => h) (by kernel_rfl) ?hb10 hS ?_
        case hb10 => intro w hSw; (try dsimp only at hSw); go_simp; try with_reducible rfl
        try simp only [Act.put, List.setIfInBounds_toArray, List.set_cons_zero, List.set_cons_succ]
        refine wpAnyH_ready (rs := [11]) (by kernel_rfl) (by simp) ?_
        refine AllReadyH.cons rfl (fun K hK => ?_) AllReadyH.nil
        go_simp
        refine hK.out _ _ ⟨hq2.cell 0, ht2.cell 0, cv2⟩ (fun _ => ?_)
        clear hK K
        refine wpAnyH_done (by kernel_rfl) ?_ _
        go_wp2_with fail
        go_roundw
        case rel => exact ⟨k + 1, hlt, by go_num, hP2, hq2.drew, below_drew hB3⟩
        case measure => simp [intOf]; omega
      · have hk : k = n := by omega
        subst hk
        have HPn := HP.out.cells HEl.out
        go_wp2_with fail
        go_ret
        exact ⟨_, _, rfl, HPn, HEl.out, hBr⟩
end Go.Proofs.Ytcapdekfbhbkiaa.Tg
