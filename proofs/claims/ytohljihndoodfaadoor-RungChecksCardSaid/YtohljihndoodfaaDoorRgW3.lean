/-
  Contracts of the checker's comparison and instruction.
-/
import Derived.Test.YtohljihndoodfaaDoorRgW2
namespace Go.Proofs.YtohljihndoodfaaDoor.Rg
open Go.RowKit Lx Ep

/-- A checker's value. -/
def chkV (BA : Option Addr) (nb bc : Nat) (ft : Nat) (bt : Array Value) (fp : Nat) (bp : Array Value) : Value := .agg #[.slice BA nb bc, .func (.func ft) #[] bt, .func (.func fp) #[] bp]
def IntPost (z : Int) (w : World) (o : Ending) (w' : World) : Prop := o = .returned (.int .i64 z) ∧ Below w.heap.size w w'
def cmpX (tag : Nm → Bool) (m : Bool) (l : List Nm) : Int := if l.all tag = true then (if m = true then 0 else 1) else 21
theorem cmpX_stop {tag : Nm → Bool} {m : Bool} {l : List Nm} {k : Nat} (h : k < l.length) (ht : tag l[k] = false) : cmpX tag m (l.drop k) = 21 := by
  unfold cmpX
  rw [List.drop_eq_getElem_cons h, List.all_cons, ht]; rfl
theorem cmpX_go {tag : Nm → Bool} {m : Bool} {l : List Nm} {k : Nat} (h : k < l.length) (ht : tag l[k] = true) : cmpX tag m (l.drop k) = cmpX tag m (l.drop (k + 1)) := by
  unfold cmpX
  rw [List.drop_eq_getElem_cons h, List.all_cons, ht]; rfl
theorem srow_at {w : World} {a : Option Addr} {n cap : Nat} {R : List Nm} (h : SRow w (.slice a n cap) R) : n = R.length ∧ Strs w a R := by
  obtain ⟨a', cap', hv, _, hk⟩ := h
  injection hv with h1 h2 h3
  subst h1 h2
  refine ⟨rfl, fun h0 => ?_⟩
  obtain ⟨g, e, hg, hc⟩ := hk (List.ne_nil_of_length_pos h0)
  refine ⟨g, 0, e, hg, fun i hi j u hu => ?_⟩
  have := hc i hi
  rw [List.getD_eq_getElem?_getD, List.getElem?_eq_getElem hi] at this
  match j, hu with
  | 0, hu =>
    injection hu with hu
    subst hu
    simpa using this
  | j + 1, hu => cases hu

theorem insN_len (l : List Nm) (x : Nm) : (insN l x).length ≤ l.length + 1 := by
  unfold insN
  split
  · omega
  · have : ∀ l : List Nm, (putN x l).length = l.length + 1 := by
      intro l
      induction l with
      | nil => rfl
      | cons y r ih => unfold putN; split <;> simp [ih]
    rw [this]; omega
theorem foldN_len (ns : List Nm) : ∀ l : List Nm, (ns.foldl insN l).length ≤ l.length + ns.length := by
  induction ns with
  | nil => intro l; simp
  | cons x r ih =>
    intro l
    rw [List.foldl_cons]
    have := ih (insN l x)
    have := insN_len l x
    simp only [List.length_cons]
    omega
theorem namesP_len (t : Ex) (hN : numsE t) : (namesP t).length ≤ 64 := by
  unfold namesP
  split
  · rename_i h
    have h1 := may_names h hN
    have h2 := foldN_len (namesE t) []
    simp at h2
    omega
  · simp

set_option maxHeartbeats 4000000 in
theorem comparison_1 (t : Ex) (a : Option Addr) (cap : Nat) (BA : Option Addr) (nb bc : Nat) (fp : Nat) (bp : Array Value) (w : World) (hT : Tabs w) (hE : TreeV (fun _ => True) w t (exV t.op t.n t.name a t.kids.length cap)) (hN : numsE t) :
    Calls Tryd.prog 75 #[chkV BA nb bc 31 #[] fp bp, exV t.op t.n t.name a t.kids.length cap] w (IntPost (cmpP (yes) t) w) := by
  have HX : Hid (cmpX (yes) (mayB t) ((namesP t).drop 0) = cmpP (yes) t) := rfl
  have hNm : ∀ wx, Below w.heap.size w wx → Calls Tryd.prog 78 #[exV t.op t.n t.name a t.kids.length cap] wx (NsPost (namesP t) wx) := fun wx hb => Names_any t (fun _ => True) _ wx (hT.below hb).ops (hE.below hb (Nat.le_refl _)) hN
  have hMy : ∀ wx, Below w.heap.size w wx → Calls Tryd.prog 18 #[exV t.op t.n t.name a t.kids.length cap] wx fun e w' => e = .returned (.bool (mayB t)) ∧ Below wx.heap.size wx w' := fun wx hb => May_any t (fun _ => True) _ wx (hT.below hb).ops (hE.below hb (Nat.le_refl _))
  have hKn : ∀ (x : Nm) wx, Below w.heap.size w wx → Calls Tryd.prog 31 #[.string ⟨x.toArray⟩] wx fun e w' => e = .returned (.bool (yes x)) ∧ Below wx.heap.size wx w' := fun x wx _ => always_any x wx
  have h64 := namesP_len t hN
  have HNm := Lib.hid hNm
  have HMy := Lib.hid hMy
  have HKn := Lib.hid hKn
  clear hNm hMy hKn hT hE hN
  unfold chkV exV at *
  generalize cmpP (yes) t = X at *
  generalize namesP t = R at *
  generalize hm : t.kids.length = m at *
  clear hm
  go_enter Tryd.func75, Tryd.ntmps75
  go_wp2_with fail
  refine (HNm.out _ (((Below.refl _ _).alloc (Nat.le_refl _) _).alloc (by simp) _)).mono ?_
  rintro e w1 ⟨v, rfl, hrow, hb1⟩
  obtain ⟨a1, c1, hv, -, -⟩ := id hrow
  subst hv
  obtain ⟨-, hS1⟩ := srow_at hrow
  have hx1 := ((Box.new w 73 #[.slice BA nb bc, .func (.func 31) #[] #[], .func (.func fp) #[] bp]).alloc (.cells #[.int .i64 t.op, .int .i64 t.n, .string ⟨t.name.toArray⟩, .slice a m cap] 34)).below hb1 (by simp; omega)
  have hx2 := (Box.new (w.alloc (.cells #[.slice BA nb bc, .func (.func 31) #[] #[], .func (.func fp) #[] bp] 73)) 34 #[.int .i64 t.op, .int .i64 t.n, .string ⟨t.name.toArray⟩, .slice a m cap]).below hb1 (by simp)
  have hB1 := (((Below.refl _ w).alloc (Nat.le_refl _) (.cells #[.slice BA nb bc, .func (.func 31) #[] #[], .func (.func fp) #[] bp] 73)).alloc (by simp) (.cells #[.int .i64 t.op, .int .i64 t.n, .string ⟨t.name.toArray⟩, .slice a m cap] 34)).trans (hb1.mono (by simp; omega))
  have es : (w.alloc (.cells #[.slice BA nb bc, .func (.func 31) #[] #[], .func (.func fp) #[] bp] 73)).heap.size = w.heap.size + 1 := by simp
  rw [es] at hx2
  have HS1 := Lib.hid hS1
  clear hrow hS1 hb1 es HNm
  generalize hL : R.length = len at *
  have HL := Lib.hid hL
  clear hL
  go_wp2
  go_loopw [10] (fun i wr => ∃ k : Nat, k ≤ len ∧ i = .int .i64 k ∧ Hid (cmpX (yes) (mayB t) (R.drop k) = X) ∧ Hid (Below w1.heap.size w1 wr)) (fun i _ => len - (intOf i).toNat)
  case atStart => exact ⟨0, by omega, rfl, HX, Below.refl _ _⟩
  case round =>
    obtain ⟨k, hkl, rfl, HS, hbr⟩ := hrel
    have kx1 := hx1.below hbr.out hx1.lt
    have kx2 := hx2.below hbr.out hx2.lt
    have p1 := kx1.cell 1
    simp at p1
    by_cases hlt : k < len
    · have hki : k < R.length := by rw [HL.out]; exact hlt
      obtain ⟨g, off, rfl, hg, c0⟩ := Strs.at1 (RowF.below HS1.out hbr.out) hki
      have hst := cmpX_stop (tag := yes) (m := mayB t) hki
      have hgo := cmpX_go (tag := yes) (m := mayB t) hki
      generalize R[k] = x at *
      have hklt : ((k : Nat) : Int) < (len : Int) := by omega
      have hKx := HKn.out x wr (hB1.trans (hbr.out.mono hB1.size))
      cases htx : (yes) x with
      | true =>
        have HS2 : Hid (cmpX (yes) (mayB t) (R.drop (k + 1)) = X) := by unfold Hid; rw [← hgo htx]; exact HS.out
        replace htx : yes x = true := htx
        rw [htx] at hKx
        clear hst hgo htx HS kx1 kx2
        go_wp2_with (go_at_call 31; refine hKx.mono ?_; rintro e w2 ⟨rfl, hb2⟩)
        go_roundw
        case rel => exact ⟨k + 1, hlt, by go_num, HS2, hbr.out.trans (hb2.mono hbr.out.size)⟩
        case measure => simp [intOf]; omega
      | false =>
        have HS2 : Hid (X = 21) := by unfold Hid; rw [← HS.out]; exact hst htx
        replace htx : yes x = false := htx
        rw [htx] at hKx
        clear hst hgo htx HS kx1 kx2
        go_wp2_with (go_at_call 31; refine hKx.mono ?_; rintro e w2 ⟨rfl, hb2⟩)
        go_ret
        exact ⟨ret_int HS2.out.symm, hB1.trans ((hbr.out.trans (hb2.mono hbr.out.size)).mono hB1.size)⟩
    · have HS2 : Hid (X = if mayB t = true then 0 else 1) := by
        unfold Hid; rw [← HS.out, List.drop_eq_nil_of_le (by rw [HL.out]; omega)]; rfl
      obtain ⟨q0, q1, q2, q3, -, -, -, -⟩ := kx2.four
      have hMx := HMy.out wr (hB1.trans (hbr.out.mono hB1.size))
      clear HS kx1 kx2
      cases hm2 : mayB t with
      | true =>
        rw [hm2] at hMx HS2
        go_wp2_with fail
        refine hMx.mono ?_
        rintro e w2 ⟨rfl, hb2⟩
        go_wp2
        go_ret
        exact ⟨ret_int HS2.out.symm, hB1.trans ((hbr.out.trans (hb2.mono hbr.out.size)).mono hB1.size)⟩
      | false =>
        rw [hm2] at hMx HS2
        go_wp2_with fail
        refine hMx.mono ?_
        rintro e w2 ⟨rfl, hb2⟩
        go_wp2
        go_ret
        exact ⟨ret_int HS2.out.symm, hB1.trans ((hbr.out.trans (hb2.mono hbr.out.size)).mono hB1.size)⟩

set_option maxHeartbeats 4000000 in
theorem comparison_2 (t : Ex) (a : Option Addr) (cap : Nat) (BA : Option Addr) (nb bc : Nat) (fp : Nat) (bp : Array Value) (R0 : List Nm) (A0 : Option Addr) (c0 p0 : Nat) (w : World) (hT : Tabs w) (hE : TreeV (fun _ => True) w t (exV t.op t.n t.name a t.kids.length cap)) (hN : numsE t) (hp : Box w p0 23 #[.slice A0 R0.length c0]) (hS : Strs w A0 R0) (hl : R0.length ≤ 1000000) :
    Calls Tryd.prog 75 #[chkV BA nb bc 36 #[.pointer (some ⟨p0, 0, none⟩)] fp bp, exV t.op t.n t.name a t.kids.length cap] w (IntPost (cmpP (fun x => decide (x ∈ R0)) t) w) := by
  have HX : Hid (cmpX (fun x => decide (x ∈ R0)) (mayB t) ((namesP t).drop 0) = cmpP (fun x => decide (x ∈ R0)) t) := rfl
  have hNm : ∀ wx, Below w.heap.size w wx → Calls Tryd.prog 78 #[exV t.op t.n t.name a t.kids.length cap] wx (NsPost (namesP t) wx) := fun wx hb => Names_any t (fun _ => True) _ wx (hT.below hb).ops (hE.below hb (Nat.le_refl _)) hN
  have hMy : ∀ wx, Below w.heap.size w wx → Calls Tryd.prog 18 #[exV t.op t.n t.name a t.kids.length cap] wx fun e w' => e = .returned (.bool (mayB t)) ∧ Below wx.heap.size wx w' := fun wx hb => May_any t (fun _ => True) _ wx (hT.below hb).ops (hE.below hb (Nat.le_refl _))
  have hKn : ∀ (x : Nm) wx, Below w.heap.size w wx → Calls Tryd.prog 36 #[.string ⟨x.toArray⟩, .pointer (some ⟨p0, 0, none⟩)] wx fun e w' => e = .returned (.bool ((fun x => decide (x ∈ R0)) x)) ∧ Below wx.heap.size wx w' := fun x wx hb => among_any R0 A0 c0 p0 x wx (hp.below hb hp.lt) (hS.below hb) hl
  have h64 := namesP_len t hN
  have HNm := Lib.hid hNm
  have HMy := Lib.hid hMy
  have HKn := Lib.hid hKn
  clear hNm hMy hKn hT hE hN hp hS hl
  unfold chkV exV at *
  generalize cmpP (fun x => decide (x ∈ R0)) t = X at *
  generalize namesP t = R at *
  generalize hm : t.kids.length = m at *
  clear hm
  go_enter Tryd.func75, Tryd.ntmps75
  go_wp2_with fail
  refine (HNm.out _ (((Below.refl _ _).alloc (Nat.le_refl _) _).alloc (by simp) _)).mono ?_
  rintro e w1 ⟨v, rfl, hrow, hb1⟩
  obtain ⟨a1, c1, hv, -, -⟩ := id hrow
  subst hv
  obtain ⟨-, hS1⟩ := srow_at hrow
  have hx1 := ((Box.new w 73 #[.slice BA nb bc, .func (.func 36) #[] #[.pointer (some ⟨p0, 0, none⟩)], .func (.func fp) #[] bp]).alloc (.cells #[.int .i64 t.op, .int .i64 t.n, .string ⟨t.name.toArray⟩, .slice a m cap] 34)).below hb1 (by simp; omega)
  have hx2 := (Box.new (w.alloc (.cells #[.slice BA nb bc, .func (.func 36) #[] #[.pointer (some ⟨p0, 0, none⟩)], .func (.func fp) #[] bp] 73)) 34 #[.int .i64 t.op, .int .i64 t.n, .string ⟨t.name.toArray⟩, .slice a m cap]).below hb1 (by simp)
  have hB1 := (((Below.refl _ w).alloc (Nat.le_refl _) (.cells #[.slice BA nb bc, .func (.func 36) #[] #[.pointer (some ⟨p0, 0, none⟩)], .func (.func fp) #[] bp] 73)).alloc (by simp) (.cells #[.int .i64 t.op, .int .i64 t.n, .string ⟨t.name.toArray⟩, .slice a m cap] 34)).trans (hb1.mono (by simp; omega))
  have es : (w.alloc (.cells #[.slice BA nb bc, .func (.func 36) #[] #[.pointer (some ⟨p0, 0, none⟩)], .func (.func fp) #[] bp] 73)).heap.size = w.heap.size + 1 := by simp
  rw [es] at hx2
  have HS1 := Lib.hid hS1
  clear hrow hS1 hb1 es HNm
  generalize hL : R.length = len at *
  have HL := Lib.hid hL
  clear hL
  go_wp2
  go_loopw [10] (fun i wr => ∃ k : Nat, k ≤ len ∧ i = .int .i64 k ∧ Hid (cmpX (fun x => decide (x ∈ R0)) (mayB t) (R.drop k) = X) ∧ Hid (Below w1.heap.size w1 wr)) (fun i _ => len - (intOf i).toNat)
  case atStart => exact ⟨0, by omega, rfl, HX, Below.refl _ _⟩
  case round =>
    obtain ⟨k, hkl, rfl, HS, hbr⟩ := hrel
    have kx1 := hx1.below hbr.out hx1.lt
    have kx2 := hx2.below hbr.out hx2.lt
    have p1 := kx1.cell 1
    simp at p1
    by_cases hlt : k < len
    · have hki : k < R.length := by rw [HL.out]; exact hlt
      obtain ⟨g, off, rfl, hg, c0⟩ := Strs.at1 (RowF.below HS1.out hbr.out) hki
      have hst := cmpX_stop (tag := fun x => decide (x ∈ R0)) (m := mayB t) hki
      have hgo := cmpX_go (tag := fun x => decide (x ∈ R0)) (m := mayB t) hki
      generalize R[k] = x at *
      have hklt : ((k : Nat) : Int) < (len : Int) := by omega
      have hKx := HKn.out x wr (hB1.trans (hbr.out.mono hB1.size))
      cases htx : (fun x => decide (x ∈ R0)) x with
      | true =>
        have HS2 : Hid (cmpX (fun x => decide (x ∈ R0)) (mayB t) (R.drop (k + 1)) = X) := by unfold Hid; rw [← hgo htx]; exact HS.out
        replace htx : decide (x ∈ R0) = true := htx
        rw [htx] at hKx
        clear hst hgo htx HS kx1 kx2
        go_wp2_with (go_at_call 36; refine hKx.mono ?_; rintro e w2 ⟨rfl, hb2⟩)
        go_roundw
        case rel => exact ⟨k + 1, by omega, by go_num, HS2, hbr.out.trans (hb2.mono hbr.out.size)⟩
        case measure => simp [intOf]; omega
      | false =>
        have HS2 : Hid (X = 21) := by unfold Hid; rw [← HS.out]; exact hst htx
        replace htx : decide (x ∈ R0) = false := htx
        rw [htx] at hKx
        clear hst hgo htx HS kx1 kx2
        go_wp2_with (go_at_call 36; refine hKx.mono ?_; rintro e w2 ⟨rfl, hb2⟩)
        go_ret
        exact ⟨ret_int HS2.out.symm, hB1.trans ((hbr.out.trans (hb2.mono hbr.out.size)).mono hB1.size)⟩
    · have HS2 : Hid (X = if mayB t = true then 0 else 1) := by
        unfold Hid; rw [← HS.out, List.drop_eq_nil_of_le (by rw [HL.out]; omega)]; rfl
      obtain ⟨q0, q1, q2, q3, -, -, -, -⟩ := kx2.four
      have hMx := HMy.out wr (hB1.trans (hbr.out.mono hB1.size))
      clear HS kx1 kx2
      cases hm2 : mayB t with
      | true =>
        rw [hm2] at hMx HS2
        go_wp2_with fail
        refine hMx.mono ?_
        rintro e w2 ⟨rfl, hb2⟩
        go_wp2
        go_ret
        exact ⟨ret_int HS2.out.symm, hB1.trans ((hbr.out.trans (hb2.mono hbr.out.size)).mono hB1.size)⟩
      | false =>
        rw [hm2] at hMx HS2
        go_wp2_with fail
        refine hMx.mono ?_
        rintro e w2 ⟨rfl, hb2⟩
        go_wp2
        go_ret
        exact ⟨ret_int HS2.out.symm, hB1.trans ((hbr.out.trans (hb2.mono hbr.out.size)).mono hB1.size)⟩


set_option maxHeartbeats 2000000 in
theorem comparison_any (t : Ex) (a : Option Addr) (cap : Nat) (BA : Option Addr) (nb bc : Nat) (ft : Nat) (bt : Array Value) (fp : Nat) (bp : Array Value) (tag : Nm → Bool) (w : World) (hT : Tabs w) (hE : TreeV (fun _ => True) w t (exV t.op t.n t.name a t.kids.length cap)) (hN : numsE t) (hK : Known w ft bt tag) :
    Calls Tryd.prog 75 #[chkV BA nb bc ft bt fp bp, exV t.op t.n t.name a t.kids.length cap] w (IntPost (cmpP tag t) w) := by
  rcases hK with ⟨rfl, rfl, rfl⟩ | ⟨rfl, p, A, c, R, rfl, hp, hS, hl, rfl⟩
  · exact comparison_1 t a cap BA nb bc fp bp w hT hE hN
  · exact comparison_2 t a cap BA nb bc fp bp R A c p w hT hE hN hp hS hl

set_option maxHeartbeats 4000000 in
theorem instruction_any (i : In) (BA : Option Addr) (bits : List Nm) (bc : Nat) (ft : Nat) (bt : Array Value) (fp : Nat) (bp : Array Value) (tag : Nm → Bool) (w : World) (hT : Tabs w) (hE : TrE w i) (hK : Known w ft bt tag) (hB : Strs w BA bits) (hl : bits.length ≤ 1000000) :
    Calls Tryd.prog 70 #[chkV BA bits.length bc ft bt fp bp, insV i] w (IntPost (insP bits tag i) w) := by
  have hF : ∀ wx, Below w.heap.size w wx → Calls Tryd.prog 74 #[insV i] wx fun o w' => o = .returned (.bool (formedI i)) ∧ Below wx.heap.size wx w' := fun wx hb => formed_any9 i wx (hT.below hb)
  have hC : ∀ wx, Below w.heap.size w wx → Calls Tryd.prog 37 #[.slice BA bits.length bc, .string ⟨i.nm.toArray⟩] wx fun e w' => e = .returned (.bool (decide (i.nm ∈ bits))) ∧ wx = w' := fun wx hb => contains_any bits BA bc i.nm wx (hB.below hb) hl
  have hM : ∀ wx, Below w.heap.size w wx → Calls Tryd.prog 75 #[chkV BA bits.length bc ft bt fp bp, exOf i] wx (IntPost (cmpP tag i.e) wx) := fun wx hb => comparison_any i.e i.ea i.ec BA bits.length bc ft bt fp bp tag wx (hT.below hb) (hE.below hb).1 hE.2 (hK.below hb)
  clear hE hK hB
  unfold chkV insV at *
  unfold exOf exV at hM
  have HF := Lib.hid hF
  have HC := Lib.hid hC
  have HM := Lib.hid hM
  clear hF hC hM
  have HX : Hid (insP bits tag i = if formedI i = false then 1 else if usesP i.op = 1 then (if i.nm ∈ bits then 0 else 21) else if usesP i.op = 2 then cmpP tag i.e else 0) := rfl
  generalize insP bits tag i = X at *
  generalize hm : i.e.kids.length = m at *
  generalize hn : bits.length = n at *
  clear hm hn hl
  cases hf : formedI i with
  | false =>
    rw [hf] at HF HX
    have HX2 : Hid (X = 1) := by unfold Hid; rw [HX.out]; rfl
    clear HX hf hT HC HM
    go_enter Tryd.func70, Tryd.ntmps70
    go_wp2_with fail
    refine (HF.out _ (((Below.refl _ _).alloc (Nat.le_refl _) _).alloc (by simp) _)).mono ?_
    rintro e w1 ⟨rfl, hb1⟩
    have hB1 := (((Below.refl _ w).alloc (Nat.le_refl _) _).alloc (by simp) _).trans (hb1.mono (by simp; omega))
    clear HF hb1
    go_wp2
    go_ret
    exact ⟨ret_int HX2.out.symm, hB1⟩
  | true =>
    rw [hf] at HF HX
    obtain ⟨h0, h1⟩ := formed_op hf
    obtain ⟨k, hk⟩ := Int.eq_ofNat_of_zero_le h0
    have hk10 : k < 10 := by omega
    have HU := Lib.hid (usesP_012 i.op)
    rw [hk] at HX HU HF ⊢
    have c0 := hT.u k hk10
    have hG := hT.lt
    have HX2 : Hid (X = if usesP (k : Int) = 1 then (if i.nm ∈ bits then 0 else 21) else if usesP (k : Int) = 2 then cmpP tag i.e else 0) := by unfold Hid; rw [HX.out, if_neg (by simp)]
    clear hf h0 h1 HX hT
    generalize usesP (k : Int) = us at *
    go_enter Tryd.func70, Tryd.ntmps70
    go_wp2_with fail
    refine (HF.out _ (((Below.refl _ _).alloc (Nat.le_refl _) _).alloc (by simp) _)).mono ?_
    rintro e w1 ⟨rfl, hb1⟩
    have hx1 := ((Box.new w 73 #[.slice BA n bc, .func (.func ft) #[] bt, .func (.func fp) #[] bp]).alloc (.cells #[.int .i64 (k : Int), .string ⟨i.nm.toArray⟩, .int .i64 i.e.op, .int .i64 i.e.n, .string ⟨i.e.name.toArray⟩, .slice i.ea m i.ec] 40)).below hb1 (by simp; omega)
    have hx2 := (Box.new (w.alloc (.cells #[.slice BA n bc, .func (.func ft) #[] bt, .func (.func fp) #[] bp] 73)) 40 #[.int .i64 (k : Int), .string ⟨i.nm.toArray⟩, .int .i64 i.e.op, .int .i64 i.e.n, .string ⟨i.e.name.toArray⟩, .slice i.ea m i.ec]).below hb1 (by simp)
    have hB1 := (((Below.refl _ w).alloc (Nat.le_refl _) (.cells #[.slice BA n bc, .func (.func ft) #[] bt, .func (.func fp) #[] bp] 73)).alloc (by simp) (.cells #[.int .i64 (k : Int), .string ⟨i.nm.toArray⟩, .int .i64 i.e.op, .int .i64 i.e.n, .string ⟨i.e.name.toArray⟩, .slice i.ea m i.ec] 40)).trans (hb1.mono (by simp; omega))
    have es : (w.alloc (.cells #[.slice BA n bc, .func (.func ft) #[] bt, .func (.func fp) #[] bp] 73)).heap.size = w.heap.size + 1 := by simp
    rw [es] at hx2
    have t0 := (hB1.cell (p := ⟨1, k * 3, none⟩) hG).trans c0
    have hG1 : 1 < w1.heap.size := Nat.lt_of_lt_of_le hG hB1.size
    have p0 := hx1.cell 0
    have p1 := hx1.cell 1
    have p2 := hx1.cell 2
    have q0 := hx2.cell 0
    have q1 := hx2.cell 1
    have q2 := hx2.cell 2
    have q3 := hx2.cell 3
    have q4 := hx2.cell 4
    have q5 := hx2.cell 5
    simp at p0 p1 p2 q0 q1 q2 q3 q4 q5
    clear HF hb1 hx1 hx2 es c0
    have hk3 : ((k : Nat) : Int) < 10 := by omega
    rcases HU.out with rfl | rfl | rfl
    · have HX3 : Hid (X = 0) := HX2.out
      clear HX2 HC HM HU
      go_wp2
      go_ret
      exact ⟨ret_int HX3.out.symm, hB1⟩
    · have HX3 : Hid (X = if i.nm ∈ bits then 0 else 21) := HX2.out
      have hC1 := HC.out w1 hB1
      clear HX2 HC HM HU
      by_cases hin : i.nm ∈ bits
      · rw [decide_eq_true hin] at hC1
        rw [if_pos hin] at HX3
        go_wp2_with fail
        refine hC1.mono ?_
        rintro e w2 ⟨rfl, rfl⟩
        go_wp2
        go_ret
        exact ⟨ret_int HX3.out.symm, hB1⟩
      · rw [decide_eq_false hin] at hC1
        rw [if_neg hin] at HX3
        go_wp2_with fail
        refine hC1.mono ?_
        rintro e w2 ⟨rfl, rfl⟩
        go_wp2
        go_ret
        exact ⟨ret_int HX3.out.symm, hB1⟩
    · have HX3 : Hid (X = cmpP tag i.e) := HX2.out
      have hM1 := HM.out w1 hB1
      clear HX2 HC HM HU
      generalize cmpP tag i.e = z at *
      go_wp2_with fail
      refine hM1.mono ?_
      rintro e w2 ⟨rfl, hb2⟩
      go_wp2
      go_ret
      exact ⟨ret_int HX3.out.symm, hB1.trans (hb2.mono hB1.size)⟩
end Go.Proofs.YtohljihndoodfaaDoor.Rg
