/-
  Contracts of slices.Clone at bools, of the scan's bit and operand.
-/
import Derived.Test.YtohljihndoodfaaDoorRgW8
namespace Go.Proofs.YtohljihndoodfaaDoor.Rg
open Go.RowKit Lx Ep

/-- A list of bools of one's own is told. -/
def BoolsPost (L : List Bool) (w : World) (e : Ending) (w' : World) : Prop := ∃ A c, e = .returned (.slice A L.length c) ∧ RowB w.heap.size w' A c L ∧ Below w.heap.size w w'
set_option maxRecDepth 100000 in
set_option maxHeartbeats 2000000 in
theorem clone_any (l : List Bool) (A : Option Addr) (c : Nat) (w : World) (h : Bools w A l) (hl : l.length ≤ 100000) :
    Calls Tryd.prog 45 #[.slice A l.length c] w (BoolsPost l w) := by
  rcases A with _ | a
  · have hl0 : l = [] := by
      rcases l with _ | ⟨b, t⟩
      · rfl
      · obtain ⟨_, _, h, _⟩ := h (by simp)
        cases h
    subst hl0
    have hnil : ∀ w : World, (binOp .eql 46 (.slice none 0 c) (.slice none 0 0)).run Tryd.prog w = .ok (.bool true) w := fun w => Lib.run_eql_slice_nil (P := Tryd.prog) w 46 4 none 0 c 0 0 Tryd.underlying46
    go_enter Tryd.func45, Tryd.ntmps45
    go_wp2
    go_ret
    exact ⟨none, 0, rfl, RowB.nil_ _ _, Below.refl _ _⟩
  · have hr0 : (w.alloc (.cells #[] 4)).ownsRow w.heap.size 4 1 (.slice (some ⟨w.heap.size, 0, none⟩) 0 0) 0 [] := ⟨rfl, .inr ⟨w.heap.size, 0, #[], rfl, Nat.le_refl _, heap_alloc_new w _, Nat.le_refl _, Nat.zero_le _, rfl, rfl⟩⟩
    obtain ⟨A', c', w', hr, ho, hg⟩ := run_append_all (f := boolC) Tryd.underlying46 info_bool (by rfl) (by decide) (fun _ => rfl) (fun a u hu => by simp [boolC] at hu; subst hu; rfl) hr0 (h.alloc (.cells #[] 4)) c (by omega) (by simp)
    have hb : Below w.heap.size w w' := ((Below.refl _ w).alloc (Nat.le_refl _) _).grown hg (by simp) (fun k hk => by injection hk with hk; subst hk; exact Nat.le_refl _)
    have HP : Hid (BoolsPost l w (.returned (.slice A' l.length c')) w') := ⟨A', c', rfl, ho, hb⟩
    clear ho hg hb hr0 h
    generalize l.length = n at *
    have hnil : ∀ w : World, (binOp .eql 46 (.slice (some a) n c) (.slice none 0 0)).run Tryd.prog w = .ok (.bool false) w := fun w => Lib.run_eql_slice_nil (P := Tryd.prog) w 46 4 (some a) n c 0 0 Tryd.underlying46
    go_enter Tryd.func45, Tryd.ntmps45
    go_wp2_with (at_builtin; refine wpList_append_run rfl (.tmp 5) (.tmp 6) _ _ rfl rfl rfl hr ?_)
    go_ret
    exact HP.out

/-- A scan's block. -/
def scanC (NA : Option Addr) (nn nc : Nat) (BA : Option Addr) (bn bc : Nat) (EA : Option Addr) (en ec : Nat) (HA : Option Addr) (hn hc : Nat) (PA : Option Addr) (pn pc : Nat) : Array Value := #[.slice NA nn nc, .slice BA bn bc, .slice EA en ec, .slice HA hn hc, .slice PA pn pc]
theorem scan_at {w : World} {p : Nat} {NA BA EA HA PA : Option Addr} {nn nc bn bc en ec hn hc pn pc : Nat} (h : Box w p 68 (scanC NA nn nc BA bn bc EA en ec HA hn hc PA pn pc)) :
    w.cell? ⟨p, 0, none⟩ = some (.slice NA nn nc) ∧ w.cell? ⟨p, 1, none⟩ = some (.slice BA bn bc) ∧ w.cell? ⟨p, 2, none⟩ = some (.slice EA en ec) ∧ w.cell? ⟨p, 3, none⟩ = some (.slice HA hn hc) ∧ w.cell? ⟨p, 4, none⟩ = some (.slice PA pn pc) :=
  ⟨h.cell 0, h.cell 1, h.cell 2, h.cell 3, h.cell 4⟩

theorem bit_any (p : Nat) (NA : Option Addr) (nc : Nat) (N : List Nm) (x : Nm) (w : World) (h0 : w.cell? ⟨p, 0, none⟩ = some (.slice NA N.length nc)) (hS : Strs w NA N) (hl : N.length ≤ 1000000) (hx : x ∈ N) :
    Calls Tryd.prog 46 #[.pointer (some ⟨p, 0, none⟩), .string ⟨x.toArray⟩] w fun e w' => e = .returned (.int .i64 (N.idxOf x : Nat)) ∧ w = w' := by
  have hI := index_any N NA nc x w hS hl hx
  generalize N.length = n at *
  generalize N.idxOf x = k at *
  go_enter Tryd.func46, Tryd.ntmps46
  go_wp2_with fail
  refine hI.mono ?_
  rintro e w1 ⟨rfl, rfl⟩
  go_wp2
  go_ret
  exact ⟨rfl, rfl⟩

theorem quiet_l {P : Program} {f : FuncId} {args : Array Value} {w : World} {n : Nat} {v : Value}
    (h : Calls P f args (w.drewN n) fun e w' => e = .returned v ∧ w.drewN n = w') : Calls P f args (w.drewN n) fun e w'' => e = .returned v ∧ ∃ m, w'' = w.drewN m :=
  h.mono fun _ _ ⟨he, hm⟩ => ⟨he, n, hm.symm⟩
theorem bitAt_eq {N : List Nm} {bits : List Bool} {x : Nm} (hx : N.idxOf x < bits.length) : bitAt N bits x = bits[N.idxOf x] := by
  unfold bitAt
  rw [List.getElem?_eq_getElem hx]; rfl
def BoolPost (b : Bool) (w : World) (o : Ending) (w' : World) : Prop := o = .returned (.bool b) ∧ Below w.heap.size w w'

set_option maxRecDepth 100000 in
set_option maxHeartbeats 4000000 in
theorem operand_any (p : Nat) (NA BA EA HA PA : Option Addr) (nc bc hn hc pn pc : Nat) (en ec : Nat) (N : List Nm) (bits : List Bool) (env : List (Nm × Int)) (i : In) (w : World) (hT : Tabs w) (hB : Box w p 68 (scanC NA N.length nc BA bits.length bc EA en ec HA hn hc PA pn pc))
    (hN : Strs w NA N) (hBi : Bools w BA bits) (hE : EnvV w env (.slice EA en ec)) (hI : TrE w i) (hlN : N.length ≤ 1000000) (hlB : bits.length = N.length) (hop : 0 ≤ i.op ∧ i.op < 10) (hin : usesP i.op = 1 → i.nm ∈ N) :
    Calls Tryd.prog 48 #[.pointer (some ⟨p, 0, none⟩), insV i] w (BoolPost (operandP N bits env i) w) := by
  have HX : Hid (operandP N bits env i = if usesP i.op = 1 then bitAt N bits i.nm else if usesP i.op = 2 then !decide ((evalE env i.e).1 = 0) else false) := rfl
  obtain ⟨h0, h1⟩ := hop
  obtain ⟨k, hk⟩ := Int.eq_ofNat_of_zero_le h0
  have hk10 : k < 10 := by omega
  have HU := Lib.hid (usesP_012 i.op)
  have c0 := hT.u k hk10
  have hG := hT.lt
  have hpl := hB.lt
  have hEv : ∀ wx, Below w.heap.size w wx → Calls Tryd.prog 19 #[exOf i, .slice EA en ec] wx fun e w' => e = .returned (.tuple #[.int .i64 (evalE env i.e).1, .int .i64 (evalE env i.e).2]) ∧ Below wx.heap.size wx w' := fun wx hb => Eval_any i.e (fun _ => True) _ _ env wx (hT.below hb).ops (hI.below hb).1 (hE.below hb (Nat.le_refl _)) hI.2
  have hBt : i.nm ∈ N → ∀ wx, Below w.heap.size w wx → Calls Tryd.prog 46 #[.pointer (some ⟨p, 0, none⟩), .string ⟨i.nm.toArray⟩] wx fun e w' => e = .returned (.int .i64 (N.idxOf i.nm : Nat)) ∧ wx = w' := fun hm wx hb => bit_any p NA nc N i.nm wx ((hB.below hb hB.lt).cell 0) (hN.below hb) hlN hm
  unfold exOf exV at hEv
  unfold insV
  rw [hk] at HX HU hin ⊢
  have hk3 : ((k : Nat) : Int) < 10 := by omega
  have hx1 := Box.new w 40 #[.int .i64 (k : Int), .string ⟨i.nm.toArray⟩, .int .i64 i.e.op, .int .i64 i.e.n, .string ⟨i.e.name.toArray⟩, .slice i.ea i.e.kids.length i.ec]
  have hb1 := (Below.refl w.heap.size w).alloc (Nat.le_refl _) (.cells #[.int .i64 (k : Int), .string ⟨i.nm.toArray⟩, .int .i64 i.e.op, .int .i64 i.e.n, .string ⟨i.e.name.toArray⟩, .slice i.ea i.e.kids.length i.ec] 40)
  have hB1 := hB.alloc (.cells #[.int .i64 (k : Int), .string ⟨i.nm.toArray⟩, .int .i64 i.e.op, .int .i64 i.e.n, .string ⟨i.e.name.toArray⟩, .slice i.ea i.e.kids.length i.ec] 40)
  have hBi1 := hBi.alloc (.cells #[.int .i64 (k : Int), .string ⟨i.nm.toArray⟩, .int .i64 i.e.op, .int .i64 i.e.n, .string ⟨i.e.name.toArray⟩, .slice i.ea i.e.kids.length i.ec] 40)
  have HEv := Lib.hid hEv
  have HBt := Lib.hid hBt
  clear hT hB hBi hE hI hEv hBt h0 h1 hk hN
  generalize i.e.kids.length = m at *
  generalize usesP (k : Int) = us at *
  generalize operandP N bits env i = X at *
  have t0 : (w.alloc (.cells #[.int .i64 (k : Int), .string ⟨i.nm.toArray⟩, .int .i64 i.e.op, .int .i64 i.e.n, .string ⟨i.e.name.toArray⟩, .slice i.ea m i.ec] 40)).cell? ⟨1, k * 3, none⟩ = some (.int .i64 us) := (World.cell?_alloc_lt _ _ _ hG).trans c0
  rcases HU.out with rfl | rfl | rfl
  · have HX3 : Hid (X = false) := HX.out
    clear HX HEv HBt HU hBi1
    go_enter Tryd.func48, Tryd.ntmps48
    go_wp2
    go_ret
    exact ⟨ret_bool HX3.out.symm, hb1⟩
  · have hm := hin rfl
    have hix := List.idxOf_lt_length_of_mem hm
    have hix2 : N.idxOf i.nm < bits.length := by omega
    have HX3 : Hid (X = bits[N.idxOf i.nm]) := HX.out.trans (bitAt_eq hix2)
    have HB2 := Lib.hid (HBt.out hm)
    obtain ⟨g, off, rfl, hg, cb⟩ := Bools.at1 hBi1 hix2
    generalize bits[N.idxOf i.nm] = y at *
    generalize N.idxOf i.nm = q at *
    obtain ⟨p0, p1, p2, -, -⟩ := scan_at hB1
    rw [hlB] at p1
    generalize N.length = n at *
    have hqn : ((q : Nat) : Int) < (n : Int) := by omega
    have HBd : Hid (∀ nq, Calls Tryd.prog 46 #[.pointer (some ⟨p, 0, none⟩), .string ⟨i.nm.toArray⟩] ((w.alloc (.cells #[.int .i64 (k : Int), .string ⟨i.nm.toArray⟩, .int .i64 i.e.op, .int .i64 i.e.n, .string ⟨i.e.name.toArray⟩, .slice i.ea m i.ec] 40)).drewN nq) fun e w' => e = .returned (.int .i64 (q : Nat)) ∧ (w.alloc (.cells #[.int .i64 (k : Int), .string ⟨i.nm.toArray⟩, .int .i64 i.e.op, .int .i64 i.e.n, .string ⟨i.e.name.toArray⟩, .slice i.ea m i.ec] 40)).drewN nq = w') := fun nq => HB2.out _ (below_drewN hb1 nq)
    clear HX HEv HBt HU hBi1 HB2 hm hin hix hix2 hB1 c0
    go_enter Tryd.func48, Tryd.ntmps48
    go_wp2_with fail
    go_quiet ((first | (go_at_call 46; exact quiet_l (HBd.out _))))
    go_wp2
    go_ret
    exact ⟨ret_bool HX3.out.symm, below_drewN hb1 _⟩
  · have HX3 : Hid (X = !decide ((evalE env i.e).1 = 0)) := HX.out
    generalize (evalE env i.e).1 = z at *
    generalize (evalE env i.e).2 = z2 at *
    obtain ⟨p0, p1, p2, -, -⟩ := scan_at hB1
    have q2 := hx1.cell 2
    have q3 := hx1.cell 3
    have q4 := hx1.cell 4
    have q5 := hx1.cell 5
    simp at q2 q3 q4 q5
    have key : ∀ w', Below (w.alloc (.cells #[.int .i64 (k : Int), .string ⟨i.nm.toArray⟩, .int .i64 i.e.op, .int .i64 i.e.n, .string ⟨i.e.name.toArray⟩, .slice i.ea m i.ec] 40)).heap.size (w.alloc (.cells #[.int .i64 (k : Int), .string ⟨i.nm.toArray⟩, .int .i64 i.e.op, .int .i64 i.e.n, .string ⟨i.e.name.toArray⟩, .slice i.ea m i.ec] 40)) w' → w'.cell? ⟨w.heap.size, 2, none⟩ = some (.int .i64 i.e.op) ∧ w'.cell? ⟨w.heap.size, 3, none⟩ = some (.int .i64 i.e.n) ∧ w'.cell? ⟨w.heap.size, 4, none⟩ = some (.string ⟨i.e.name.toArray⟩) ∧ w'.cell? ⟨w.heap.size, 5, none⟩ = some (.slice i.ea m i.ec) ∧ w'.cell? ⟨p, 2, none⟩ = some (.slice EA en ec) := fun w' hb => ⟨(hx1.below hb hx1.lt).cell 2, (hx1.below hb hx1.lt).cell 3, (hx1.below hb hx1.lt).cell 4, (hx1.below hb hx1.lt).cell 5, (hB1.below hb hB1.lt).cell 2⟩
    have hd := below_drew (Below.refl (w.alloc (.cells #[.int .i64 (k : Int), .string ⟨i.nm.toArray⟩, .int .i64 i.e.op, .int .i64 i.e.n, .string ⟨i.e.name.toArray⟩, .slice i.ea m i.ec] 40)).heap.size (w.alloc (.cells #[.int .i64 (k : Int), .string ⟨i.nm.toArray⟩, .int .i64 i.e.op, .int .i64 i.e.n, .string ⟨i.e.name.toArray⟩, .slice i.ea m i.ec] 40)))
    have cd := key _ hd
    have hd1 := below_drew hb1
    clear HX HBt HU hBi1 c0 p0 p1
    go_enter Tryd.func48, Tryd.ntmps48
    go_wp2_with fail
    go_region_held (fun w' => w'.cell? ⟨w.heap.size, 2, none⟩ = some (.int .i64 i.e.op) ∧ w'.cell? ⟨w.heap.size, 3, none⟩ = some (.int .i64 i.e.n) ∧ w'.cell? ⟨w.heap.size, 4, none⟩ = some (.string ⟨i.e.name.toArray⟩) ∧ w'.cell? ⟨w.heap.size, 5, none⟩ = some (.slice i.ea m i.ec) ∧ w'.cell? ⟨p, 2, none⟩ = some (.slice EA en ec)) (first | exact cd | exact e1 | assumption) (first | (go_at_call 19; refine (HEv.out _ hd1).mono ?_; rintro e w4 ⟨rfl, hb4⟩; have e1 := key _ (hd.trans (hb4.mono hd.size)); have hB4 := hd1.trans (hb4.mono hd1.size)))
    all_goals go_wp2
    all_goals go_ret
    all_goals exact ⟨ret_bool (HX3.out.trans (by by_cases hz : z = 0 <;> simp [hz])).symm, hB4⟩
end Go.Proofs.YtohljihndoodfaaDoor.Rg
