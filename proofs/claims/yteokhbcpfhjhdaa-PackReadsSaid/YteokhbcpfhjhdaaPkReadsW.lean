/-
  The walk of PackReads.
-/
import Derived.Test.YteokhbcpfhjhdaaPkW8
import Derived.Test.YteokhbcpfhjhdaaPkRd
namespace Go.Proofs.Yteokhbcpfhjhdaa.Pk
open Go.RowKit

def OwnRel (own : Value) (m g q : Nat) (S1 S2 : Nat → Prop) (l : List UInt8) (lo w0 : Nat) (w : World) (i : Value) (wr : World) : Prop :=
  ∃ (k : Nat) (p : List UInt8), i = .int .i64 (k : Int) ∧ k ≤ m ∧ p.length = m ∧ wr.ownsRow lo 5 1 own m (u8C p) ∧ Rr 61 S1 wr g l false ∧ Rr 41 S2 wr q l false ∧ Below w0 w wr
def BothRel (len g q : Nat) (S1 S2 : Nat → Prop) (m w0 : Nat) (w : World) (i : Value) (wr : World) : Prop :=
  ∃ (k : Nat) (l : List UInt8) (bad : Bool), i = .int .i64 (k : Int) ∧ k ≤ len ∧ Rr 61 S1 wr g l bad ∧ Rr 41 S2 wr q l bad ∧ l.length ≤ m ∧ Below w0 w wr

theorem reads_all (S1 S2 : Nat → Prop) (g q B : Nat) (l : List UInt8) (bad : Bool) (x : It) (w : World) (hr : Rr 61 S1 w g l bad) (hq : Rr 41 S2 w q l bad)
    (h1 : ∀ b, S1 b → b ≠ g) (h1' : ∀ b, S1 b → b ≠ q) (h2 : ∀ b, S2 b → b ≠ q) (h2' : ∀ b, S2 b → b ≠ g) (hgq : g ≠ q) (hBg : B ≤ g) (hBq : B ≤ q) (hll : l.length ≤ 140737488355328) :
    Calls Try.prog 18 #[.pointer (some ⟨g, 0, none⟩), .pointer (some ⟨q, 0, none⟩), .agg #[.int .i64 x.kind, .int .i64 x.n, .bool x.b, .string x.s, .int .i64 x.most]] w (ReadsPost S1 S2 g q B l.length w) := by
  by_cases k0 : x.kind = 0
  · rw [k0]; exact reads_int S1 S2 g q B l bad x.n x.b x.s x.most w hr hq h1 h1' h2 h2' hgq hBg hBq hll
  · by_cases k1 : x.kind = 1
    · rw [k1]; exact reads_bool S1 S2 g q B l bad x.n x.b x.s x.most w hr hq h1 h1' h2 h2' hgq hBg hBq hll
    · by_cases k2 : x.kind = 2
      · rw [k2]; exact reads_text S1 S2 g q B l bad x.n x.b x.s x.most w hr hq h1 h1' h2 h2' hgq hBg hBq hll
      · by_cases k3 : x.kind = 3
        · rw [k3]; exact reads_count S1 S2 g q B l bad x.n x.b x.s x.most w hr hq h1 h1' h2 h2' hgq hBg hBq hll
        · exact reads_none S1 S2 g q B l bad x.kind x.n x.b x.s x.most w hr hq hBg (beq_eq_false_iff_ne.2 k0) (beq_eq_false_iff_ne.2 k1) (beq_eq_false_iff_ne.2 k2) (beq_eq_false_iff_ne.2 k3)

theorem own_set {w : World} {lo g m c k : Nat} {p : List UInt8} (h : w.ownsRow lo 5 1 (.slice (some ⟨g, 0, none⟩) m c) m (u8C p)) (hp : p.length = m) (_hk : k < m) (b : UInt8) :
    (w.setCell ⟨g, k, none⟩ (.int .u8 (b.toNat : Int))).ownsRow lo 5 1 (.slice (some ⟨g, 0, none⟩) m c) m (u8C (p.set k b)) := by
  refine ⟨by rw [u8C_length, List.length_set]; omega, ?_⟩
  rcases h.2 with ⟨hv, _⟩ | ⟨g', cap, cur, hv, hb, hh, hnc, hcm, hcs, ht⟩
  · cases hv
  · injection hv with e1 _ e3
    injection e1 with e1
    injection e1 with e1
    subst e1; subst e3
    refine .inr ⟨g, c, cur.setIfInBounds k (.int .u8 (b.toNat : Int)), rfl, hb, (Box.set_ (w := w) (g := g) (t := 5) (cs := cur) hh k _), hnc, hcm, by rw [Array.size_setIfInBounds]; exact hcs, ?_⟩
    have e : (cur.setIfInBounds k (.int .u8 (b.toNat : Int))).toList = cur.toList.set k (.int .u8 (b.toNat : Int)) := by simp
    rw [e, List.take_set, ht]
    unfold u8C
    rw [List.map_set]
theorem own_at {w : World} {lo m c k : Nat} {A : Option Addr} {p : List UInt8} (h : w.ownsRow lo 5 1 (.slice A m c) m (u8C p)) (hp : p.length = m) (hk : k < m) :
    ∃ g, A = some ⟨g, 0, none⟩ ∧ lo ≤ g ∧ g < w.heap.size ∧ w.cell? ⟨g, k, none⟩ = some (.int .u8 ((p[k]'(by omega)).toNat : Int)) ∧ w.frozen? ⟨g, k, none⟩ = false := by
  rcases h.2 with ⟨_, h0⟩ | ⟨g, cap, cur, hv, hb, hh, _⟩
  · omega
  · injection hv with e1 _ e3
    subst e1
    refine ⟨g, rfl, hb, (Array.getElem?_eq_some_iff.1 hh).1, ?_, ?_⟩
    · have := h.cells (g := g) rfl k (.int .u8 ((p[k]'(by omega)).toNat : Int)) (by simp [u8C, List.getElem?_eq_getElem (show k < p.length by omega)])
      rwa [lit_add] at this
    · simp [World.frozen?, hh]

set_option maxRecDepth 100000 in
set_option maxHeartbeats 8000000 in
theorem reads_short (A : Option Addr) (l : List UInt8) (c : Nat) (B : Option Addr) (its : List It) (d : Nat) (w : World) (hc : l.length ≤ c) (hcm : c ≤ maxLen) (hl : Lie w A l) (hA : ∀ ad, A = some ad → ad.block < w.heap.size) (hi : Its w B its) (h1 : l.length ≤ 10000) (h2 : its.length ≤ 200) :
    Calls Try.prog 4 #[.slice A l.length c, .slice B its.length d] w (TruePost w) := by
  have g1 : decide ((10000 : Int) < (l.length : Int)) = false := by simp; omega
  have g2 : decide ((200 : Int) < (its.length : Int)) = false := by simp; omega
  go_enter Try.func4, Try.ntmps4
  go_wp2_with fail
  refine (awake_all w).mono ?_
  rintro e w1 ⟨rfl, hb1⟩
  have hl1 := hl.below hb1
  go_wp2_with (at_builtin; refine wpList_append_lie rfl (.const (.slice none 0 0)) (.tmp 26) rfl rfl (World.ownsRow_nil w1 w1.heap.size 5 1) rfl hl1 ?c1 ?c2 ?c3 ?_)
  case c1 => unfold maxLen; omega
  case c2 => omega
  case c3 => exact Nat.le_refl _
  intro A2 c2 w2 ho2 hg2 hat2
  have hb2 : Below w.heap.size w w2 := hb1.grown hg2 hb1.size (fun k hk => by simp [Value.ownBlock] at hk)
  have hL2 := Lie.of_own ho2
  clear hat2 hl1
  go_wp2_with fail
  refine (read_all A2 l c2 w2 hL2 (by omega)).mono ?_
  rintro e w3 ⟨g, rfl, hg, hr3, hb3⟩
  have hc3 := hb2.trans (hb3.mono hb2.size)
  have ho3 := own_keep ho2 hb3
  have hgl := hr3.lt
  have hb4 : Below w3.heap.size w3 (w3.alloc (.cells #[.slice A l.length c, .bool false] 41)) := (Below.refl _ w3).alloc (Nat.le_refl _) _
  have hr4 := hr3.below hb4
  have ho4 := own_keep ho3 hb4
  have hc4 := hc3.trans (hb4.mono hc3.size)
  have hq4 : Rr 41 (fun b => b < w.heap.size) (w3.alloc (.cells #[.slice A l.length c, .bool false] 41)) w3.heap.size l false :=
    ⟨A, c, Box.new w3 _ _, hc, hcm, hl.below hc4, hA⟩
  have hw1 := hb1.size
  have hw2 := hb2.size
  have hsz1 : w1.heap.size ≤ w2.heap.size := hg2.size
  have hown2 : ∀ k, (Value.slice A2 l.length c2).ownBlock = some k → k < w2.heap.size := fun k hk => (ho2.lt k hk).2
  clear hb4 hr3 ho3 hc3 hb3 hL2 ho2 hg2
  go_wp2_with fail
  go_loopw [9] (OwnRel (.slice A2 l.length c2) l.length g w3.heap.size (fun b => w2.heap.size ≤ b ∧ b < g) (fun b => b < w.heap.size) l w1.heap.size w.heap.size w) (fun i _ => l.length - (intOf i).toNat)
  case atStart => exact ⟨0, l, rfl, by omega, rfl, ho4, hr4, hq4, hc4⟩
  case round =>
    obtain ⟨k, p, rfl, hk, hpl, ho, hr, hq, hbw⟩ := hrel
    clear ho4 hr4 hq4 hc4
    have HP := Lib.hid hpl
    by_cases hlt : k < l.length
    · obtain ⟨go, rfl, hlo, hgo, hcell, hfr⟩ := own_at ho hpl hlt
      have hgo2 := hown2 go rfl
      have hpk := (p[k]'(by omega)).toNat_lt
      have HO := Lib.hid (fun b => own_set ho hpl hlt b)
      generalize p[k]'(by omega) = pk at *
      clear hpl ho
      go_wp2
      go_roundw
      case rel =>
        have e : (((pk + 1).toNat : Nat) : Int) = ((pk.toNat : Int) + 1) % 256 := by
          rw [UInt8.toNat_add]
          simp
        have ho := HO.out (pk + 1)
        rw [e] at ho
        have hgs : wr.grownBy (wr.setCell ⟨go, k, none⟩ (.int .u8 (((pk.toNat : Int) + 1) % 256))) (some go) := gr_set (World.grownBy.refl wr _) k _
        exact ⟨k + 1, p.set k (pk + 1), by go_num, by omega, by rw [List.length_set]; exact HP.out, ho, hr.grown hgs (fun e => by injection e; omega) (fun b hb e => by injection e; omega), hq.grown hgs (fun e => by injection e; omega) (fun b hb e => by injection e; omega), hbw.setCell (p := ⟨go, k, none⟩) (by simp; omega) _⟩
      case measure => simp [intOf]; omega
    · clear ho hpl HP
      go_wp2_with fail
      go_loopw [10] (BothRel its.length g w3.heap.size (fun b => w2.heap.size ≤ b ∧ b < g) (fun b => b < w.heap.size) l.length w.heap.size w) (fun i _ => its.length - (intOf i).toNat)
      case atStart => exact ⟨0, l, false, rfl, by omega, hr, hq, Nat.le_refl _, hbw⟩
      case round =>
        obtain ⟨j, l', bad, rfl, hj, hr', hq', hl', hbw'⟩ := hrel
        clear hr hq hbw
        by_cases hlt2 : j < its.length
        · obtain ⟨ad, rfl, hab, hat, hright⟩ := (hi.below hbw').at_ hlt2
          obtain ⟨i0, i1, i2, i3, i4⟩ := hat.cells
          generalize its[j] = x at *
          go_wp2_with fail
          refine (reads_all (fun b => w2.heap.size ≤ b ∧ b < g) (fun b => b < w.heap.size) g w3.heap.size w.heap.size l' bad x wr hr' hq' (fun b h => by omega) (fun b h => by omega) (fun b h => by omega) (fun b h => by omega) (by omega) (by omega) (by omega) (by omega)).mono ?_
          rintro e w5 ⟨rfl, l2, bad2, hr5, hq5, hl5, hb5⟩
          have hc5 := hbw'.trans hb5
          clear hat i0 i1 i2 i3 i4 hr' hq'
          go_wp2
          go_roundw
          case rel => exact ⟨j + 1, l2, bad2, by go_num, by omega, hr5, hq5, by omega, hc5⟩
          case measure => simp [intOf]; omega
        · go_wp2
          go_ret
          exact ⟨rfl, hbw'⟩

theorem reads_walk (A : Option Addr) (l : List UInt8) (c : Nat) (B : Option Addr) (its : List It) (d : Nat) (w : World) (hc : l.length ≤ c) (hcm : c ≤ maxLen) (hl : Lie w A l) (hA : ∀ ad, A = some ad → ad.block < w.heap.size) (_hd : its.length ≤ d) (_hdm : d ≤ maxLen) (hi : Its w B its) :
    Calls Try.prog 4 #[.slice A l.length c, .slice B its.length d] w (TruePost w) := by
  rcases Nat.lt_or_ge 10000 l.length with h2 | h2
  · have g1 : decide ((10000 : Int) < (l.length : Int)) = true := by simp; omega
    go_enter Try.func4, Try.ntmps4
    go_wp2_with fail
    refine (awake_all w).mono ?_
    rintro e w1 ⟨rfl, hb1⟩
    go_wp2
    go_ret
    exact ⟨rfl, hb1⟩
  · rcases Nat.lt_or_ge 200 its.length with h5 | h5
    · have g1 : decide ((10000 : Int) < (l.length : Int)) = false := by simp; omega
      have g2 : decide ((200 : Int) < (its.length : Int)) = true := by simp; omega
      go_enter Try.func4, Try.ntmps4
      go_wp2_with fail
      refine (awake_all w).mono ?_
      rintro e w1 ⟨rfl, hb1⟩
      go_wp2
      go_ret
      exact ⟨rfl, hb1⟩
    · exact reads_short A l c B its d w hc hcm hl hA hi h2 h5
end Go.Proofs.Yteokhbcpfhjhdaa.Pk
