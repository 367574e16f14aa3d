/-
  The contract of the laws' own awake.
-/
import Derived.Test.YtkklplccngdalaaWlL3
namespace Go.Proofs.Ytkklplccngdalaa.Dk
open Go.RowKit

def M0 : List (List UInt8) := List.replicate 3 (full 0)
def G1 : List GI := madeG [0, 2] 7 []
def G2 : List GI := madeG [1] 9 []
theorem G1_eq : G1 = [(0, full 7), (2, full 8)] := rfl
theorem G2_eq : G2 = [(1, full 9)] := rfl
theorem room8 : room 8 = 3 := rfl
theorem G1_ok : okG (room 8) G1 := by
  rw [G1_eq, room8]
  refine ⟨fun x hx => ?_, by decide⟩
  simp only [List.mem_cons, List.not_mem_nil, or_false] at hx
  rcases hx with rfl | rfl
  · exact ⟨by decide, by decide, full_len 7⟩
  · exact ⟨by decide, by decide, full_len 8⟩
theorem G2_ok : okG (room 8) G2 := by
  rw [G2_eq, room8]
  refine ⟨fun x hx => ?_, by decide⟩
  simp only [List.mem_cons, List.not_mem_nil, or_false] at hx
  subst hx
  exact ⟨by decide, by decide, full_len 9⟩
theorem beh0 : ∃ M1 : List (List UInt8), behind M0 G1 = M1 ∧ M1[2]? = some (full 8) ∧ M1[1]? = some (full 0) := ⟨_, rfl, rfl, rfl⟩

def TruePost (w : World) (e : Ending) (w' : World) : Prop := e = .returned (.bool true) ∧ Below w.heap.size w w'
theorem nums_box {w : World} {g : Nat} {t : TypeId} {cs : Array Value} (l : List Int) (h : Box w g t cs) (hc : cs = (l.map fun z => Value.int .i64 z).toArray) (h64 : ∀ x ∈ l, i64 x) : Nums w (some ⟨g, 0, none⟩) l := ⟨h64, fun _ => ⟨_, rfl, h.lt, fun j hj => by
  rw [lit_add, h.cell j, hc]
  simp [List.getElem?_eq_getElem hj]⟩⟩
theorem tri_below {w w1 : World} {q g s : Nat} {d : Dsk} {b : Bool} (h : Lg w q g s d b) (hb : Below w.heap.size w w1) : ∀ k, Tri q g s k → k < w1.heap.size := fun k hk => by
  have := h.lt
  have := hb.size
  rcases hk with rfl | rfl | rfl <;> omega

set_option maxRecDepth 100000 in
set_option maxHeartbeats 8000000 in
theorem awake_all (w : World) : Calls Try.prog 8 #[] w (TruePost w) := by
  have hS0 : St 8 (new 8).L M0 := St.new (n := 8) (by omega)
  obtain ⟨M1, hM1, hb2, hb1⟩ := beh0
  have HR133 : Hid (∀ w, Calls Try.prog 9 #[.int .i64 133] w (Same (.int .i64 65) w)) := fun w => room_all 133 w (by omega)
  have HOP := Lib.hid (opened_all 8 8 w rfl (by omega) (by omega))
  go_enter Try.func8, Try.ntmps8
  go_wp2_with fail
  refine HOP.out.mono ?_
  rintro e w1 ⟨g, s, q, rfl, hg, hs, hq, h1, hB1⟩
  clear HOP
  have HS3 : Hid (Calls Try.prog 25 #[.pointer (some ⟨q, 0, none⟩)] w1 (Same (.int .i64 3) w1)) := lsectors_all h1
  have HL1 := Lib.hid h1
  clear h1
  go_wp2_with fail
  refine HS3.out.mono ?_
  rintro e w' ⟨rfl, rfl⟩
  clear HS3
  go_wp2_with fail
  refine (HR133.out _).mono ?_
  rintro e w' ⟨rfl, rfl⟩
  clear HR133
  have HM1 : Hid (Calls Try.prog 14 #[.agg #[.slice (some ⟨w1.heap.size, 0, none⟩) 2 2, .int .u8 7, .slice none 0 0]] (w1.alloc (.cells #[.int .i64 0, .int .i64 2] 3)) (MadePost (Tri q g s) G1 (w1.alloc (.cells #[.int .i64 0, .int .i64 2] 3)))) :=
    made_all (Tri q g s) (some ⟨w1.heap.size, 0, none⟩) none [0, 2] 7 [] 2 0 _ (nums_box [0, 2] (Box.new w1 3 _) rfl (fun x hx => by simp at hx; unfold i64; omega)) Grp.nil_ (tri_below HL1.out ((Below.refl _ w1).alloc (Nat.le_refl _) _)) (by decide) (by decide) (by decide) (by decide) (by decide)
  have hB2 := hB1.alloc hB1.size (.cells #[.int .i64 0, .int .i64 2] 3)
  have HL2 := Lib.hid (HL1.out.alloc (.cells #[.int .i64 0, .int .i64 2] 3))
  clear HL1 hB1
  go_wp2_with fail
  generalize w1.alloc (.cells #[.int .i64 0, .int .i64 2] 3) = w2 at *
  refine HM1.out.mono ?_
  rintro e w3 ⟨A1, c1, rfl, hc1, hm1, hG1, hb3⟩
  have hB3 := hB2.trans (hb3.mono hB2.size)
  have HC1 : Hid (Calls Try.prog 17 #[.pointer (some ⟨q, 0, none⟩), .slice A1 2 c1] w3 (CPost 8 M0 G1 q g s (new 8) w3)) :=
    commit_inv c1 (HL2.out.below hb3) rfl (new_len 8) (by omega) (by omega) hS0 hG1 G1_ok hc1 hm1 (by unfold i64; show -9223372036854775808 ≤ (-1 : Int) ∧ (-1 : Int) ≤ 9223372036854775807; omega) (by show (0 : Int) ≤ 0 ∧ (0 : Int) ≤ 10000000; omega)
  have e2 : G1.length = 2 := rfl
  rw [e2]
  clear HM1 HL2 hG1 hb3 hB2 e2 hS0
  go_wp2_with fail
  refine HC1.out.mono ?_
  rintro e w4 ⟨D1, a1, a2, a3, a4, a5, a6⟩
  have hB4 := hB3.trans (a5.below hB3.size (fun b hb => by rcases hb with rfl | rfl | rfl <;> omega))
  clear HC1 a5 hB3
  rcases a6 with ⟨o1, S1, rfl, L1, _, _⟩ | ⟨_, b2, _⟩
  case inr => exact absurd b2 (by show ¬ (0 : Int) ≤ -1; omega)
  rw [hM1] at S1
  have HR2 : Hid (Calls Try.prog 19 #[.pointer (some ⟨q, 0, none⟩), .int .i64 2] w4 (LReadPost (full 8) q g s D1 w4)) :=
    lread_ok 2 2 (full 8) L1 o1 (by rw [a1]; omega) (by rw [a1]; decide) rfl (by rw [a1, S1.2.2.2 2 (by decide)]; exact hb2)
  have a3' : (0 : Int) ≤ D1.wr := a3
  have a4' : D1.wr ≤ 0 + 10000 := a4
  have HL0 := Lib.hid L1
  clear L1 a3 a4
  go_wp2_with fail
  refine HR2.out.mono ?_
  rintro e w5 ⟨gr, rfl, hgr, hxr, L2, f2⟩
  have hB5 := hB4.trans (f2.below hB4.size (fun b hb => by rcases hb with rfl | rfl | rfl <;> omega))
  have hgr2 : ¬ Tri q g s gr := tri_new HL0.out hgr
  clear HR2 hB4 f2 HL0
  go_wp2_with fail
  refine (cut_all 0 L2.2.1).mono ?_
  rintro e w6 ⟨rfl, k3, f3⟩
  obtain ⟨L3, f3'⟩ := L2.disk k3 f3 rfl
  have hx6 := hxr.fr f3' hgr2
  have hB6 := hB5.trans (f3'.below hB5.size (fun b hb => by rcases hb with rfl | rfl | rfl <;> omega))
  have HL3 := Lib.hid L3
  clear L2 k3 f3 f3' hB5 hxr L3
  have HM2 : Hid (Calls Try.prog 14 #[.agg #[.slice (some ⟨w6.heap.size, 0, none⟩) 1 1, .int .u8 9, .slice none 0 0]] (w6.alloc (.cells #[.int .i64 1] 3)) (MadePost (Tri q g s) G2 (w6.alloc (.cells #[.int .i64 1] 3)))) :=
    made_all (Tri q g s) (some ⟨w6.heap.size, 0, none⟩) none [1] 9 [] 1 0 _ (nums_box [1] (Box.new w6 3 _) rfl (fun x hx => by simp at hx; unfold i64; omega)) Grp.nil_ (tri_below HL3.out ((Below.refl _ w6).alloc (Nat.le_refl _) _)) (by decide) (by decide) (by decide) (by decide) (by decide)
  have hB7 := hB6.alloc hB6.size (.cells #[.int .i64 1] 3)
  have HL4 := Lib.hid (HL3.out.alloc (.cells #[.int .i64 1] 3))
  have hx7 := hx6.alloc (.cells #[.int .i64 1] 3)
  clear HL3 hB6 hx6
  go_wp2_with fail
  generalize w6.alloc (.cells #[.int .i64 1] 3) = w7 at *
  refine HM2.out.mono ?_
  rintro e w8 ⟨A2, c2, rfl, hc2, hm2, hG2, hb8⟩
  have hB8 := hB7.trans (hb8.mono hB7.size)
  have hx8 := hx7.below hb8 hx7.lt
  have hlc : (D1.cut 0).left = 0 := rfl
  have HC2 : Hid (Calls Try.prog 17 #[.pointer (some ⟨q, 0, none⟩), .slice A2 1 c2] w8 (CPost 8 M1 G2 q g s (D1.cut 0) w8)) :=
    commit_inv c2 (HL4.out.below hb8) o1 a1 (by omega) (by omega) S1 hG2 G2_ok hc2 hm2 (by unfold i64; rw [hlc]; omega) (by show (0 : Int) ≤ D1.wr ∧ D1.wr ≤ 10000000; omega)
  have hwc : (D1.cut 0).wr = D1.wr := rfl
  have e3 : G2.length = 1 := rfl
  rw [e3]
  clear HM2 HL4 hG2 hb8 hB7 hx7 e3 S1
  generalize D1.cut 0 = Dc at *
  go_wp2_with fail
  refine HC2.out.mono ?_
  rintro e w9 ⟨D2, a1, a2, a3, a4, a5, a6⟩
  have hB9 := hB8.trans (a5.below hB8.size (fun b hb => by rcases hb with rfl | rfl | rfl <;> omega))
  have hx9 := hx8.fr a5 hgr2
  clear HC2 a5 hB8 hx8
  rcases a6 with ⟨_, _, _, _, _, b6⟩ | ⟨o2, _, _, rfl, L5, I5⟩
  case inl => 
    have b7 := b6 (by omega)
    rw [comW_len (by decide), hlc] at b7
    omega
  rw [if_neg (by rw [hlc]; omega)] at I5
  go_wp2_with fail
  refine (up_all L5.2.1).mono ?_
  rintro e w10 ⟨rfl, k6, f6⟩
  have hBa := hB9.trans (f6.below hB9.size (fun b hb => by rcases hb with rfl | rfl <;> omega))
  have hxa := hx9.fr f6 (fun t => hgr2 (Tri.two t))
  have HO : Hid (Calls Try.prog 26 #[.pointer (some ⟨g, 0, none⟩)] w10 (OPost 8 M1 g s D2.up w10)) :=
    open_inv k6 rfl a1 (by omega) (by omega) I5 (by unfold i64; show -9223372036854775808 ≤ (-1 : Int) ∧ (-1 : Int) ≤ 9223372036854775807; omega) (by show (0 : Int) ≤ D2.wr ∧ D2.wr ≤ 100000000; omega)
  have hlu : D2.up.left = -1 := rfl
  clear L5 I5 k6 f6 hB9 hx9
  have hgr10 := hxa.lt
  generalize D2.up = Du at *
  go_wp2_with fail
  refine HO.out.mono ?_
  rintro e w11 ⟨D3, p1, p2, p3, p4, _, p5, p6⟩
  have hsz10 := hBa.size
  have hBb := hBa.trans (p5.below hBa.size (fun b hb => by rcases hb with rfl | rfl <;> omega))
  have hxb := hxa.fr p5 (fun t => hgr2 (Tri.two t))
  clear HO p5 hBa hxa
  rcases p6 with ⟨o3, S3, q3, rfl, hq3, L6⟩ | ⟨_, b2, _⟩
  case inr => exact absurd b2 (by rw [hlu]; omega)
  have HR3 : Hid (Calls Try.prog 19 #[.pointer (some ⟨q3, 0, none⟩), .int .i64 1] w11 (LReadPost (full 0) q3 g s D3 w11)) :=
    lread_ok 1 1 (full 0) L6 o3 (by rw [p1]; omega) (by rw [p1]; decide) rfl (by rw [p1, S3.2.2.2 1 (by decide)]; exact hb1)
  have hgr3 : ¬ Tri q3 g s gr := fun t => by
    rcases t with rfl | t
    · omega
    · exact hgr2 (Tri.two t)
  clear L6 S3
  go_wp2_with fail
  refine HR3.out.mono ?_
  rintro e w12 ⟨gx, rfl, hgx, hxx, L7, f7⟩
  have hBc := hBb.trans (f7.below hBb.size (fun b hb => by
    rcases hb with rfl | rfl | rfl
    · omega
    · omega
    · omega))
  have hxc := hxb.fr f7 hgr3
  clear HR3 L7 f7 hBb hxb
  have H8 : Hid (∀ w, Calls Try.prog 29 #[.int .u8 8] w (FullP (full 8) w)) := fun w => full_l 8 8 _ w rfl rfl
  have H0 : Hid (∀ w, Calls Try.prog 29 #[.int .u8 0] w (FullP (full 0) w)) := fun w => full_l 0 0 _ w rfl rfl
  have l8 := full_len 8
  have l0 := full_len 0
  clear hb1 hb2 hM1
  generalize full 8 = F8 at *
  generalize full 0 = F0 at *
  have L8 := Lib.hid l8
  have L0 := Lib.hid l0
  clear l8 l0
  have cv4 := conv_box 256 hxc.drew L8.out
  have cv9 := conv_box 256 hxx.drew L0.out
  go_wp2_with fail
  go_region_held (fun w' => (convert 43 9 (.slice (some ⟨gr, 0, none⟩) 256 256)).run Try.prog w' = .ok (.string ⟨F8.toArray⟩) w' ∧ (convert 43 9 (.slice (some ⟨gx, 0, none⟩) 256 256)).run Try.prog w' = .ok (.string ⟨F0.toArray⟩) w') (first | with_reducible exact ⟨cv4, cv9⟩ | with_reducible exact ⟨cv5, cv10⟩ | with_reducible exact ⟨cv6, cv11⟩ | assumption)
    (first | (go_at_call 29; (with_reducible refine (H8.out _).mono ?_); rintro e wA ⟨gA, rfl, hgA, hxA, hbA⟩; have cvA := conv_box 256 hxA L8.out; have hx12 := hxc.drew.below hbA (by exact hxc.lt); have cv5 := conv_box 256 hx12 L8.out; have hx11 := hxx.drew.below hbA (by exact hxx.lt); have cv10 := conv_box 256 hx11 L0.out; have hc10 := hBc.drew.trans (hbA.mono (by exact hBc.size))) | (go_at_call 29; (with_reducible refine (H0.out wA).mono ?_); rintro e wB ⟨gB, rfl, hgB, hxB, hbB⟩; have cvB := conv_box 256 hxB L0.out; have cv6 := conv_box 256 (hx12.below hbB hx12.lt) L8.out; have cv11 := conv_box 256 (hx11.below hbB hx11.lt) L0.out; have hc11 := hc10.trans (hbB.mono (by exact hc10.size))))
  go_wp2
  go_ret
  exact ⟨rfl, hc11⟩
end Go.Proofs.Ytkklplccngdalaa.Dk
