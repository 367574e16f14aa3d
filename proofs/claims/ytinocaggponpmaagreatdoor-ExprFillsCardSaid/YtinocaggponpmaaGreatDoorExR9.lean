/-
  The contract of expr.Take.
-/
import Derived.Test.YtinocaggponpmaaGreatDoorExR8
namespace Go.Proofs.YtinocaggponpmaaGreatDoor.Ep
open Go.RowKit Lx

/-- What Take, from place i on, leaves. -/
def TPost (L : List Tok) (i : Nat) (w : World) (r : Res) (e : Ending) (w' : World) : Prop :=
  match r with
  | .ok t b' ts => ∃ v, e = .returned (.tuple #[v, .int .i64 0, .int .i64 ((i : Int) + ((64 - b' : Nat) : Int))]) ∧ TreeV (fun k => w.heap.size ≤ k) w' t v ∧ ts = L.drop (i + (64 - b')) ∧ Below w.heap.size w w'
  | .er f b' => e = .returned (.tuple #[exV 0 0 [] none 0 0, .int .i64 f, .int .i64 ((i : Int) + ((64 - b' : Nat) : Int))]) ∧ f ≠ 0 ∧ Below w.heap.size w w'

/-- A list of tokens in memory. -/
structure ToksAt (w : World) (g c : Nat) (L : List Tok) : Prop where
  lt : g < w.heap.size
  toks : ∀ k (_ : k < L.length), w.cell? ⟨g, k * 4, none⟩ = some (.int .i64 (L.getD k endTok).kind) ∧ w.cell? ⟨g, k * 4 + 1, none⟩ = some (.string ⟨(L.getD k endTok).text.toArray⟩) ∧
      w.cell? ⟨g, k * 4 + 2, none⟩ = some (.int .i64 (L.getD k endTok).n) ∧ w.cell? ⟨g, k * 4 + 3, none⟩ = some (.int .i64 (L.getD k endTok).at_)
  cap : L.length ≤ c
  len : L.length ≤ 3000
theorem ToksAt.below {w w' : World} {g c : Nat} {L : List Tok} (h : ToksAt w g c L) {B : Nat} (hb : Below B w w') (hB : w.heap.size ≤ B) : ToksAt w' g c L := by
  refine ⟨Nat.lt_of_lt_of_le h.lt hb.size, fun k hk => ?_, h.cap, h.len⟩
  have hg : g < B := Nat.lt_of_lt_of_le h.lt hB
  rw [hb.cell (p := ⟨g, _, none⟩) hg, hb.cell (p := ⟨g, _, none⟩) hg, hb.cell (p := ⟨g, _, none⟩) hg, hb.cell (p := ⟨g, _, none⟩) hg]
  exact h.toks k hk

set_option maxHeartbeats 4000000 in
theorem Take_any (g c : Nat) (L : List Tok) (i : Nat) (w : World) (hO : Ops w) (hL : ToksAt w g c L) (hi : i < L.length) :
    Calls Tryz.prog 23 #[.slice (some ⟨g, 0, none⟩) L.length c, .int .i64 i] w (TPost L i w (takeT (L.drop i))) := by
  have hl := hL.len
  have hb1 : Below w.heap.size w (w.alloc (.cells #[.int .i64 0, .int .i64 0, .string ⟨#[]⟩, .slice none 0 0] 25)) := (Below.refl _ _).alloc (Nat.le_refl _) _
  have hx0 := (Box.new w 25 #[.int .i64 0, .int .i64 0, .string ⟨#[]⟩, .slice none 0 0]).alloc (.cells #[.slice (some ⟨g, 0, none⟩) L.length c, .int .i64 i, .int .i64 0] 67)
  have hrd : Rd (w.heap.size + 1) g c L i (64 - 64) ((w.alloc (.cells #[.int .i64 0, .int .i64 0, .string ⟨#[]⟩, .slice none 0 0] 25)).alloc (.cells #[.slice (some ⟨g, 0, none⟩) L.length c, .int .i64 i, .int .i64 0] 67)) := by
    have hL2 := (hL.below hb1 (Nat.le_refl _)).below ((Below.refl _ _).alloc (Nat.le_refl _) (.cells #[.slice (some ⟨g, 0, none⟩) L.length c, .int .i64 i, .int .i64 0] 67)) (Nat.le_refl _)
    refine ⟨?_, by have := hL.lt; omega, hL2.toks, hL.cap, hL.len, (hO.alloc _).alloc _, by have := hO.lt; omega⟩
    have := Box.new (w.alloc (.cells #[.int .i64 0, .int .i64 0, .string ⟨#[]⟩, .slice none 0 0] 25)) 67 #[.slice (some ⟨g, 0, none⟩) L.length c, .int .i64 i, .int .i64 0]
    unfold Box at this; simpa using this
  have HU := Lib.hid (or_all (w.heap.size + 1) g c L _ 65 (unary_reads (w.heap.size + 1) g c L 65))
  have hd : decide (L.length ≤ i) = false := by simpa using hi
  have hbb := (hb1.alloc (by simp) (.cells #[.slice (some ⟨g, 0, none⟩) L.length c, .int .i64 i, .int .i64 0] 67))
  clear hb1
  go_enter Tryz.func23, Tryz.ntmps23
  go_wp2_with fail
  refine (HU.out i 64 _ (by omega) (by omega) (by omega) hrd).mono ?_
  intro e w1 hpost
  obtain ⟨z0, z1, s, a, n, cp, f, rfl, hgot⟩ := rpost_got hpost
  have hx1 := hx0.keeps hgot.keeps (by omega)
  have hbf : Below w.heap.size w w1 := hbb.trans (hgot.keeps.to (by omega) (by simp))
  have hs1 : w.heap.size + 1 < w1.heap.size := by have := hgot.keeps.size; simp at this; omega
  have HT : Hid (takeT (L.drop i) = orOf (unaryT 65) 64 (L.drop i)) := rfl
  clear hpost hx0 hrd hbb
  obtain ⟨r0, r1, r2, r3, s0, s1, s2, s3⟩ := hx1.four
  rcases hgot.what with ⟨rfl, t, b', ts, hr, hb', hts, hRd, rfl, rfl, rfl, rfl, hT⟩ | ⟨hf, b', hr, hb', hRd⟩
  · have HE : Hid (takeT (L.drop i) = .ok t b' ts) := by unfold Hid; rw [HT.out]; exact hr
    have q1 := hRd.c1
    have HS := Lib.hid hts
    have hlw := hx1.lt
    clear hr HT hgot HU hts
    go_wp2
    go_region
    all_goals go_wp2
    all_goals rw [HE.out]
    all_goals refine bodyPost_ret (v := .tuple #[exV t.op t.n t.name a t.kids.length cp, .int .i64 0, .int .i64 ((i : Int) + ((64 - b' : Nat) : Int))]) (by simp [results, Tryz.results23, go_sem, exV, r0, r1, r2, r3, hlw]) rfl ⟨_, rfl, ?_, HS.out, ?_⟩
    · exact TreeV.drew (TreeV.alloc (TreeV.low (fun k hk => by simp at hk; omega) _ _ (TreeV.keep (by rw [size4]; exact Nat.le_refl _) (fun q hq _ => block4 _ _ _ _ _ _ _ (by simp at hq; omega)) _ _ hT)) _)
    · exact ((below_set4 hbf (Nat.le_refl _) _ _ _ _).alloc (below_set4 hbf (Nat.le_refl _) _ _ _ _).size _).drew
  · have HE : Hid (takeT (L.drop i) = .er f b') := by unfold Hid; rw [HT.out]; exact hr
    have hd : (f != 0) = true := by simpa using hf
    have q1 := hRd.c1
    have hlw := hx1.lt
    clear hr HT hgot HU
    go_wp2
    go_region
    all_goals go_wp2
    all_goals rw [HE.out]
    all_goals refine bodyPost_ret (v := .tuple #[exV 0 0 [] none 0 0, .int .i64 f, .int .i64 ((i : Int) + ((64 - b' : Nat) : Int))]) (by simp [results, Tryz.results23, go_sem, exV, r0, r1, r2, r3, hlw]) rfl ⟨rfl, hf, ?_⟩
    exact ((below_set4 hbf (Nat.le_refl _) _ _ _ _).alloc (below_set4 hbf (Nat.le_refl _) _ _ _ _).size _).drew
end Go.Proofs.YtinocaggponpmaaGreatDoor.Ep
