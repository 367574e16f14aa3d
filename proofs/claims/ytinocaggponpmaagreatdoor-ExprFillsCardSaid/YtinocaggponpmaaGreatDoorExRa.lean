/-
  The contract of expr.Parse.
-/
import Derived.Test.YtinocaggponpmaaGreatDoorExR9
import Derived.Test.YtinocaggponpmaaGreatDoorExP2
import Derived.Test.YtinocaggponpmaaGreatDoorLexK
namespace Go.Proofs.YtinocaggponpmaaGreatDoor.Ep
open Go.RowKit Lx

/-- What Parse leaves. -/
def PPost (r : Option Ex × Int × Int) (w : World) (e : Ending) (w' : World) : Prop :=
  match r.1 with
  | some t => ∃ v, e = .returned (.tuple #[v, .int .i64 r.2.1, .int .i64 r.2.2]) ∧ TreeV (fun k => w.heap.size ≤ k) w' t v ∧ Below w.heap.size w w'
  | none => e = .returned (.tuple #[exV 0 0 [] none 0 0, .int .i64 r.2.1, .int .i64 r.2.2]) ∧ Below w.heap.size w w'

theorem cut_len_le (l : List UInt8) : (cutL l).1.length ≤ 2001 := by
  by_cases h : l.length ≤ 8192
  · rcases cut_run l h with ⟨e, p, h1, -⟩ | ⟨ts, h1, -, h2, -⟩
    · rw [h1]; simp
    · rw [h1]; simp; omega
  · have : cutL l = ([], 2, 0) := cutL_long l (by omega)
    rw [this]; simp
theorem cut_form (l : List UInt8) (h0 : (cutL l).2.1 = 0) : ∃ (ts : List Tok) (p : Int), (cutL l).1 = ts ++ [⟨0, [], 0, p⟩] := by
  by_cases h : l.length ≤ 8192
  · rcases cut_run l h with ⟨e, p, h1, h2, -⟩ | ⟨ts, h1, -⟩
    · rw [h1] at h0; exact absurd h0 h2
    · exact ⟨ts, _, by rw [h1]⟩
  · have : cutL l = ([], 2, 0) := cutL_long l (by omega)
    rw [this] at h0; cases h0

set_option maxHeartbeats 4000000 in
theorem Parse_any (s : ByteArray) (w : World) (hs : s.size ≤ 9223372036854775807) (hO : Ops w) :
    Calls Tryz.prog 7 #[.string s] w (PPost (parseP s.data.toList) w) := by
  have hbw : Below w.heap.size w (w.alloc (.cells #[.int .i64 0, .int .i64 0, .string ⟨#[]⟩, .slice none 0 0] 25)) := (Below.refl _ _).alloc (Nat.le_refl _) _
  have hx0 := Box.new w 25 #[.int .i64 0, .int .i64 0, .string ⟨#[]⟩, .slice none 0 0]
  have HP : Hid (parseP s.data.toList = if (cutL s.data.toList).2.1 ≠ 0 then (none, (cutL s.data.toList).2.1, (cutL s.data.toList).2.2) else match takeT (cutL s.data.toList).1 with
    | .er f b' => (none, f, ((cutL s.data.toList).1.getD (64 - b') endTok).at_)
    | .ok t b' ts => if (nextT ts).kind ≠ 0 then (none, 11, ((cutL s.data.toList).1.getD (64 - b') endTok).at_) else (some t, 0, 0)) := rfl
  have HL := Lib.hid (cut_len_le s.data.toList)
  have HF := Lib.hid (cut_form s.data.toList)
  have HN := Lib.hid (cut_fine s.data.toList)
  have HB := Lib.hid hbw
  clear hbw
  go_enter Tryz.func7, Tryz.ntmps7
  go_wp2_with fail
  refine (Cut_any s _ hs).mono ?_
  rintro e w1 ⟨v, rfl, hown, hb1⟩
  have hx1 := hx0.below hb1 hx0.lt
  have hbw1 := HB.out.trans (hb1.mono (by simp))
  have hO1 := hO.below hbw1 hO.lt
  obtain ⟨A, cap, rfl⟩ := ownsRow_slice hown
  generalize cutL s.data.toList = C at *
  obtain ⟨L, f, at_⟩ := C
  simp only at *
  clear hx0 HB hb1
  obtain ⟨r0, r1, r2, r3, s0, s1, s2, s3⟩ := hx1.four
  have hlw := hx1.lt
  by_cases hf : f = 0
  · have hd : (f != 0) = false := by simp [hf]
    obtain ⟨ts, p, hts⟩ := HF.out hf
    have hpos : 0 < L.length := by rw [hts]; simp
    obtain ⟨-, hc, hg⟩ := own_toks hown
    obtain ⟨g, rfl, hgl, hcells⟩ := hg hpos
    have hne : w.heap.size < g := by
      obtain ⟨g', cap', hv, hb', -⟩ := hown.form (by omega)
      injection hv with hv
      injection hv with hv
      injection hv with hv
      subst hv
      simp at hb'
      omega
    have hne1 : ¬ w.heap.size = g := by omega
    have hne2 : ¬ g = w.heap.size := by omega
    have hTA : ToksAt w1 g cap L := ⟨hgl, hcells, hc, by have := HL.out; omega⟩
    have HQ : Hid (parseP s.data.toList = match takeT L with
      | .er f b' => (none, f, (L.getD (64 - b') endTok).at_)
      | .ok t b' ts => if (nextT ts).kind ≠ 0 then (none, 11, (L.getD (64 - b') endTok).at_) else (some t, 0, 0)) := by
      unfold Hid; rw [HP.out, if_neg (by simp [hf])]
    have HTS := Lib.hid hts
    have hcons := take_cons Fine L HN.out
    have hll := HL.out
    clear HP HF hf hts hcells hown
    go_wp2_with fail
    refine (Take_any g cap L 0 _ hO1 hTA hpos).mono ?_
    rw [List.drop_zero]
    intro e w2 hpost
    cases hr : takeT L with
    | er f2 b' =>
      rw [hr] at hpost hcons
      obtain ⟨rfl, hf2, hb2⟩ := hpost
      have hlt := taken_lt L ts p HTS.out (64 - b') hcons.2.1
      have HE : Hid (parseP s.data.toList = (none, f2, (L.getD (64 - b') endTok).at_)) := by unfold Hid; rw [HQ.out, hr]
      have hTA2 := hTA.below hb2 (Nat.le_refl _)
      obtain ⟨t0, t1, t2, t3⟩ := hTA2.toks (64 - b') hlt
      have hg2 := hTA2.lt
      have hx2 := hx1.below hb2 hlw
      have hbw2 := hbw1.trans (hb2.mono (Nat.le_of_lt (Nat.lt_of_lt_of_le hlw (Nat.le_refl _))))
      clear HQ hr hcons hTA hTA2 r0 r1 r2 r3 s0 s1 s2 s3
      obtain ⟨r0, r1, r2, r3, s0, s1, s2, s3⟩ := hx2.four
      have hlw2 := hx2.lt
      have d1 : (f2 == 0) = false := by simpa using hf2
      have d2 : (f2 != 0) = true := by simpa using hf2
      generalize 64 - b' = k at *
      generalize L.getD k endTok = tk at *
      generalize L.length = len at *
      unfold exV
      go_wp2
      go_region
      go_wp2
      rw [HE.out]
      exact bodyPost_ret (v := .tuple #[exV 0 0 [] none 0 0, .int .i64 f2, .int .i64 tk.at_]) (by simp [results, Tryz.results7, go_sem, exV, r0, r1, r2, r3, hlw2]) rfl ⟨rfl, ((below_set4 hbw2 (Nat.le_refl _) _ _ _ _).alloc (below_set4 hbw2 (Nat.le_refl _) _ _ _ _).size _).drew⟩
    | ok t b' ts' =>
      rw [hr] at hpost hcons
      obtain ⟨v, rfl, hT, hts', hb2⟩ := hpost
      have hlt := taken_lt L ts p HTS.out (64 - b') hcons.2.2.1
      have hnx : nextT ts' = L.getD (64 - b') endTok := by rw [hts', getD_next, Nat.zero_add]
      obtain ⟨ta, tcap, rfl, -, -⟩ := hT.open
      have hTA2 := hTA.below hb2 (Nat.le_refl _)
      obtain ⟨t0, t1, t2, t3⟩ := hTA2.toks (64 - b') hlt
      have hg2 := hTA2.lt
      have hx2 := hx1.below hb2 hlw
      have hbw2 := hbw1.trans (hb2.mono (Nat.le_of_lt (Nat.lt_of_lt_of_le hlw (Nat.le_refl _))))
      have hTl : TreeV (fun k => w.heap.size + 1 ≤ k) w2 t (exV t.op t.n t.name ta t.kids.length tcap) := TreeV.low (fun k hk => by omega) _ _ hT
      have hpq : Hid (parseP s.data.toList = if (L.getD (64 - b') endTok).kind ≠ 0 then (none, 11, (L.getD (64 - b') endTok).at_) else (some t, 0, 0)) := by unfold Hid; rw [HQ.out, hr]; simp only; rw [hnx]
      clear HQ hr hcons hTA hTA2 r0 r1 r2 r3 s0 s1 s2 s3 hnx hts' hT
      obtain ⟨r0, r1, r2, r3, s0, s1, s2, s3⟩ := hx2.four
      have hlw2 := hx2.lt
      generalize 64 - b' = k at *
      generalize L.getD k endTok = tk at *
      generalize L.length = len at *
      unfold exV
      by_cases hk0 : tk.kind = 0
      · have HE : Hid (parseP s.data.toList = (some t, 0, 0)) := by unfold Hid; rw [hpq.out, if_neg (by simp [hk0])]
        have d1 : (tk.kind != 0) = false := by simp [hk0]
        clear hk0 hpq
        go_wp2
        rw [HE.out]
        refine bodyPost_ret (v := .tuple #[exV t.op t.n t.name ta t.kids.length tcap, .int .i64 0, .int .i64 0]) (by simp [results, Tryz.results7, go_sem, exV, r0, r1, r2, r3, hlw2]) rfl ⟨_, rfl, ?_, ?_⟩
        · exact TreeV.alloc (TreeV.low (fun k hk => by omega) _ _ (TreeV.keep (by rw [size4]; exact Nat.le_refl _) (fun q hq _ => block4 _ _ _ _ _ _ _ (by omega)) _ _ hTl)) _
        · exact (below_set4 hbw2 (Nat.le_refl _) _ _ _ _).alloc (below_set4 hbw2 (Nat.le_refl _) _ _ _ _).size _
      · have HE : Hid (parseP s.data.toList = (none, 11, tk.at_)) := by unfold Hid; rw [hpq.out, if_pos hk0]
        have d1 : (tk.kind != 0) = true := by simpa using hk0
        clear hk0 hpq
        go_wp2
        go_region
        go_wp2
        rw [HE.out]
        exact bodyPost_ret (v := .tuple #[exV 0 0 [] none 0 0, .int .i64 11, .int .i64 tk.at_]) (by simp [results, Tryz.results7, go_sem, exV, r0, r1, r2, r3, hlw2]) rfl ⟨rfl, ((below_set4 hbw2 (Nat.le_refl _) _ _ _ _).alloc (below_set4 hbw2 (Nat.le_refl _) _ _ _ _).size _).drew⟩
  · have hd : (f != 0) = true := by simp [hf]
    have HE : Hid (parseP s.data.toList = (none, f, at_)) := by unfold Hid; rw [HP.out, if_pos hf]
    clear HP HF hf
    go_wp2
    rw [HE.out]
    exact bodyPost_ret (v := .tuple #[exV 0 0 [] none 0 0, .int .i64 f, .int .i64 at_]) (by simp [results, Tryz.results7, go_sem, exV, r0, r1, r2, r3]) rfl ⟨rfl, below_set4 hbw1 (Nat.le_refl _) _ _ _ _⟩
end Go.Proofs.YtinocaggponpmaaGreatDoor.Ep
