/-
  The walk of DiskCuts.
-/
import Derived.Test.YtjhbeebednahhaaDkW5
import Derived.Test.YtjhbeebednahhaaDkO
namespace Go.Proofs.Ytjhbeebednahhaa.Dk
open Go.RowKit

def CutInv (after : Int) (d : Dsk) (done : Int) : Prop :=
  d.L.length = 16 ∧ d.wr = done ∧ ((after < 0 ∧ d.on = true ∧ d.left = -1) ∨ (0 ≤ after ∧ d.on = true ∧ d.left = after - done ∧ done ≤ after) ∨ (0 ≤ after ∧ d.on = false ∧ done = after))
theorem CutInv.i64_ {after : Int} {d : Dsk} {done : Int} (h : CutInv after d done) (ha : i64 after) (h0 : 0 ≤ done) (hl : d.on = true) : i64 d.left := by
  obtain ⟨_, _, ⟨_, _, h⟩ | ⟨_, _, h, _⟩ | ⟨_, h, _⟩⟩ := h
  · rw [h]; unfold i64; omega
  · rw [h]; unfold i64 at *; omega
  · rw [h] at hl; cases hl
def CutRel (after : Int) (len g s : Nat) (w : World) (n i : Value) (wr : World) : Prop :=
  ∃ (k : Nat) (done : Int) (d : Dsk), i = .int .i64 (k : Int) ∧ k ≤ len ∧ n = .int .i64 done ∧ 0 ≤ done ∧ done ≤ k ∧ Dk wr g s d ∧ i64 d.left ∧ CutInv after d done ∧ Below w.heap.size w wr

theorem write_cases (d : Dsk) (x : Int) (F : List UInt8) (hF : F.length = 256) :
    (d.err x 256 = 6 ∧ d.write x F = d ∧ d.on = false) ∨ (d.err x 256 = 1 ∧ d.write x F = d ∧ d.on = true ∧ d.Bad x) ∨
    (d.err x 256 = 6 ∧ d.write x F = d.off ∧ d.on = true ∧ ¬ d.Bad x ∧ d.left = 0) ∨ (d.err x 256 = 0 ∧ d.write x F = d.put x.toNat F ∧ d.on = true ∧ ¬ d.Bad x ∧ d.left ≠ 0) := by
  unfold Dsk.err Dsk.write
  by_cases ho : d.on = false
  · exact .inl ⟨if_pos ho, if_pos ho, ho⟩
  · have ho' : d.on = true := by simpa using ho
    rw [if_neg ho, if_neg ho]
    by_cases hb : d.Bad x
    · exact .inr (.inl ⟨if_pos (.inl hb), if_pos (.inl hb), ho', hb⟩)
    · have k1 : ¬ (d.Bad x ∨ (256 : Nat) ≠ 256) := fun h => h.elim hb fun k => k rfl
      have k2 : ¬ (d.Bad x ∨ F.length ≠ 256) := fun h => h.elim hb fun k => k hF
      rw [if_neg k1, if_neg k2]
      by_cases hl : d.left = 0
      · exact .inr (.inr (.inl ⟨if_pos hl, if_pos hl, ho', hb, hl⟩))
      · exact .inr (.inr (.inr ⟨if_neg hl, if_neg hl, ho', hb, hl⟩))

set_option maxRecDepth 100000 in
set_option maxHeartbeats 8000000 in
theorem cuts_short (after : Int) (A : Option Addr) (l : List Int) (c : Nat) (w : World) (ha : i64 after) (hl : Nums w A l) (h2 : l.length ≤ 200) :
    Calls Try.prog 4 #[.int .i64 after, .slice A l.length c] w (TruePost w) := by
  have g1 : decide ((200 : Int) < (l.length : Int)) = false := by simp; omega
  go_enter Try.func4, Try.ntmps4
  go_wp2_with fail
  refine (awake_all w).mono ?_
  rintro e w1 ⟨rfl, hb1⟩
  go_wp2_with fail
  refine (new_ok 16 w1 (by omega) (by omega)).mono ?_
  rintro e w2 ⟨g, s, rfl, hg, hs, h2', hb2⟩
  have hc2 := hb1.trans (hb2.mono hb1.size)
  have hg' : w.heap.size ≤ g := Nat.le_trans hb1.size hg
  have hs' : w.heap.size ≤ s := Nat.le_trans hb1.size hs
  clear hb1 hb2 hg hs
  go_wp2_with fail
  refine (cut_all after h2').mono ?_
  rintro e w3 ⟨rfl, h3, f3⟩
  have hc3 := hc2.trans (f3.below hc2.size (fun b hb => by rcases hb with rfl | rfl <;> omega))
  clear hc2 f3 h2'
  go_wp2_with fail
  clear g1
  go_loopw [8, 9] (CutRel after l.length g s w) (fun _ i _ => l.length - (intOf i).toNat)
  case atStart =>
    refine ⟨0, 0, _, rfl, by omega, rfl, by omega, by omega, h3, ?_, ?_, hc3⟩
    · unfold Dsk.cut i64 at *
      simp only
      split <;> omega
    · refine ⟨new_len 16, rfl, ?_⟩
      unfold Dsk.cut
      by_cases hn : after < 0
      · exact .inl ⟨hn, rfl, if_pos hn⟩
      · exact .inr (.inl ⟨by omega, rfl, by simp only [if_neg hn]; omega, by omega⟩)
  case round =>
    obtain ⟨k, done, d, rfl, hk, rfl, hd0, hdk, hD, hi, hinv, hbw⟩ := hrel
    clear h3 hc3
    by_cases hlt : k < l.length
    · obtain ⟨ad, rfl, hab, hcell0, hx⟩ := hl.at_ hlt
      have HC : Hid (∀ w', Below w.heap.size w w' → w'.cell? (ad.add k) = some (.int .i64 l[k])) := fun w' hb => (hb.cell (p := ad.add k) (by rw [blk_add]; exact hab)).trans hcell0
      have hcell := HC.out _ hbw
      clear hcell0
      have hlD := hD.lt
      generalize l[k] = x at *
      have hwk : IntKind.u8.wrap (k : Int) = (k : Int) := by rw [IntKind.wrap_u8]; omega
      have hwr : 0 ≤ d.wr ∧ d.wr ≤ 1000000000 := by rw [hinv.2.1]; omega
      have HF : Hid (∀ w, Calls Try.prog 13 #[.int .u8 (k : Int)] w (FullP (full (UInt8.ofNat k)) w)) := fun w => full_l _ _ _ w (by rw [ofNat_toNat (by omega)]) rfl
      have LF := Lib.hid (full_len (UInt8.ofNat k))
      generalize full (UInt8.ofNat k) = F at *
      have HWI := Lib.hid hwr
      have HI := Lib.hid hi
      have HV := Lib.hid hinv
      clear hwr hi hinv
      go_wp2_with fail
      go_region_held (fun w' => w'.cell? (ad.add k) = some (.int .i64 x)) (first | exact hcell | exact hcell2 | exact hcell3 | assumption)
        (first | (go_at_call 13; (with_reducible refine (HF.out _).mono ?_); rintro e w4 ⟨g4, rfl, hg4, hx4, hb4⟩; have h4 := hD.drew_.below hb4; have hc4 := hbw.drew.trans (hb4.mono (by exact hbw.size)); have hcell2 := HC.out _ hc4; have hn4 : g4 ≠ g := (by have : wr.heap.size ≤ g4 := hg4; omega); have hn5 : g4 ≠ s := (by have : wr.heap.size ≤ g4 := hg4; omega)) | (go_at_call 12; (with_reducible refine (write_box x g4 _ F 256 h4 HI.out HWI.out hx4 LF.out hn4 hn5).mono ?_); rintro e w5 ⟨rfl, h5, f5⟩; have hc5 := hc4.trans (f5.below hc4.size (fun b hb => by rcases hb with rfl | rfl <;> omega)); have hcell3 := HC.out _ hc5))
      have hinv := HV.out
      have hcs := write_cases d x F LF.out
      clear HF HC HWI h4 hc4 hcell hcell2 hx4 hwk hD hbw
      rcases hcs with ⟨he, hw, ho⟩ | ⟨he, hw, ho, hbad⟩ | ⟨he, hw, ho0, hbad, hz⟩ | ⟨he, hw, ho0, hbad, hz⟩
      · rw [he]
        rw [hw] at h5
        obtain ⟨ha0, hda⟩ : 0 ≤ after ∧ done = after := by
          obtain ⟨_, _, ⟨_, h, _⟩ | ⟨_, h, _⟩ | ⟨h1, _, h2⟩⟩ := hinv
          · rw [ho] at h; cases h
          · rw [ho] at h; cases h
          · exact ⟨h1, h2⟩
        have b4 : decide (after < 0) = false := by simp; omega
        have b5 : (done != after) = false := by simp [hda]
        have b6 : (done == after) = true := by simp [hda]
        clear he hw HV hda
        by_cases x0 : x < 0
        · have b1 : decide (0 ≤ x) = false := by simp; omega
          have HO := Lib.hid hinv
          clear hinv
          go_wp2_with fail
          refine (on_all h5).mono ?_
          rintro e w' ⟨rfl, rfl⟩
          rw [ho]
          go_wp2
          go_roundw
          case rel => exact ⟨k + 1, done, d, by go_num, by omega, rfl, by omega, by omega, h5, HI.out, HO.out, hc5⟩
          case measure => simp [intOf]; omega
        · have b1 : decide (0 ≤ x) = true := by simp; omega
          by_cases x1 : x < 16
          · have b2 : decide (x < 16) = true := by simp; omega
            have HO := Lib.hid hinv
            clear hinv
            go_wp2_with fail
            refine (on_all h5).mono ?_
            rintro e w' ⟨rfl, rfl⟩
            rw [ho]
            go_wp2
            go_roundw
            case rel => exact ⟨k + 1, done, d, by go_num, by omega, rfl, by omega, by omega, h5, HI.out, HO.out, hc5⟩
            case measure => simp [intOf]; omega
          · have b2 : decide (x < 16) = false := by simp; omega
            have HO := Lib.hid hinv
            clear hinv
            go_wp2_with fail
            refine (on_all h5).mono ?_
            rintro e w' ⟨rfl, rfl⟩
            rw [ho]
            go_wp2
            go_roundw
            case rel => exact ⟨k + 1, done, d, by go_num, by omega, rfl, by omega, by omega, h5, HI.out, HO.out, hc5⟩
            case measure => simp [intOf]; omega
      · rw [he]
        rw [hw] at h5
        have hb' : x < 0 ∨ 16 ≤ x := by have := hinv.1; unfold Dsk.Bad at hbad; omega
        clear he hw HV hbad
        have HO := Lib.hid hinv
        clear hinv
        by_cases x0 : x < 0
        · have b1 : decide (0 ≤ x) = false := by simp; omega
          go_wp2_with fail
          refine (on_all h5).mono ?_
          rintro e w' ⟨rfl, rfl⟩
          rw [ho]
          go_wp2
          go_roundw
          case rel => exact ⟨k + 1, done, d, by go_num, by omega, rfl, by omega, by omega, h5, HI.out, HO.out, hc5⟩
          case measure => simp [intOf]; omega
        · have b1 : decide (0 ≤ x) = true := by simp; omega
          have b2 : decide (x < 16) = false := by simp; omega
          go_wp2_with fail
          refine (on_all h5).mono ?_
          rintro e w' ⟨rfl, rfl⟩
          rw [ho]
          go_wp2
          go_roundw
          case rel => exact ⟨k + 1, done, d, by go_num, by omega, rfl, by omega, by omega, h5, HI.out, HO.out, hc5⟩
          case measure => simp [intOf]; omega
      · rw [he]
        rw [hw] at h5
        have hb' : 0 ≤ x ∧ x < 16 := by have := hinv.1; unfold Dsk.Bad at hbad; omega
        have b1 : decide (0 ≤ x) = true := by simp; omega
        have b2 : decide (x < 16) = true := by simp; omega
        obtain ⟨ha0, hda⟩ : 0 ≤ after ∧ done = after := by
          obtain ⟨_, _, ⟨_, _, h⟩ | ⟨h1, _, h, _⟩ | ⟨h1, h, _⟩⟩ := hinv
          · omega
          · omega
          · rw [ho0] at h; cases h
        have HO : Hid (CutInv after d.off done) := ⟨hinv.1, hinv.2.1, .inr (.inr ⟨ha0, rfl, hda⟩)⟩
        have ho : d.off.on = false := rfl
        have b4 : decide (after < 0) = false := by simp; omega
        have b5 : (done != after) = false := by simp [hda]
        have b6 : (done == after) = true := by simp [hda]
        clear he hw HV hda hinv hbad hz
        go_wp2_with fail
        refine (on_all h5).mono ?_
        rintro e w' ⟨rfl, rfl⟩
        rw [ho]
        go_wp2
        go_roundw
        case rel => exact ⟨k + 1, done, d.off, by go_num, by omega, rfl, by omega, by omega, h5, HI.out, HO.out, hc5⟩
        case measure => simp [intOf]; omega
      · rw [he]
        rw [hw] at h5
        have hb' : 0 ≤ x ∧ x < 16 := by have := hinv.1; unfold Dsk.Bad at hbad; omega
        have b1 : decide (0 ≤ x) = true := by simp; omega
        have b2 : decide (x < 16) = true := by simp; omega
        have HJ : Hid (i64 (d.put x.toNat F).left) := by
          have := HI.out
          unfold Hid Dsk.put less i64 at *
          simp only
          split <;> omega
        have ho : (d.put x.toNat F).on = true := ho0
        by_cases ha0 : after < 0
        · have HO : Hid (CutInv after (d.put x.toNat F) (done + 1)) := by
            obtain ⟨h1, h2, ⟨_, _, h⟩ | ⟨_, _, h, _⟩ | ⟨_, h, _⟩⟩ := hinv
            · refine ⟨by simp [Dsk.put, h1], by simp [Dsk.put, h2], .inl ⟨ha0, ho0, ?_⟩⟩
              simp [Dsk.put, less, h]
            · omega
            · omega
          have b3 : decide (0 ≤ after) = false := by simp; omega
          clear he hw HV hinv hbad hz
          go_wp2_with fail
          refine (on_all h5).mono ?_
          rintro e w' ⟨rfl, rfl⟩
          rw [ho]
          go_wp2
          go_roundw
          case rel => exact ⟨k + 1, done + 1, d.put x.toNat F, by go_num, by omega, rfl, by omega, by omega, h5, HJ.out, HO.out, hc5⟩
          case measure => simp [intOf]; omega
        · obtain ⟨hle, HO⟩ : done + 1 ≤ after ∧ Hid (CutInv after (d.put x.toNat F) (done + 1)) := by
            obtain ⟨h1, h2, ⟨_, _, h⟩ | ⟨h3, _, h, h4⟩ | ⟨_, h, _⟩⟩ := hinv
            · omega
            · refine ⟨by omega, by simp [Dsk.put, h1], by simp [Dsk.put, h2], .inr (.inl ⟨h3, ho0, ?_, by omega⟩)⟩
              simp only [Dsk.put, less, h]
              rw [if_pos (by omega)]
              omega
            · rw [ho0] at h; cases h
          have b3 : decide (0 ≤ after) = true := by simp; omega
          have b7 : decide (after < done + 1) = false := by simp; omega
          clear he hw HV hinv hbad hz
          go_wp2_with fail
          refine (on_all h5).mono ?_
          rintro e w' ⟨rfl, rfl⟩
          rw [ho]
          go_wp2
          go_roundw
          case rel => exact ⟨k + 1, done + 1, d.put x.toNat F, by go_num, by omega, rfl, by omega, by omega, h5, HJ.out, HO.out, hc5⟩
          case measure => simp [intOf]; omega
    · have hlD := hD.lt
      have hL := hinv.1
      have hW := hinv.2.1
      go_wp2_with fail
      refine (up_all hD).mono ?_
      rintro e w4 ⟨rfl, h4, f4⟩
      have hc4 := hbw.trans (f4.below hbw.size (fun b hb => by rcases hb with rfl | rfl <;> omega))
      have hl4 := h4.lt
      clear f4 hbw hD
      go_wp2_with fail
      refine (full_l 1 1 _ w4 rfl rfl).mono ?_
      rintro e w5 ⟨g5, rfl, hg5, hx5, hb5⟩
      have h5 := h4.below hb5
      have hc5 := hc4.trans (hb5.mono hc4.size)
      clear h4 hc4 hb5
      go_wp2_with fail
      refine (write_box 3 g5 _ _ 256 h5 (by show i64 (-1); unfold i64; omega) (by show 0 ≤ d.wr ∧ d.wr ≤ _; rw [hW]; omega) hx5 (full_len 1) (by omega) (by omega)).mono ?_
      rintro e w6 ⟨rfl, h6, f6⟩
      rw [err_ok rfl (by omega) (by show _ < (d.L.length : Int); rw [hL]; omega) (by show (-1 : Int) ≠ 0; decide)]
      rw [write_put rfl (by omega) (by show _ < (d.L.length : Int); rw [hL]; omega) (by show (-1 : Int) ≠ 0; decide) (full_len 1)] at h6
      have hc6 := hc5.trans (f6.below hc5.size (fun b hb => by rcases hb with rfl | rfl <;> omega))
      clear h5 hc5 f6 hx5
      go_wp2_with fail
      refine (on_all h6).mono ?_
      rintro e w' ⟨rfl, rfl⟩
      rw [show (d.up.put (3 : Int).toNat (full 1)).on = true from rfl]
      go_wp2_with fail
      refine (writes_all h6).mono ?_
      rintro e w' ⟨rfl, rfl⟩
      rw [show (d.up.put (3 : Int).toNat (full 1)).wr = d.wr + 1 from rfl, hW]
      clear hL hW hinv
      go_wp2
      go_ret
      exact ⟨rfl, hc6⟩

theorem cuts_walk (after : Int) (A : Option Addr) (l : List Int) (c : Nat) (w : World) (ha : i64 after) (_hc : l.length ≤ c) (_hm : c ≤ maxLen) (hl : Nums w A l) :
    Calls Try.prog 4 #[.int .i64 after, .slice A l.length c] w (TruePost w) := by
  rcases Nat.lt_or_ge 200 l.length with h2 | h2
  · have g1 : decide ((200 : Int) < (l.length : Int)) = true := by simp; omega
    go_enter Try.func4, Try.ntmps4
    go_wp2_with fail
    refine (awake_all w).mono ?_
    rintro e w1 ⟨rfl, hb1⟩
    go_wp2_with fail
    refine (new_ok 16 w1 (by omega) (by omega)).mono ?_
    rintro e w2 ⟨g, s, rfl, hg, hs, h2', hb2⟩
    have hc2 := hb1.trans (hb2.mono hb1.size)
    go_wp2
    go_ret
    exact ⟨rfl, hc2⟩
  · exact cuts_short after A l c w ha hl h2
end Go.Proofs.Ytjhbeebednahhaa.Dk
