/-
  Contracts of lex's Number and Quote.
-/
import Derived.Test.YtinocaggponpmaaGreatDoorLexW2
namespace Go.Proofs.YtinocaggponpmaaGreatDoor.Lx
open Go.RowKit

/-- A number, or none, as two results. -/
def numE (o : Option Int) : Ending := match o with
  | some n => .returned (.tuple #[.int .i64 n, .bool true])
  | none => .returned (.tuple #[.int .i64 0, .bool false])

theorem numGo_bound (cs : List (Nat × List UInt8)) : ∀ n m : Int, 0 ≤ n → n ≤ 9223372036854775807 → numGo n cs = some m → 0 ≤ m ∧ m ≤ 9223372036854775807 := by
  induction cs with
  | nil => intro n m h0 h1 h; simp [numGo] at h; omega
  | cons c cs ih =>
    intro n m h0 h1 h
    unfold numGo at h
    split at h
    · cases h
    · split at h
      · cases h
      · rename_i hd hn
        have hd' : 48 ≤ (c.1 : Int) ∧ (c.1 : Int) ≤ 57 := by simpa [digitI] using hd
        exact ih _ m (by omega) (by omega) h

theorem hasPrefix_one (l : List UInt8) (b : UInt8) : Lib.hasPrefix l [b] = (l.head? == some b) := by
  cases l with
  | nil => rfl
  | cons a t => simp [Lib.hasPrefix, List.isPrefixOf]; exact Bool.beq_comm ..

theorem num_cases (s : ByteArray) : (numberL s.data.toList = none ∧ ((s.toList = [] ∧ s.toList.isEmpty = true) ∨ (¬ s.toList = [] ∧ s.toList.isEmpty = false ∧ ¬ s.toList = [48] ∧ (s.toList == [48]) = false ∧ Lib.hasPrefix s.data.toList [48] = true))) ∨
    (numberL s.data.toList = numGo 0 (at_ s 0) ∧ ((¬ s.toList = [] ∧ s.toList.isEmpty = false ∧ (s.toList == [48]) = true) ∨ (¬ s.toList = [] ∧ s.toList.isEmpty = false ∧ ¬ s.toList = [48] ∧ (s.toList == [48]) = false ∧ Lib.hasPrefix s.data.toList [48] = false))) := by
  have e : s.toList = s.data.toList := Lib.toList_data s
  rw [e]
  unfold at_
  rw [List.drop_zero]
  generalize s.data.toList = l
  unfold numberL
  rw [hasPrefix_one]
  by_cases h1 : l = []
  · subst h1; simp
  · by_cases h2 : l = [48]
    · subst h2; simp
    · by_cases h3 : l.head? = some 48 <;> simp [h1, h2, h3]

set_option maxHeartbeats 4000000 in
theorem Number_any (s : ByteArray) (w : World) :
    Calls Tryz.prog 126 #[.string s] w fun e w' => e = numE (numberL s.data.toList) ∧ Below w.heap.size w w' := by
  rcases num_cases s with ⟨hf, hc⟩ | ⟨hf, hc⟩
  · have HF := Lib.hid hf; clear hf
    rcases hc with ⟨a1, a2⟩ | ⟨a1, a2, a3, a4, a5⟩
    all_goals
      go_enter Tryz.func126, Tryz.ntmps126
      go_wp2_with (go_at_call 63; refine (hasPrefix_any _ _ _).mono ?_; rintro e w' ⟨rfl, rfl⟩)
      go_ret2
      exact ⟨by rw [HF.out]; rfl, Below.refl _ _⟩
  · have HF := Lib.hid hf; clear hf
    rcases hc with ⟨a1, a2, a3⟩ | ⟨a1, a2, a3, a4, a5⟩
    all_goals
      go_enter Tryz.func126, Tryz.ntmps126
      go_wp2_with (go_at_call 63; refine (hasPrefix_any _ _ _).mono ?_; rintro e w' ⟨rfl, rfl⟩)
      go_loopw [4] (fun n w' => ∃ (pos : Nat) (m : Int), w' = w.iter s pos ∧ n = .int .i64 m ∧ 0 ≤ m ∧ m ≤ 9223372036854775807 ∧ Hid (numberL s.data.toList = numGo m (at_ s pos))) (fun _ w' => s.size - w'.iterPos w.heap.size)
      case atStart => exact ⟨0, 0, rfl, rfl, by omega, by omega, HF.out⟩
      case round =>
        clear HF
        obtain ⟨pos, m, rfl, rfl, hm0, hm1, HI⟩ := hrel
        by_cases hp : pos < s.size
        · have hnx : ∀ ty, (Instr.next (.pointer (some ⟨w.heap.size, 0, none⟩)) true ty).run Tryz.prog (w.iter s pos) = _ := fun ty => run_next_any w s pos ty hp
          have hwd := width_le s pos hp
          have hle := decode_le s pos
          have HN := Lib.hid (at_next s pos hp)
          generalize hd : Utf8.decode s pos = d at *
          have Hd := Lib.hid hd; clear hd
          obtain ⟨r, wd⟩ := d
          rcases hD : digitI (r : Int) with _ | _
          · have HG : Hid (numberL s.data.toList = none) := by
              unfold Hid; rw [HI.out, HN.out]; simp only [numGo, hD, if_true]
            go_wp2_with (go_at_call 108; refine (digit_any _ _).mono ?_; rintro e w' ⟨rfl, rfl⟩)
            go_ret2
            exact ⟨by rw [HG.out]; rfl, (Below.refl _ _).alloc (Nat.le_refl _) _⟩
          · have hr : 48 ≤ (r : Int) ∧ (r : Int) ≤ 57 := by simpa [digitI] using hD
            obtain ⟨hr0, hr1⟩ := hr
            by_cases hbig : (9223372036854775807 - ((r : Int) - 48)) / 10 < m
            · have HG : Hid (numberL s.data.toList = none) := by
                unfold Hid; rw [HI.out, HN.out]; simp only [numGo, hD]; rw [if_neg (by simp), if_pos hbig]
              go_wp2_with (go_at_call 108; refine (digit_any _ _).mono ?_; rintro e w' ⟨rfl, rfl⟩)
              go_ret2
              exact ⟨by rw [HG.out]; rfl, (Below.refl _ _).alloc (Nat.le_refl _) _⟩
            · have HG : Hid (numberL s.data.toList = numGo (m * 10 + ((r : Int) - 48)) (at_ s (pos + wd))) := by
                unfold Hid; rw [HI.out, HN.out]; simp only [numGo, hD]; rw [if_neg (by simp), if_neg hbig]
              have hb2 : m ≤ (9223372036854775807 - ((r : Int) - 48)) / 10 := by omega
              have hb3 : m * 10 + ((r : Int) - 48) ≤ 9223372036854775807 := by omega
              clear hbig
              go_wp2_with (go_at_call 108; refine (digit_any _ _).mono ?_; rintro e w' ⟨rfl, rfl⟩)
              go_roundw
              case rel => exact ⟨pos + wd, m * 10 + ((r : Int) - 48), rfl, rfl, by omega, by omega, HG.out⟩
              case measure => simp; omega
        · have hnx : ∀ ty, (Instr.next (.pointer (some ⟨w.heap.size, 0, none⟩)) true ty).run Tryz.prog (w.iter s pos) = _ := fun ty => run_next_end w s pos ty hp
          have HG : Hid (numberL s.data.toList = some m) := by
            unfold Hid; rw [HI.out, at_end s pos hp]; rfl
          go_wp2_with fail
          go_ret2
          exact ⟨by rw [HG.out]; rfl, (Below.refl _ _).alloc (Nat.le_refl _) _⟩
end Go.Proofs.YtinocaggponpmaaGreatDoor.Lx
