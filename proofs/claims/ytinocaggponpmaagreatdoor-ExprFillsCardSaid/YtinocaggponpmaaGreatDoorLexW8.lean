/-
  The contract of lex's tokens.
-/
import Derived.Test.YtinocaggponpmaaGreatDoorLexW7
import Derived.OwnWalk
import Derived.WalkSmall
import Derived.Lib.OthersKept
import Derived.Laws.OwnMore
namespace Go.Proofs.YtinocaggponpmaaGreatDoor.Lx
open Go.RowKit

def tokC (t : Tok) : List Value := [.int .i64 t.kind, .string ⟨t.text.toArray⟩, .int .i64 t.n, .int .i64 t.at_]
def toksC (l : List Tok) : List Value := l.flatMap tokC
theorem toksC_append (a b : List Tok) : toksC (a ++ b) = toksC a ++ toksC b := by simp [toksC]
theorem toksC_one (t : Tok) : toksC [t] = tokC t := by simp [toksC]

/-- What a call that hands tokens back leaves. -/
def TokPost (x : List Tok × Int × Int) (w : World) (e : Ending) (w' : World) : Prop :=
  ∃ v, e = .returned (.tuple #[v, .int .i64 x.2.1, .int .i64 x.2.2]) ∧ w'.ownsRow w.heap.size 52 4 v x.1.length (toksC x.1) ∧ Below w.heap.size w w'

theorem ownsRow_below {w w' : World} {base : Nat} {e : TypeId} {size : Nat} {v : Value} {n : Nat} {xs : List Value} (h : w.ownsRow base e size v n xs) (hb : Below w.heap.size w w') : w'.ownsRow base e size v n xs := by
  refine ⟨h.1, ?_⟩
  rcases h.2 with hn | ⟨g, cap, cur, hv, hbs, hg, rest⟩
  · exact .inl hn
  · exact .inr ⟨g, cap, cur, hv, hbs, (hb.block g (Array.getElem?_eq_some_iff.1 hg).1).trans hg, rest⟩
theorem ownsRow_less {w : World} {base base' : Nat} {e : TypeId} {size : Nat} {v : Value} {n : Nat} {xs : List Value} (h : w.ownsRow base e size v n xs) (hb : base' ≤ base) : w.ownsRow base' e size v n xs := by
  refine ⟨h.1, ?_⟩
  rcases h.2 with hn | ⟨g, cap, cur, hv, hbs, rest⟩
  · exact .inl hn
  · exact .inr ⟨g, cap, cur, hv, Nat.le_trans hb hbs, rest⟩
theorem ownsRow_slice {w : World} {base : Nat} {e : TypeId} {size : Nat} {v : Value} {n : Nat} {xs : List Value} (h : w.ownsRow base e size v n xs) : ∃ A c, v = .slice A n c := by
  rcases h.2 with ⟨rfl, rfl⟩ | ⟨g, cap, cur, rfl, _⟩
  · exact ⟨_, _, rfl⟩
  · exact ⟨_, _, rfl⟩

theorem new_cells (w : World) (o : Obj) (t : TypeId) (l : List Value) (j : Nat) (u : Value) (h : l[j]? = some u) :
    ((w.alloc o).alloc (.cells l.toArray t)).cell? ((⟨w.heap.size + 1, 0, none⟩ : Addr).add j) = some u := by
  have hb := (Box.new (w.alloc o) t l.toArray).cell j
  have hadd : (⟨w.heap.size + 1, 0, none⟩ : Addr).add j = ⟨(w.alloc o).heap.size, j, none⟩ := by
    unfold Addr.add
    split <;> simp_all
  rw [hadd, hb]
  simpa using h
theorem new_cells0 (w : World) (t : TypeId) (l : List Value) (j : Nat) (u : Value) (h : l[j]? = some u) :
    (w.alloc (.cells l.toArray t)).cell? ((⟨w.heap.size, 0, none⟩ : Addr).add j) = some u := by
  have hb := (Box.new w t l.toArray).cell j
  have hadd : (⟨w.heap.size, 0, none⟩ : Addr).add j = ⟨w.heap.size, j, none⟩ := by
    unfold Addr.add
    split <;> simp_all
  rw [hadd, hb]
  simpa using h
theorem tokC_one (t : Tok) : ∀ u ∈ tokC t, u.oneCell' = true := by
  intro u hu
  simp only [tokC, List.mem_cons, List.not_mem_nil, or_false] at hu
  rcases hu with rfl | rfl | rfl | rfl <;> rfl

/-- What holds at the head of each round. -/
def TokRel (s : ByteArray) (w : World) (v a nx : Value) (wr : World) : Prop :=
  ∃ (pos at_ next : Nat) (acc : List Tok) (A : Option Addr) (cap : Nat), v = .slice A acc.length cap ∧ a = .int .i64 at_ ∧ nx = .int .i64 next ∧
    wr.heap[w.heap.size]? = some (.stringIter s pos) ∧ Below w.heap.size w wr ∧ wr.ownsRow (w.heap.size + 1) 52 4 v acc.length (toksC acc) ∧
    pos ≤ s.size ∧ at_ ≤ pos ∧ next ≤ 40000 ∧ acc.length ≤ 2000 ∧ tokGo (Lx.at_ s pos) pos at_ next acc = tokensL s.data.toList

theorem info_tok : (Tryz.prog.info? 52).map (fun i => (i.zero, i.size, i.bytes)) = some (some (.agg #[.int .i64 0, .string ⟨#[]⟩, .int .i64 0, .int .i64 0]), 4, 40) := by kernel_rfl
theorem remarkGo_le (cs : List (Nat × List UInt8)) : ∀ i, remarkGo i cs ≤ i + (flat cs).length := by
  induction cs with
  | nil => intro i; simp [remarkGo]
  | cons c cs ih =>
    intro i
    unfold remarkGo
    have : (flat (c :: cs)).length = c.2.length + (flat cs).length := by simp [flat]
    split
    · omega
    · have := ih (i + c.2.length); omega
theorem textGo_le (cs : List (Nat × List UInt8)) : ∀ n i, (textGo n i cs).2 ≤ i + (flat cs).length := by
  induction cs with
  | nil => intro n i; simp [textGo]
  | cons c cs ih =>
    intro n i
    unfold textGo
    have : (flat (c :: cs)).length = c.2.length + (flat cs).length := by simp [flat]
    split
    · split <;> simp
    · split
      · simp
      · have := ih (n + 1) (i + c.2.length); omega
theorem wordL_le (l : List UInt8) : (wordL l).length ≤ l.length := by
  rw [wordL_take, List.length_take]; exact Nat.min_le_right _ _
theorem tokenT_le (c : Int) (l : List UInt8) (h : 1 ≤ l.length) : (tokenT c l).2.1 ≤ l.length + 1 := by
  have hw := wordL_le l
  unfold tokenT
  split
  · unfold nameT; split <;> simp; omega
  · split
    · unfold numberT; split <;> simp; omega
    · split
      · unfold textT
        have hne : l ≠ [] := by intro e; subst e; simp at h
        have h1 := textGo_le (rn (l.drop (dec l).2)) 0 (dec l).2
        have h2 := dec_width l hne
        rw [flat_rn, List.length_drop] at h1
        simp only
        split
        · simp only; omega
        · simp
      · split
        · unfold signT; simp only; split <;> omega
        · simp
theorem drop_flat (s : ByteArray) (pos : Nat) : flat (Lx.at_ s pos) = s.data.toList.drop pos := flat_rn _
theorem ret_tok {v : Value} {a b c d : Int} (h1 : a = b) (h2 : c = d) : Ending.returned (.tuple #[v, .int .i64 a, .int .i64 c]) = .returned (.tuple #[v, .int .i64 b, .int .i64 d]) := by rw [h1, h2]

set_option maxRecDepth 100000 in
set_option maxHeartbeats 8000000 in
theorem tokens_any (s : ByteArray) (w : World) (hs : s.size ≤ 20000) :
    Calls Tryz.prog 40 #[.string s] w (TokPost (tokensL s.data.toList) w) := by
  go_enter Tryz.func40, Tryz.ntmps40
  go_wp2
  go_loopw [5, 6, 7] (TokRel s w) (fun _ _ _ wr => s.size - wr.iterPos w.heap.size)
  case atStart =>
    exact ⟨0, 0, 0, [], none, 0, rfl, rfl, rfl, World.iter_heap w s 0, (Below.refl _ _).alloc (Nat.le_refl _) _, World.ownsRow_nil _ _ _ _, by omega, by omega, by omega, by simp, rfl⟩
  case round =>
    obtain ⟨pos, a, next, acc, A, cap, rfl, rfl, rfl, hit, hbw, hown, hpl, ha, hnx, hacc, hgo⟩ := hrel
    have HG := Lib.hid hgo
    clear hgo
    have hsz : w.heap.size < wr.heap.size := (Array.getElem?_eq_some_iff.1 hit).1
    by_cases hp : pos < s.size
    · have hnx : ∀ ty, (Instr.next (.pointer (some ⟨w.heap.size, 0, none⟩)) true ty).run Tryz.prog wr = _ := fun ty => Lib.run_next_any_at wr w.heap.size s pos ty hit hp
      have hwd := width_le s pos hp
      have hle := decode_le s pos
      have HN := Lib.hid (at_next s pos hp)
      have HT := Lib.hid (take_len s pos hp)
      generalize hd : Utf8.decode s pos = d at *
      have Hd := Lib.hid hd; clear hd
      obtain ⟨r, wd⟩ := d
      have hit2 := Lib.iterAt_heap wr w.heap.size s pos (pos + wd) hit
      have hbw2 := Lib.below_iterAt hbw (k := w.heap.size) (Nat.le_refl _) s (pos + wd)
      have hown2 := ownsRow_iterAt hown (k := w.heap.size) (by omega) s (pos + wd)
      by_cases hA : pos < next
      · have HX : Hid (tokGo (Lx.at_ s (pos + wd)) (pos + wd) (a + 1) next acc = tokensL s.data.toList) := by
          unfold Hid; rw [← HG.out, HN.out]; simp only [tokGo]; rw [if_pos (Or.inl hA), HT.out]
        go_wp2_with (go_at_call 64; refine (class_any _ _).mono ?_; rintro e w' ⟨rfl, rfl⟩)
        go_roundw
        case rel => exact ⟨pos + wd, a + 1, next, acc, A, cap, rfl, by go_num, rfl, hit2, hbw2, hown2, by omega, by omega, by omega, hacc, HX.out⟩
        case measure => simp only [World.iterPos, hit2, hit]; omega
      · by_cases hB : clsI (r : Int) = 1
        · have HX : Hid (tokGo (Lx.at_ s (pos + wd)) (pos + wd) (a + 1) next acc = tokensL s.data.toList) := by
            unfold Hid; rw [← HG.out, HN.out]; simp only [tokGo]; rw [if_pos (Or.inr hB), HT.out]
          have b1 : (clsI (r : Int) == 1) = true := by simp [hB]
          have hA' : next ≤ pos := by omega
          clear hB hA
          go_wp2_with (go_at_call 64; refine (class_any _ _).mono ?_; rintro e w' ⟨rfl, rfl⟩)
          go_roundw
          case rel => exact ⟨pos + wd, a + 1, next, acc, A, cap, rfl, by go_num, rfl, hit2, hbw2, hown2, by omega, by omega, by omega, hacc, HX.out⟩
          case measure => simp only [World.iterPos, hit2, hit]; omega
        · have hAB : ¬ (pos < next ∨ clsI (r : Int) = 1) := fun h => h.elim hA hB
          have HAB := Lib.hid hAB
          have b1 : (clsI (r : Int) == 1) = false := by simp [hB]
          have hA' : next ≤ pos := by omega
          clear hB hA hAB
          have HF : Hid (flat ((r, (s.data.toList.drop pos).take wd) :: Lx.at_ s (pos + wd)) = (s.extract pos s.size).data.toList) := by
            unfold Hid; rw [← HN.out, drop_flat, extract_from]
          have hfl : (s.extract pos s.size).size = s.size - pos := by
            rw [extract_from]
            show (s.data.toList.drop pos).toArray.size = _
            rw [List.size_toArray, List.length_drop, Array.length_toList]; rfl
          have hf1 : 1 ≤ (s.extract pos s.size).size := by omega
          have hf2 : (s.extract pos s.size).size ≤ 20000 := by omega
          have hll : (s.extract pos s.size).data.toList.length = (s.extract pos s.size).size := Array.length_toList
          clear hfl
          by_cases hC : clsI (r : Int) = 6
          · have b6 : (clsI (r : Int) == 6) = true := by simp [hC]
            have hrm := remarkGo_le (rn (s.extract pos s.size).data.toList) 0
            rw [flat_rn, hll] at hrm
            have hrm' : remarkL (s.extract pos s.size).data.toList ≤ 20000 := by
              show remarkGo 0 (rn (s.extract pos s.size).data.toList) ≤ 20000
              omega
            have HX : Hid (tokGo (Lx.at_ s (pos + wd)) (pos + wd) (a + 1) (pos + remarkL (s.extract pos s.size).data.toList) acc = tokensL s.data.toList) := by
              unfold Hid; rw [← HG.out, HN.out]; simp only [tokGo]; rw [if_neg HAB.out, if_pos hC, HT.out, HF.out]
            clear hC hrm hll
            go_wp2_with (go_at_call 64; refine (class_any _ _).mono ?_; rintro e w' ⟨rfl, rfl⟩)
            refine (remark_any _ _ hf2).mono ?_
            rintro e w1 ⟨rfl, hb1⟩
            have hsz1 : w.heap.size < (wr.iterAt w.heap.size s (pos + wd)).heap.size := by rw [Lib.iterAt_size]; exact hsz
            have hit3 := (hb1.block _ hsz1).trans hit2
            have hbw3 := hbw2.trans (hb1.mono (Nat.le_of_lt hsz1))
            have hown3 := ownsRow_below hown2 hb1
            generalize remarkL (s.extract pos s.size).data.toList = q at *
            clear hb1
            go_wp2_with fail
            go_roundw
            case rel => exact ⟨pos + wd, a + 1, pos + q, acc, A, cap, rfl, by go_num, by go_num, hit3, hbw3, hown3, by omega, by omega, by omega, hacc, HX.out⟩
            case measure => simp only [World.iterPos, hit3, hit]; omega
          · have b6 : (clsI (r : Int) == 6) = false := by simp [hC]
            by_cases hD : acc.length = 2000
            · have HX : Hid (tokensL s.data.toList = ([], 2, (a : Int))) := by
                unfold Hid; rw [← HG.out, HN.out]; simp only [tokGo]; rw [if_neg HAB.out, if_neg hC, if_pos hD]
              have bD : ((acc.length : Int) == 2000) = true := by simp [hD]
              clear hD hC hll
              generalize acc.length = n at *
              go_wp2_with (go_at_call 64; refine (class_any _ _).mono ?_; rintro e w' ⟨rfl, rfl⟩)
              go_ret3
              exact ⟨.slice none 0 0, by rw [HX.out]; rfl, by rw [HX.out]; exact World.ownsRow_nil _ _ _ _, hbw2⟩
            · have bD : ((acc.length : Int) == 2000) = false := by simp; omega
              have hacc' : acc.length ≤ 1999 := by omega
              obtain ⟨inf, hinf, hz0, hz1, hz2⟩ := info_parts info_tok
              have htl := tokenT_le (clsI (r : Int)) (s.extract pos s.size).data.toList (by rw [hll]; exact hf1)
              rw [hll] at htl
              have HY : Hid (tokensL s.data.toList = if (tokenT (clsI (r : Int)) (s.extract pos s.size).data.toList).2.2 ≠ 0 then ([], (tokenT (clsI (r : Int)) (s.extract pos s.size).data.toList).2.2, (a : Int))
                  else tokGo (Lx.at_ s (pos + wd)) (pos + wd) (a + 1) (pos + (tokenT (clsI (r : Int)) (s.extract pos s.size).data.toList).2.1) (acc ++ [{ (tokenT (clsI (r : Int)) (s.extract pos s.size).data.toList).1 with at_ := a }])) := by
                unfold Hid; rw [← HG.out, HN.out]; simp only [tokGo]; rw [if_neg HAB.out, if_neg hC, if_neg hD, HT.out, HF.out]
              clear hD hC hll
              go_wp2_with (go_at_call 64; refine (class_any _ _).mono ?_; rintro e w' ⟨rfl, rfl⟩)
              refine (token_any _ _ _ hf1 hf2).mono ?_
              rintro e w1 ⟨rfl, hb1⟩
              have hsz1 : w.heap.size < (wr.iterAt w.heap.size s (pos + wd)).heap.size := by rw [Lib.iterAt_size]; exact hsz
              have hit3 := (hb1.block _ hsz1).trans hit2
              have hbw3 := hbw2.trans (hb1.mono (Nat.le_of_lt hsz1))
              have hown3 := ownsRow_below hown2 hb1
              have hsz3 : w.heap.size < w1.heap.size := (Array.getElem?_eq_some_iff.1 hit3).1
              generalize hw : tokenT (clsI (r : Int)) (s.extract pos s.size).data.toList = x at *
              have HW := Lib.hid hw
              clear hw hb1 HF HG
              obtain ⟨⟨k, t, n, a0⟩, z, e⟩ := x
              simp only [tokE, tokV] at *
              by_cases he : e = 0
              · subst he
                have HX : Hid (tokGo (Lx.at_ s (pos + wd)) (pos + wd) (a + 1) (pos + z) (acc ++ [⟨k, t, n, a⟩]) = tokensL s.data.toList) := by
                  unfold Hid; rw [HY.out]; simp
                clear HY
                go_wp2_with (at_builtin; refine wpList_append_own _ rfl _ _ 47 rfl (w.heap.size + 1) 52 inf (.agg #[.int .i64 0, .string ⟨#[]⟩, .int .i64 0, .int .i64 0]) 4 40 Tryz.underlying47 hinf hz0 hz1 hz2 rfl (by decide) _ _ _ rfl ((hown3.alloc _).alloc _) ⟨w1.heap.size + 1, 0, none⟩ 1 1 (tokC ⟨k, t, n, a⟩) rfl rfl ?c1 ?c2 ?c3 ?c4 ?c5 ?_)
                case c1 => exact new_cells w1 _ _ (tokC ⟨k, t, n, a⟩)
                case c2 => exact tokC_one _
                case c3 => unfold maxLen; omega
                case c4 => omega
                case c5 => simp; omega
                intro v' w4 hown4 hgr _
                have hne : some w.heap.size ≠ (Value.slice A acc.length cap).ownBlock := by
                  intro h
                  have := (hown3.lt _ h.symm).1
                  omega
                have hit4 : w4.heap[w.heap.size]? = some (.stringIter s (pos + wd)) := by
                  rw [hgr.block _ (by simp; omega) hne]
                  rw [Below.heap_alloc _ _ _ (by simp; omega), Below.heap_alloc _ _ _ (by omega)]
                  exact hit3
                have hbw4 : Below w.heap.size w w4 :=
                  ((hbw3.alloc (Nat.le_of_lt hsz3) _).alloc (by simp; omega) _).grown hgr (by simp; omega) (fun g hg => by have := (hown3.lt _ hg).1; omega)
                obtain ⟨A', cap', rfl⟩ := ownsRow_slice hown4
                have hlen : (acc ++ [(⟨k, t, n, a⟩ : Tok)]).length = acc.length + 1 := by simp
                have hown5 : w4.ownsRow (w.heap.size + 1) 52 4 (.slice A' (acc.length + 1) cap') (acc ++ [(⟨k, t, n, a⟩ : Tok)]).length (toksC (acc ++ [⟨k, t, n, a⟩])) := by
                  rw [hlen, toksC_append, toksC_one]; exact hown4
                have HL := Lib.hid hlen
                clear hlen hown4 hown3 hown2 hown hgr hit3 hit2 hne
                go_wp2_with fail
                go_roundw
                case rel => exact ⟨pos + wd, a + 1, pos + z, acc ++ [⟨k, t, n, a⟩], A', cap', by rw [HL.out], by go_num, by go_num, hit4, hbw4, hown5, by omega, by omega, by omega, by rw [HL.out]; omega, HX.out⟩
                case measure => simp only [World.iterPos, hit4, hit]; omega
              · have HX : Hid (tokensL s.data.toList = ([], e, (a : Int))) := by
                  unfold Hid; rw [HY.out]; simp [he]
                have bE : (e != 0) = true := by simp [he]
                clear HY he
                go_wp2_with fail
                go_ret3
                exact ⟨.slice none 0 0, by rw [HX.out]; rfl, by rw [HX.out]; exact World.ownsRow_nil _ _ _ _, hbw3.alloc (Nat.le_of_lt hsz3) _⟩
    · have hnx : ∀ ty, (Instr.next (.pointer (some ⟨w.heap.size, 0, none⟩)) true ty).run Tryz.prog wr = _ := fun ty => Lib.run_next_end_at wr w.heap.size s pos ty hit hp
      obtain ⟨inf, hinf, hz0, hz1, hz2⟩ := info_parts info_tok
      have HX : Hid (tokensL s.data.toList = (acc ++ [⟨0, [], 0, a⟩], 0, 0)) := by
        unfold Hid; rw [← HG.out, at_end s pos hp]; rfl
      clear HG
      go_wp2_with (at_builtin; refine wpList_append_own _ rfl _ _ 47 rfl (w.heap.size + 1) 52 inf (.agg #[.int .i64 0, .string ⟨#[]⟩, .int .i64 0, .int .i64 0]) 4 40 Tryz.underlying47 hinf hz0 hz1 hz2 rfl (by decide) _ _ _ rfl (hown.alloc _) ⟨wr.heap.size, 0, none⟩ 1 1 (tokC ⟨0, [], 0, a⟩) rfl rfl ?d1 ?d2 ?d3 ?d4 ?d5 ?_)
      case d1 => exact new_cells0 wr _ (tokC ⟨0, [], 0, a⟩)
      case d2 => exact tokC_one _
      case d3 => unfold maxLen; omega
      case d4 => omega
      case d5 => simp; omega
      intro v' w4 hown4 hgr _
      have hbw4 : Below w.heap.size w w4 :=
        (hbw.alloc (Nat.le_of_lt hsz) _).grown hgr (by simp; omega) (fun g hg => by have := (hown.lt _ hg).1; omega)
      have hown5 : w4.ownsRow w.heap.size 52 4 v' (acc ++ [(⟨0, [], 0, a⟩ : Tok)]).length (toksC (acc ++ [⟨0, [], 0, a⟩])) := by
        rw [toksC_append, toksC_one, List.length_append]; exact ownsRow_less hown4 (by omega)
      have HO := Lib.hid hown5
      clear hown4 hown hgr hown5
      go_wp2_with fail
      go_ret3
      exact ⟨v', by rw [HX.out]; rfl, by rw [HX.out]; exact HO.out, hbw4⟩
end Go.Proofs.YtinocaggponpmaaGreatDoor.Lx
