/-
  Plain words of layer 6: records, slots, a page's bytes, what the lengths in bytes make of them.
-/
import Derived.Test.YthgoapcafjijfaaProg
import GoSem.Op.String
namespace Go.Proofs.Ythgoapcafjijfaa.Pg

abbrev Rec := ByteArray × List UInt8
def less (a b : ByteArray) : Bool := Op.bytesLess a.toList b.toList
def szP (p : Rec) : Nat := 2 + p.1.size + p.2.length
def recP (p : Rec) : Prop := 1 ≤ p.1.size ∧ p.1.size ≤ 20 ∧ szP p ≤ 128
instance (p : Rec) : Decidable (recP p) := inferInstanceAs (Decidable (_ ∧ _))
def slotsP (p : Rec) : Nat := if recP p then (szP p + 31) / 32 else 0
theorem slots_yes {p : Rec} (h : recP p) : slotsP p = (szP p + 31) / 32 := if_pos h
theorem slots_no {p : Rec} (h : ¬ recP p) : slotsP p = 0 := if_neg h
theorem slots_pos {p : Rec} (h : recP p) : 1 ≤ slotsP p := by
  rw [slots_yes h]
  unfold szP
  omega
theorem slots_four (p : Rec) : slotsP p ≤ 4 := by
  unfold slotsP
  split
  · next h =>
    have := h.2.2
    omega
  · omega
theorem slots_size {p : Rec} (h : recP p) : szP p ≤ 32 * slotsP p := by
  rw [slots_yes h]
  omega
def sumP : List Rec → Nat
  | [] => 0
  | p :: r => slotsP p + sumP r
theorem sum_append : ∀ (a b : List Rec), sumP (a ++ b) = sumP a + sumP b
  | [], b => by simp [sumP]
  | p :: r, b => by
    show slotsP p + sumP (r ++ b) = slotsP p + sumP r + sumP b
    rw [sum_append r b]
    omega
theorem sum_le : ∀ (a : List Rec), sumP a ≤ 4 * a.length
  | [] => by simp [sumP]
  | p :: r => by
    have := slots_four p
    have := sum_le r
    show slotsP p + sumP r ≤ 4 * (r.length + 1)
    omega
def allP (l : List Rec) : Prop := ∀ p ∈ l, recP p
instance (l : List Rec) : Decidable (allP l) := inferInstanceAs (Decidable (∀ _ ∈ _, _))
def incP : List Rec → Prop
  | [] => True
  | [_] => True
  | p :: q :: r => less p.1 q.1 = true ∧ incP (q :: r)
instance incD : (l : List Rec) → Decidable (incP l)
  | [] => .isTrue trivial
  | [_] => .isTrue trivial
  | _p :: q :: r => @instDecidableAnd _ _ (inferInstanceAs (Decidable (_ = _))) (incD (q :: r))
theorem inc_at : ∀ {l : List Rec}, incP l → ∀ {i : Nat} (h : i + 1 < l.length), less l[i].1 l[i + 1].1 = true
  | p :: q :: r, h, 0, _ => h.1
  | p :: q :: r, h, i + 1, hi => inc_at (l := q :: r) h.2 (by simpa using hi)
theorem inc_of : ∀ {l : List Rec}, (∀ i (h : i + 1 < l.length), less l[i].1 l[i + 1].1 = true) → incP l
  | [], _ => trivial
  | [_], _ => trivial
  | p :: q :: r, h => ⟨h 0 (by simp), inc_of (l := q :: r) fun i hi => h (i + 1) (by simpa using hi)⟩
def freeP (l : List Rec) : Nat := if allP l then 7 - sumP l else 0
def encR (p : Rec) : List UInt8 := UInt8.ofNat p.1.size :: UInt8.ofNat p.2.length :: (p.1.data.toList ++ p.2)
def encP : List Rec → List UInt8
  | [] => []
  | p :: r => encR p ++ encP r
theorem enc_append : ∀ (a b : List Rec), encP (a ++ b) = encP a ++ encP b
  | [], _ => rfl
  | p :: r, b => by
    show encR p ++ encP (r ++ b) = encR p ++ encP r ++ encP b
    rw [enc_append r b, List.append_assoc]
theorem encR_len (p : Rec) : (encR p).length = szP p := by
  have : p.1.data.toList.length = p.1.size := by simp
  simp only [encR, szP, List.length_cons, List.length_append, this]
  omega
theorem enc_len : ∀ {l : List Rec}, allP l → (encP l).length ≤ 32 * sumP l
  | [], _ => by simp [encP]
  | p :: r, h => by
    show (encR p ++ encP r).length ≤ 32 * (slotsP p + sumP r)
    rw [List.length_append, encR_len]
    have h1 := slots_size (h p (by simp))
    have h2 := enc_len (l := r) fun q hq => h q (by simp [hq])
    omega
theorem count_le : ∀ {l : List Rec}, allP l → l.length ≤ sumP l
  | [], _ => by simp
  | p :: r, h => by
    show r.length + 1 ≤ slotsP p + sumP r
    have h1 := slots_pos (h p (by simp))
    have h2 := count_le (l := r) fun q hq => h q (by simp [hq])
    omega
/-- Bytes, and noughts behind them. -/
def padB (P : List UInt8) : List UInt8 := P ++ List.replicate (256 - P.length) 0
theorem pad_len {P : List UInt8} (h : P.length ≤ 256) : (padB P).length = 256 := by simp [padB]; omega
theorem pad_set {P : List UInt8} (h : P.length < 256) (x : UInt8) : (padB P).set P.length x = padB (P ++ [x]) := by
  unfold padB
  rw [List.set_append_right _ _ (Nat.le_refl _), Nat.sub_self]
  obtain ⟨m, hm⟩ : ∃ m, 256 - P.length = m + 1 := ⟨255 - P.length, by omega⟩
  rw [hm, List.replicate_succ, List.set_cons_zero, List.length_append, List.length_singleton, show 256 - (P.length + 1) = m by omega, List.append_assoc]
  rfl
theorem pad_splice {P s : List UInt8} (h : P.length + s.length ≤ 256) : (padB P).take P.length ++ (s ++ (padB P).drop (P.length + s.length)) = padB (P ++ s) := by
  unfold padB
  rw [List.take_left, List.drop_append, List.drop_eq_nil_of_le (by omega), List.nil_append, List.drop_replicate, List.length_append, List.append_assoc, show 256 - P.length - (P.length + s.length - P.length) = 256 - (P.length + s.length) by omega]
/-- What a page's bytes are so far. -/
def headP (l : List Rec) (k : Nat) : List UInt8 := UInt8.ofNat l.length :: encP (l.take k)
def layB (l : List Rec) : List UInt8 := padB (UInt8.ofNat l.length :: encP l)
def layE (l : List Rec) : Int := if allP l ∧ incP l then (if 7 < sumP l then 3 else 0) else 1
def okP (l : List Rec) : Prop := allP l ∧ incP l ∧ sumP l ≤ 7
instance (l : List Rec) : Decidable (okP l) := inferInstanceAs (Decidable (_ ∧ _))
theorem layE_ok {l : List Rec} (h : okP l) : layE l = 0 := by
  unfold layE
  rw [if_pos ⟨h.1, h.2.1⟩, if_neg (by have := h.2.2; omega)]
theorem layE_arg {l : List Rec} (h : ¬ (allP l ∧ incP l)) : layE l = 1 := if_neg h
theorem layE_full {l : List Rec} (h : allP l ∧ incP l) (k : 7 < sumP l) : layE l = 3 := by
  unfold layE
  rw [if_pos h, if_pos k]
theorem layE_zero {l : List Rec} : layE l = 0 ↔ okP l := by
  constructor
  · intro h
    unfold layE at h
    split at h
    · next h1 =>
      split at h
      · cases h
      · exact ⟨h1.1, h1.2, by omega⟩
    · cases h
  · exact layE_ok
theorem head_len {l : List Rec} (h : okP l) (k : Nat) : (headP l k).length ≤ 225 := by
  have h1 := enc_len (l := l.take k) fun p hp => h.1 p (List.mem_of_mem_take hp)
  have h2 : sumP (l.take k) ≤ sumP l := by
    have := sum_append (l.take k) (l.drop k)
    rw [List.take_append_drop] at this
    omega
  have := h.2.2
  simp only [headP, List.length_cons]
  omega
theorem lay_len {l : List Rec} (h : okP l) : (layB l).length = 256 := by
  have := head_len h l.length
  simp only [headP, List.take_length, List.length_cons] at this
  exact pad_len (by simp; omega)
theorem head_succ {l : List Rec} {k : Nat} (h : k < l.length) : headP l (k + 1) = headP l k ++ encR l[k] := by
  unfold headP
  rw [List.take_succ_eq_append_getElem h, enc_append]
  simp [encP]
/-- What the lengths in the bytes make of them. -/
def gb (b : List UInt8) (i : Nat) : Nat := (b.getD i 0).toNat
theorem gb_lt (b : List UInt8) (i : Nat) : gb b i < 256 := (b.getD i 0).toNat_lt
def cutB (b : List UInt8) (i j : Nat) : List UInt8 := (b.drop i).take (j - i)
theorem cut_len {b : List UInt8} {i j : Nat} (h : i ≤ j) (k : j ≤ b.length) : (cutB b i j).length = j - i := by simp [cutB]; omega
def recA (b : List UInt8) (at_ : Nat) : Rec := (⟨(cutB b (at_ + 2) (at_ + 2 + gb b at_)).toArray⟩, cutB b (at_ + 2 + gb b at_) (at_ + 2 + gb b at_ + gb b (at_ + 1)))
def endA (b : List UInt8) (at_ : Nat) : Nat := at_ + 2 + gb b at_ + gb b (at_ + 1)
def divP (b : List UInt8) : Nat → Nat → Option (List Rec)
  | 0, _ => some []
  | n + 1, at_ => if b.length < at_ + 2 then none else if b.length < endA b at_ then none else (divP b n (endA b at_)).map (recA b at_ :: ·)
theorem div_short {b : List UInt8} {n at_ : Nat} (h : b.length < at_ + 2) : divP b (n + 1) at_ = none := if_pos h
theorem div_long {b : List UInt8} {n at_ : Nat} (h : ¬ b.length < at_ + 2) (k : b.length < endA b at_) : divP b (n + 1) at_ = none := by rw [divP, if_neg h, if_pos k]
theorem div_step {b : List UInt8} {n at_ : Nat} (h : ¬ b.length < at_ + 2) (k : ¬ b.length < endA b at_) : divP b (n + 1) at_ = (divP b n (endA b at_)).map (recA b at_ :: ·) := by rw [divP, if_neg h, if_neg k]
def readP (b : List UInt8) : Option (List Rec) :=
  if b.length = 256 then (divP b (gb b 0) 1).filter fun l => decide (okP l ∧ layB l = b) else none
theorem read_some {b : List UInt8} {l : List Rec} (h : readP b = some l) : b.length = 256 ∧ divP b (gb b 0) 1 = some l ∧ okP l ∧ layB l = b := by
  unfold readP at h
  split at h
  · next hb =>
    obtain ⟨h1, h2⟩ := Option.filter_eq_some_iff.1 h
    exact ⟨hb, h1, (of_decide_eq_true h2)⟩
  · cases h
theorem read_of {b : List UInt8} {l : List Rec} (hb : b.length = 256) (h : divP b (gb b 0) 1 = some l) (ho : okP l) (hl : layB l = b) : readP b = some l := by
  unfold readP
  rw [if_pos hb, h]
  exact Option.filter_eq_some_iff.2 ⟨rfl, decide_eq_true ⟨ho, hl⟩⟩
theorem read_len {b : List UInt8} (hb : b.length ≠ 256) : readP b = none := if_neg hb
theorem read_div {b : List UInt8} (h : divP b (gb b 0) 1 = none) : readP b = none := by
  unfold readP
  split
  · rw [h]
    rfl
  · rfl
theorem read_not {b : List UInt8} {l : List Rec} (h : divP b (gb b 0) 1 = some l) (k : ¬ (okP l ∧ layB l = b)) : readP b = none := by
  cases hr : readP b with
  | none => rfl
  | some m =>
    obtain ⟨_, h1, h2, h3⟩ := read_some hr
    rw [h] at h1
    injection h1 with h1
    subst h1
    exact absurd ⟨h2, h3⟩ k

/-- What was laid is what the lengths make of it. -/
theorem getD_mid (P : List UInt8) (x : UInt8) (r : List UInt8) : (P ++ x :: r).getD P.length 0 = x := by
  simp [List.getD_eq_getElem?_getD]
theorem cut_mid (P s r : List UInt8) : cutB (P ++ (s ++ r)) P.length (P.length + s.length) = s := by
  unfold cutB
  rw [List.drop_left, Nat.add_sub_cancel_left, List.take_left]
theorem div_enc : ∀ (l : List Rec) (P Z : List UInt8), allP l → divP (P ++ (encP l ++ Z)) l.length P.length = some l
  | [], _, _, _ => rfl
  | p :: r, P, Z, h => by
    have hp := h p (by simp)
    have hs : p.1.data.toList.length = p.1.size := by simp
    have hz := hp.2.2
    unfold szP at hz
    have n1 : (UInt8.ofNat p.1.size).toNat = p.1.size := by rw [UInt8.toNat_ofNat']; omega
    have n2 : (UInt8.ofNat p.2.length).toNat = p.2.length := by rw [UInt8.toNat_ofNat']; omega
    have e0 : P ++ (encP (p :: r) ++ Z) = P ++ UInt8.ofNat p.1.size :: (UInt8.ofNat p.2.length :: (p.1.data.toList ++ (p.2 ++ (encP r ++ Z)))) := by simp [encP, encR]
    have e1 : P ++ (encP (p :: r) ++ Z) = (P ++ [UInt8.ofNat p.1.size]) ++ UInt8.ofNat p.2.length :: (p.1.data.toList ++ (p.2 ++ (encP r ++ Z))) := by simp [encP, encR]
    have e2 : P ++ (encP (p :: r) ++ Z) = (P ++ [UInt8.ofNat p.1.size, UInt8.ofNat p.2.length]) ++ (p.1.data.toList ++ (p.2 ++ (encP r ++ Z))) := by simp [encP, encR]
    have e3 : P ++ (encP (p :: r) ++ Z) = (P ++ [UInt8.ofNat p.1.size, UInt8.ofNat p.2.length] ++ p.1.data.toList) ++ (p.2 ++ (encP r ++ Z)) := by simp [encP, encR]
    have e4 : P ++ (encP (p :: r) ++ Z) = (P ++ encR p) ++ (encP r ++ Z) := by simp [encP]
    have g0 : gb (P ++ (encP (p :: r) ++ Z)) P.length = p.1.size := by
      unfold gb
      rw [e0, getD_mid, n1]
    have g1 : gb (P ++ (encP (p :: r) ++ Z)) (P.length + 1) = p.2.length := by
      have : P.length + 1 = (P ++ [UInt8.ofNat p.1.size]).length := by simp
      unfold gb
      rw [e1, this, getD_mid, n2]
    have c1 : cutB (P ++ (encP (p :: r) ++ Z)) (P.length + 2) (P.length + 2 + p.1.size) = p.1.data.toList := by
      have : P.length + 2 = (P ++ [UInt8.ofNat p.1.size, UInt8.ofNat p.2.length]).length := by simp
      rw [e2, this, ← hs, cut_mid]
    have c2 : cutB (P ++ (encP (p :: r) ++ Z)) (P.length + 2 + p.1.size) (P.length + 2 + p.1.size + p.2.length) = p.2 := by
      have : P.length + 2 + p.1.size = (P ++ [UInt8.ofNat p.1.size, UInt8.ofNat p.2.length] ++ p.1.data.toList).length := by simp; omega
      rw [e3, this, cut_mid]
    have hr : recA (P ++ (encP (p :: r) ++ Z)) P.length = p := by
      unfold recA
      rw [g0, g1, c1, c2]
    have he : endA (P ++ (encP (p :: r) ++ Z)) P.length = (P ++ encR p).length := by
      unfold endA
      rw [g0, g1, List.length_append, encR_len]
      unfold szP
      omega
    have hl : (P ++ (encP (p :: r) ++ Z)).length = (P ++ encR p).length + (encP r ++ Z).length := by rw [e4, List.length_append]
    have h2 : (encR p).length = szP p := encR_len p
    show divP (P ++ (encP (p :: r) ++ Z)) (r.length + 1) P.length = _
    rw [div_step (by rw [hl, List.length_append, h2]; unfold szP; omega) (by rw [he, hl]; omega), hr, he, e4, div_enc r _ Z (fun q hq => h q (by simp [hq]))]
    rfl
theorem read_lay {l : List Rec} (h : okP l) : readP (layB l) = some l := by
  refine read_of (lay_len h) ?_ h rfl
  have hc := count_le h.1
  have h7 := h.2.2
  have e : layB l = [UInt8.ofNat l.length] ++ (encP l ++ List.replicate (256 - (UInt8.ofNat l.length :: encP l).length) 0) := by simp [layB, padB]
  have g : gb (layB l) 0 = l.length := by
    show (UInt8.ofNat l.length).toNat = l.length
    rw [UInt8.toNat_ofNat']
    omega
  rw [g, e]
  exact div_enc l [UInt8.ofNat l.length] _ h.1
end Go.Proofs.Ythgoapcafjijfaa.Pg
