/-
  Plainly: the text of a tree that may be is that tree.
-/
import Derived.Test.YtlbmojflinkfcaaDoorExPa
import Derived.Test.YtlbmojflinkfcaaDoorExP3
import Derived.Test.YtlbmojflinkfcaaDoorExP6
namespace Go.Proofs.YtlbmojflinkfcaaDoor.Ep
open Lx

/-- A text whose runes stand by themselves, and none is bad. -/
def Sound (l : List UInt8) : Prop := Lx.Good (rn l) ∧ ∀ r, rn (l ++ r) = rn l ++ rn r
theorem Sound.append {a b : List UInt8} (h : Sound a) (k : Sound b) : Sound (a ++ b) := by
  refine ⟨?_, fun r => ?_⟩
  · rw [h.2 b]
    intro c hc
    rcases List.mem_append.1 hc with hc | hc
    · exact h.1 c hc
    · exact k.1 c hc
  · rw [List.append_assoc, h.2, k.2, h.2 b, List.append_assoc]
theorem snd_word {l : List UInt8} (hw : ∀ c ∈ rn l, isW c = true) : Sound l := by
  refine ⟨fun c hc => isW_not_bad (hw c hc), fun r => ?_⟩
  have hfirm : ∀ x ∈ rn l, Firm x := fun x hx => firm_mem l x hx (isW_not_bad (hw x hx))
  conv => lhs; rw [← flat_rn l]
  exact rn_firm (rn l) hfirm r
theorem snd_ascii : ∀ (l : List UInt8), (∀ b ∈ l, b.toNat < 128) → Sound l
  | [], _ => ⟨fun c hc => by rw [show rn [] = [] from rfl] at hc; simp at hc, fun r => by rw [show rn [] = [] from rfl]; rfl⟩
  | b :: l, h => by
    have hb := h b (by simp)
    obtain ⟨h1, h2⟩ := snd_ascii l (fun x hx => h x (by simp [hx]))
    refine ⟨?_, fun r => ?_⟩
    · rw [rn_ascii b l hb]
      intro c hc
      rcases List.mem_cons.1 hc with rfl | hc
      · unfold badC
        rw [decide_eq_false (by simp only; omega)]
        rfl
      · exact h1 c hc
    · rw [List.cons_append, rn_ascii b _ hb, rn_ascii b l hb, h2]
      rfl
theorem opS_ascii (op : Int) (h : inT op = true) : ∀ b ∈ opS op, b.toNat < 128 := by
  have hb := (inT_iff _).1 h
  have : ∀ k : Fin 17, ∀ b ∈ opS (k.val : Int), b.toNat < 128 := by decide
  have := this ⟨op.toNat, by omega⟩
  simpa [Int.toNat_of_nonneg hb.1] using this
theorem snd_wrap {l : List UInt8} (h : Sound l) (b : Bool) : Sound (wrapT b l) := by
  cases b with
  | false => exact h
  | true => exact Sound.append (a := [40]) (b := l ++ [41]) (snd_ascii _ (by decide)) (h.append (snd_ascii [41] (by decide)))
theorem snd_text (t : Ex) : goodE t → Sound (textE t) := by
  induction t using Ex.ind with
  | h op n nm ks ih =>
    intro hg
    rw [goodE] at hg
    obtain ⟨hf, hn, hgl⟩ := hg
    have hin := (formed_true hf).1
    obtain ⟨hl2, hl1, hl0⟩ := op_lv op hin
    rcases opK_012 hin with hz | hz | hz
    · have hk := kids_0 hf hz
      subst hk
      obtain ⟨hop, _⟩ := hl0 hz
      rw [tx_0 _ _ _ _ hz]
      rcases hop with rfl | rfl
      · rw [if_pos rfl]
        have h0 : 0 ≤ n := by
          unfold formedB at hf
          simp only [Bool.and_eq_true] at hf
          have := hf.2
          simp at this
          exact this.1
        have hi : Lib.itoa n = Lib.decDigits n.toNat := by unfold Lib.itoa; rw [if_neg (by omega)]
        have hd : ∀ c ∈ rn (Lib.itoa n), digitI c.1 = true := by rw [hi]; exact rn_digs _ (digs_all _)
        exact snd_word fun c hc => by unfold isW; rw [hd c hc]; simp
      · rw [if_neg (by decide)]
        have hb : nameB nm = true := by
          unfold formedB at hf
          simp only [Bool.and_eq_true] at hf
          have := hf.2
          simp at this
          exact this.2
        exact snd_word (name_each (rn nm) 0 hb).1
    · obtain ⟨k, rfl⟩ := kids_1 hf hz
      rw [goodL] at hgl
      rw [tx_1 _ _ _ _ hz]
      exact (snd_ascii _ (opS_ascii op hin)).append (snd_wrap (ih k (by simp) hgl.1) _)
    · obtain ⟨k, l, rfl⟩ := kids_2 hf hz
      rw [goodL, goodL] at hgl
      rw [tx_2 _ _ _ _ _ hz]
      refine (snd_wrap (ih k (by simp) hgl.1) _).append (Sound.append (snd_ascii _ ?_) (snd_wrap (ih l (by simp) hgl.2.1) _))
      intro b hb
      rcases List.mem_cons.1 hb with rfl | hb
      · decide
      · rcases List.mem_append.1 hb with hb | hb
        · exact opS_ascii op hin b hb
        · simp at hb; subst hb; decide

theorem nt_len (t : Ex) : goodE t → (tkE t).length = ntE t := by
  induction t using Ex.ind with
  | h op n nm ks ih =>
    intro hg
    rw [goodE] at hg
    obtain ⟨hf, hn, hgl⟩ := hg
    have hin := (formed_true hf).1
    rcases opK_012 hin with hz | hz | hz
    · have hk := kids_0 hf hz
      subst hk
      rw [tk_0 _ _ _ _ hz, nt_0]
      rfl
    · obtain ⟨k, rfl⟩ := kids_1 hf hz
      rw [goodL] at hgl
      rw [tk_1 _ _ _ _ hz, nt_1, List.length_cons, wrapK_len, ih k (by simp) hgl.1]
      omega
    · obtain ⟨k, l, rfl⟩ := kids_2 hf hz
      rw [goodL, goodL] at hgl
      rw [tk_2 _ _ _ _ _ hz, nt_2, List.length_append, List.length_cons, wrapK_len, wrapK_len, ih k (by simp) hgl.1, ih l (by simp) hgl.2.1]
      omega
theorem nt_spare (t : Ex) : goodE t → ∀ m, 0 ≤ spareE t m → spareE t m = m - ntE t := by
  induction t using Ex.ind with
  | h op n nm ks ih =>
    intro hg m hs
    rw [goodE] at hg
    obtain ⟨hf, hn, hgl⟩ := hg
    obtain ⟨he, hm, -⟩ := spareE_eq op n nm ks m hs
    rw [he] at hs ⊢
    have hin := (formed_true hf).1
    rcases opK_012 hin with hz | hz | hz
    · have hk := kids_0 hf hz
      subst hk
      rw [spareL_nil, nt_0]
      omega
    · obtain ⟨k, rfl⟩ := kids_1 hf hz
      rw [goodL] at hgl
      rw [spareL_cons, spareL_nil] at hs ⊢
      rw [ih k (by simp) hgl.1 _ hs, nt_1]
      split <;> omega
    · obtain ⟨k, l, rfl⟩ := kids_2 hf hz
      rw [goodL, goodL] at hgl
      rw [spareL_cons, spareL_cons, spareL_nil] at hs ⊢
      have h2 := ih l (by simp) hgl.2.1 _ hs
      have hs1 : 0 ≤ spareE k (if enclB op k.op 0 = true then m - 1 - 2 else m - 1) := by
        rcases Int.lt_or_le (spareE k (if enclB op k.op 0 = true then m - 1 - 2 else m - 1)) 0 with hneg | h
        · exfalso
          have : ntE l ≥ 1 := nt_pos l
          rw [h2] at hs
          split at hs <;> omega
        · exact h
      rw [h2, ih k (by simp) hgl.1 _ hs1, nt_2]
      split <;> split <;> omega

theorem likeN_of : ∀ {us vs : List Tok} (e : List Tok), Likes us vs → ∀ j, j < us.length → Lk (nextT ((us ++ e).drop j)) (nextT ((vs ++ e).drop j))
  | _ :: _, _ :: _, _, h, 0, _ => h.1
  | _ :: us, _ :: vs, e, h, j + 1, hj => likeN_of e h.2 j (by simpa using hj)

theorem mv_all : Mv 64 (orOf (unaryT 65)) (orOf (unaryT 65)) := by
  have h := orOf_mv (unary_cons (fun _ => True) 65) (unary_mv 65 64)
  rw [show 64 + 1 = 65 from rfl] at h
  exact h
theorem free_end (p : Int) : Free 0 [⟨0, [], 0, p⟩] := fun l _ _ => by
  have h := oper_end p [] (l : Int)
  exact h ▸ (by decide)

theorem parse_of {s : List UInt8} {ts : List Tok} {t : Ex} {b : Nat} {p : Int} (hc : cutL s = (ts, 0, 0)) (ht : takeT ts = .ok t b [⟨0, [], 0, p⟩]) : parseP s = (some t, 0, 0) := by
  unfold parseP
  rw [hc]
  simp only [ne_eq, not_true_eq_false, if_false]
  rw [ht]
  rfl

theorem moved {F : Nat → List Tok → Res} (hm : Mv 64 F F) {us vs : List Tok} (e : Tok) {t : Ex} (hk : Likes us vs) (hl : us.length ≤ 64) (h : F 64 (us ++ [e]) = .ok t (64 - us.length) [e]) : F 64 (vs ++ [e]) = .ok t (64 - us.length) [e] := by
  have hmv := hm 64 (us ++ [e]) t (64 - us.length) [e] h 64 (vs ++ [e]) (Nat.le_refl _)
  have e64 : 64 - (64 - us.length) = us.length := by omega
  have hvl : vs.length = us.length := Likes.length hk
  have d1 : (us ++ [e]).drop us.length = [e] := List.drop_left
  have d2 : (vs ++ [e]).drop us.length = [e] := by rw [← hvl]; exact List.drop_left
  rw [e64, d1, d2] at hmv
  have hres := hmv (fun j hj => likeN_of _ hk j hj) (fun _ => rfl)
  rw [if_pos hl] at hres
  exact hres

theorem take_moved {us vs : List Tok} (p : Int) {t : Ex} (hk : Likes us vs) (hl : us.length ≤ 64) (h : takeT (us ++ [⟨0, [], 0, p⟩]) = .ok t (64 - us.length) [⟨0, [], 0, p⟩]) : takeT (vs ++ [⟨0, [], 0, p⟩]) = .ok t (64 - us.length) [⟨0, [], 0, p⟩] := by
  unfold takeT at h ⊢
  exact moved mv_all _ hk hl h
/-- The text of a tree that may be is that tree. -/
theorem parse_text (t : Ex) (h : mayB t = true) (hn : numsE t) : parseP (textE t) = (some t, 0, 0) := by
  have hg := may_good h hn
  have hs : 0 ≤ spareE t 64 := by simpa [mayB] using h
  have hnt := nt_spare t hg 64 hs
  have hln := nt_len t hg
  have hlen := may_len h hn
  obtain ⟨vs, p, hk, hc⟩ := cut_text t hg (by omega) (snd_text t hg).1 (by omega)
  have htk : takeT (tkE t ++ [⟨0, [], 0, p⟩]) = .ok t (64 - (tkE t).length) [⟨0, [], 0, p⟩] := by
    rw [hln]
    exact take_tk t hg (by omega) _ (free_end p)
  exact parse_of hc (take_moved p hk (by omega) htk)
end Go.Proofs.YtlbmojflinkfcaaDoor.Ep
