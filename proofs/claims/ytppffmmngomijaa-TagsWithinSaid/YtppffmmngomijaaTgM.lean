/-
  Tags and images in plain words: where a name is found, what is wrong with a table, the nearest number within bounds, which images are right, and what is left when cells are told.
-/
import Derived.Test.YtppffmmngomijaaLexM
namespace Go.Proofs.Ytppffmmngomijaa.Tg

structure Tg where
  nm : ByteArray
  out : Bool
  lo : Int
  hi : Int
instance : Inhabited Tg := ⟨⟨⟨#[]⟩, false, 0, 0⟩⟩
def wide (n : Int) : Prop := -9223372036854775808 ≤ n ∧ n ≤ 9223372036854775807
def Tg.fits (t : Tg) : Prop := wide t.lo ∧ wide t.hi
abbrev Cl := ByteArray × Int
structure Im where
  v : List Int
  bad : List Bool

/-- The first place of a name behind `k` tags that lie before. -/
def findF (s : ByteArray) : List Tg → Nat → Option Nat
  | [], _ => none
  | t :: r, k => if t.nm = s then some k else findF s r (k + 1)
def findZ (l : List Tg) (s : ByteArray) : Option Nat := findF s l 0
def findI (l : List Tg) (s : ByteArray) : Int := match findZ l s with | some k => (k : Int) | none => -1

theorem findF_cons (s : ByteArray) (t : Tg) (r : List Tg) (k : Nat) : findF s (t :: r) k = if t.nm = s then some k else findF s r (k + 1) := rfl
theorem findF_at (s : ByteArray) : ∀ (l : List Tg) (k i : Nat), findF s l k = some i → k ≤ i ∧ ∃ h : i - k < l.length, l[i - k].nm = s
  | [], _, _ => by simp [findF]
  | t :: r, k, i => by
    unfold findF
    by_cases h : t.nm = s
    · rw [if_pos h]
      intro e
      injection e with e
      subst e
      exact ⟨Nat.le_refl _, by simp, by simpa using h⟩
    · rw [if_neg h]
      intro e
      obtain ⟨h1, h2, h3⟩ := findF_at s r (k + 1) i e
      refine ⟨by omega, by simp; omega, ?_⟩
      have hk : i - k = (i - (k + 1)) + 1 := by omega
      simp only [hk, List.getElem_cons_succ]
      exact h3
theorem findZ_at {l : List Tg} {s : ByteArray} {i : Nat} (h : findZ l s = some i) : ∃ hi : i < l.length, l[i].nm = s := by
  obtain ⟨_, h2, h3⟩ := findF_at s l 0 i h
  exact ⟨by simpa using h2, by simpa using h3⟩
theorem findF_none (s : ByteArray) : ∀ (l : List Tg) (k : Nat), findF s l k = none ↔ ∀ t ∈ l, t.nm ≠ s
  | [], _ => by simp [findF]
  | t :: r, k => by
    unfold findF
    by_cases h : t.nm = s
    · rw [if_pos h]; simp [h]
    · rw [if_neg h, findF_none s r (k + 1)]; simp [h]
theorem findF_drop (s : ByteArray) (l : List Tg) (k : Nat) (h : k < l.length) : findF s (l.drop k) k = if l[k].nm = s then some k else findF s (l.drop (k + 1)) (k + 1) := by
  rw [List.drop_eq_getElem_cons h]; rfl
theorem findF_take (s : ByteArray) : ∀ (l : List Tg) (k i : Nat), findF s l k = if findF s (l.take i) k = none then findF s (l.drop i) (k + min i l.length) else findF s (l.take i) k
  | [], k, i => by simp [findF]
  | t :: r, k, 0 => by simp [findF]
  | t :: r, k, i + 1 => by
    simp only [List.take_succ_cons, List.drop_succ_cons, List.length_cons, findF_cons]
    by_cases h : t.nm = s
    · simp [h]
    · rw [if_neg h, if_neg h, findF_take s r (k + 1) i]
      have e : k + 1 + min i r.length = k + min (i + 1) (r.length + 1) := by omega
      rw [e]

/-- What is nearest to a number within bounds. -/
def nearZ (t : Tg) (n : Int) : Int := if n < t.lo then t.lo else if t.hi < n then t.hi else n
theorem near_eq (t : Tg) (n : Int) (h : t.lo ≤ t.hi) : max t.lo (min t.hi n) = nearZ t n := by
  unfold nearZ; split
  · omega
  · split <;> omega
theorem near_wide {t : Tg} {n : Int} (ht : t.fits) (hn : wide n) : wide (nearZ t n) := by
  unfold nearZ; split
  · exact ht.1
  · split
    · exact ht.2
    · exact hn
theorem near_in (t : Tg) (n : Int) (h : t.lo ≤ t.hi) : t.lo ≤ nearZ t n ∧ nearZ t n ≤ t.hi := by
  unfold nearZ; split
  · omega
  · split <;> omega

def fairT (t : Tg) : Bool := Lx.nameB t.nm.data.toList && decide (t.lo ≤ t.hi)
/-- What is wrong with tags, of which the first `i` are looked at already. -/
def checkF (l : List Tg) : Nat → Nat → Int
  | 0, _ => 0
  | n + 1, i => if fairT (l.getD i default) = false then 1 else if findZ (l.take i) (l.getD i default).nm ≠ none then 5 else checkF l n (i + 1)
def checkT (l : List Tg) : Int := if 12 < l.length then 2 else checkF l l.length 0
theorem check_cases (l : List Tg) : checkT l = 0 ∨ checkT l = 1 ∨ checkT l = 2 ∨ checkT l = 5 := by
  have h : ∀ n i, checkF l n i = 0 ∨ checkF l n i = 1 ∨ checkF l n i = 5 := by
    intro n
    induction n with
    | zero => intro i; exact .inl rfl
    | succ n ih =>
      intro i
      unfold checkF
      split
      · exact .inr (.inl rfl)
      · split
        · exact .inr (.inr rfl)
        · exact ih _
  unfold checkT
  split
  · exact .inr (.inr (.inl rfl))
  · rcases h l.length 0 with h | h | h
    · exact .inl h
    · exact .inr (.inl h)
    · exact .inr (.inr (.inr h))
theorem checkF_ok (l : List Tg) : ∀ n i, checkF l n i = 0 → ∀ j, i ≤ j → j < i + n → fairT (l.getD j default) = true ∧ findZ (l.take j) (l.getD j default).nm = none := by
  intro n
  induction n with
  | zero => intro i _ j h1 h2; omega
  | succ n ih =>
    intro i h j h1 h2
    unfold checkF at h
    by_cases hf : fairT (l.getD i default) = false
    · rw [if_pos hf] at h; simp at h
    · rw [if_neg hf] at h
      by_cases hz : findZ (l.take i) (l.getD i default).nm ≠ none
      · rw [if_pos hz] at h; simp at h
      · rw [if_neg hz] at h
        by_cases hj : j = i
        · subst hj
          exact ⟨by simpa using hf, by simpa using hz⟩
        · exact ih (i + 1) h j (by omega) (by omega)
theorem check_ok {l : List Tg} (h : checkT l = 0) : l.length ≤ 12 ∧ (∀ i (hi : i < l.length), l[i].lo ≤ l[i].hi) ∧ ∀ i (hi : i < l.length), findZ l l[i].nm = some i := by
  unfold checkT at h
  by_cases hl : 12 < l.length
  · rw [if_pos hl] at h; simp at h
  · rw [if_neg hl] at h
    refine ⟨by omega, fun i hi => ?_, fun i hi => ?_⟩
    · have := (checkF_ok l l.length 0 h i (by omega) (by omega)).1
      rw [List.getD_eq_getElem?_getD, List.getElem?_eq_getElem hi] at this
      simp [fairT] at this
      exact this.2
    · have := (checkF_ok l l.length 0 h i (by omega) (by omega)).2
      rw [List.getD_eq_getElem?_getD, List.getElem?_eq_getElem hi] at this
      simp only [Option.getD_some] at this
      unfold findZ at this ⊢
      rw [findF_take _ l 0 i, if_pos this, show (0 : Nat) + min i l.length = i by omega, findF_drop _ l i hi, if_pos rfl]

def okR (l : List Tg) (im : Im) (i : Nat) : Bool := decide (nearZ (l.getD i default) (im.v.getD i 0) = im.v.getD i 0) && !((l.getD i default).out && im.bad.getD i false)
/-- Is this an image of these tags? -/
def rightB (l : List Tg) (im : Im) : Bool := decide (checkT l = 0) && decide (im.v.length = l.length) && decide (im.bad.length = l.length) && (List.range l.length).all (okR l im)
theorem right_ok {l : List Tg} {im : Im} (h : rightB l im = true) : checkT l = 0 ∧ im.v.length = l.length ∧ im.bad.length = l.length ∧ ∀ i, i < l.length → okR l im i = true := by
  simp [rightB] at h
  exact ⟨h.1.1.1, h.1.1.2, h.1.2, h.2⟩

def Im.put (im : Im) (i : Nat) (n : Int) (b : Bool) : Im := ⟨im.v.set i n, im.bad.set i b⟩
/-- The image behind these cells, where each has its tag. -/
def tellF (l : List Tg) (out : Bool) : List Cl → Im → Option Im
  | [], x => some x
  | c :: r, x => match findZ l c.1 with
    | none => none
    | some i => if (l.getD i default).out = out then tellF l out r (x.put i (nearZ (l.getD i default) c.2) (!out && decide (nearZ (l.getD i default) c.2 ≠ c.2))) else none
def tellT (l : List Tg) (im : Im) (cs : List Cl) (out : Bool) : Option Im × Int :=
  if rightB l im = true then match tellF l out cs im with | some x => (some x, 0) | none => (none, 21) else (none, 1)
def newI (l : List Tg) : Im := ⟨l.map fun t => nearZ t 0, l.map fun _ => false⟩
def newT (l : List Tg) : Option Im × Int := if checkT l = 0 then (some (newI l), 0) else (none, checkT l)
def Im.none_ : Im := ⟨[], []⟩
def envT (l : List Tg) (im : Im) : List Cl := if rightB l im = true then (l.zip im.v).map fun p => (p.1.nm, p.2) else []

/-- A right image's numbers are wide, and what is told keeps the lengths. -/
theorem put_len (im : Im) (i : Nat) (n : Int) (b : Bool) : (im.put i n b).v.length = im.v.length ∧ (im.put i n b).bad.length = im.bad.length := by simp [Im.put]
theorem tellF_len (l : List Tg) (out : Bool) : ∀ (cs : List Cl) (x y : Im), tellF l out cs x = some y → y.v.length = x.v.length ∧ y.bad.length = x.bad.length
  | [], x, y => by simp only [tellF, Option.some.injEq]; rintro rfl; exact ⟨rfl, rfl⟩
  | c :: r, x, y => by
    unfold tellF
    cases findZ l c.1 with
    | none => simp
    | some i =>
      simp only
      split
      · intro h
        obtain ⟨h1, h2⟩ := tellF_len l out r _ _ h
        rw [(put_len _ _ _ _).1] at h1
        rw [(put_len _ _ _ _).2] at h2
        exact ⟨h1, h2⟩
      · simp
end Go.Proofs.Ytppffmmngomijaa.Tg
