/- Floats in a list: what they leave free of rows, and shelves as the one shortest list that draws it. No program is in it. -/
namespace Go.Proofs.Ytpfcefflcmeobaa.Shelf

/-- A float: its side, and its rectangle's numbers. -/
structure Fl where
  s : Int
  l : Int
  t : Int
  r : Int
  b : Int

abbrev far : Int := 4503599627370496

/-- Does a float count? -/
def cntF (f : Fl) : Bool := decide (f.l < f.r) && decide (f.t < f.b) && (decide (f.s = 1) || decide (f.s = 2))

/-- Does one that counts stand at a side, in some of the rows? -/
def hitF (side a z : Int) (f : Fl) : Bool := cntF f && decide (f.s = side) && decide (f.t < z) && decide (a < f.b) && decide (a < z)

theorem cntF_iff {f : Fl} : cntF f = true ↔ f.l < f.r ∧ f.t < f.b ∧ (f.s = 1 ∨ f.s = 2) := by
  unfold cntF; simp [and_assoc]
theorem hitF_iff {side a z : Int} {f : Fl} : hitF side a z f = true ↔ cntF f = true ∧ f.s = side ∧ f.t < z ∧ a < f.b ∧ a < z := by
  unfold hitF; simp [and_assoc]

/-- The greatest left bound of the rows from a up to z, and the least right one. -/
def bandL (fs : List Fl) (a z : Int) : Int := fs.foldl (fun v f => if hitF 1 a z f then max v f.r else v) (-far)
def bandR (fs : List Fl) (a z : Int) : Int := fs.foldl (fun v f => if hitF 2 a z f then min v f.l else v) far

theorem foldL_le (a z : Int) : ∀ (fs : List Fl) (v0 v : Int), fs.foldl (fun v f => if hitF 1 a z f then max v f.r else v) v0 ≤ v ↔ v0 ≤ v ∧ ∀ f ∈ fs, hitF 1 a z f = true → f.r ≤ v
  | [], v0, v => by simp
  | f :: fs, v0, v => by
    rw [List.foldl_cons, foldL_le a z fs]
    by_cases h : hitF 1 a z f = true
    · rw [if_pos h]
      constructor
      · rintro ⟨h1, h2⟩
        exact ⟨by omega, fun g hg hh => by
          rcases List.mem_cons.1 hg with e | e
          · subst e; omega
          · exact h2 g e hh⟩
      · rintro ⟨h1, h2⟩
        have := h2 f (by simp) h
        exact ⟨by omega, fun g hg hh => h2 g (by simp [hg]) hh⟩
    · rw [if_neg h]
      constructor
      · rintro ⟨h1, h2⟩
        exact ⟨h1, fun g hg hh => by
          rcases List.mem_cons.1 hg with e | e
          · subst e; exact absurd hh h
          · exact h2 g e hh⟩
      · rintro ⟨h1, h2⟩
        exact ⟨h1, fun g hg hh => h2 g (by simp [hg]) hh⟩

theorem foldR_le (a z : Int) : ∀ (fs : List Fl) (v0 v : Int), v ≤ fs.foldl (fun v f => if hitF 2 a z f then min v f.l else v) v0 ↔ v ≤ v0 ∧ ∀ f ∈ fs, hitF 2 a z f = true → v ≤ f.l
  | [], v0, v => by simp
  | f :: fs, v0, v => by
    rw [List.foldl_cons, foldR_le a z fs]
    by_cases h : hitF 2 a z f = true
    · rw [if_pos h]
      constructor
      · rintro ⟨h1, h2⟩
        exact ⟨by omega, fun g hg hh => by
          rcases List.mem_cons.1 hg with e | e
          · subst e; omega
          · exact h2 g e hh⟩
      · rintro ⟨h1, h2⟩
        have := h2 f (by simp) h
        exact ⟨by omega, fun g hg hh => h2 g (by simp [hg]) hh⟩
    · rw [if_neg h]
      constructor
      · rintro ⟨h1, h2⟩
        exact ⟨h1, fun g hg hh => by
          rcases List.mem_cons.1 hg with e | e
          · subst e; exact absurd hh h
          · exact h2 g e hh⟩
      · rintro ⟨h1, h2⟩
        exact ⟨h1, fun g hg hh => h2 g (by simp [hg]) hh⟩

theorem bandL_le {fs : List Fl} {a z v : Int} : bandL fs a z ≤ v ↔ -far ≤ v ∧ ∀ f ∈ fs, hitF 1 a z f = true → f.r ≤ v := foldL_le a z fs _ v
theorem le_bandR {fs : List Fl} {a z v : Int} : v ≤ bandR fs a z ↔ v ≤ far ∧ ∀ f ∈ fs, hitF 2 a z f = true → v ≤ f.l := foldR_le a z fs _ v

theorem eq_of_le {x y : Int} (h : ∀ v, x ≤ v ↔ y ≤ v) : x = y := by
  have h1 := (h y).2 (Int.le_refl _)
  have h2 := (h x).1 (Int.le_refl _)
  omega
theorem eq_of_ge {x y : Int} (h : ∀ v, v ≤ x ↔ v ≤ y) : x = y := by
  have h1 := (h x).1 (Int.le_refl _)
  have h2 := (h y).2 (Int.le_refl _)
  omega

/-- What is free hangs on which floats there are, on nothing else. -/
theorem bandL_congr {fs gs : List Fl} (h : ∀ f, f ∈ fs ↔ f ∈ gs) (a z : Int) : bandL fs a z = bandL gs a z :=
  eq_of_le fun v => by rw [bandL_le, bandL_le]; exact ⟨fun ⟨h1, h2⟩ => ⟨h1, fun f hf => h2 f ((h f).2 hf)⟩, fun ⟨h1, h2⟩ => ⟨h1, fun f hf => h2 f ((h f).1 hf)⟩⟩
theorem bandR_congr {fs gs : List Fl} (h : ∀ f, f ∈ fs ↔ f ∈ gs) (a z : Int) : bandR fs a z = bandR gs a z :=
  eq_of_ge fun v => by rw [le_bandR, le_bandR]; exact ⟨fun ⟨h1, h2⟩ => ⟨h1, fun f hf => h2 f ((h f).2 hf)⟩, fun ⟨h1, h2⟩ => ⟨h1, fun f hf => h2 f ((h f).1 hf)⟩⟩

/-- More floats leave no more free. -/
theorem bandL_more {fs gs : List Fl} (h : ∀ f ∈ fs, f ∈ gs) (a z : Int) : bandL fs a z ≤ bandL gs a z :=
  bandL_le.2 ⟨(bandL_le.1 (Int.le_refl _)).1, fun f hf hh => (bandL_le.1 (Int.le_refl (bandL gs a z))).2 f (h f hf) hh⟩
theorem bandR_more {fs gs : List Fl} (h : ∀ f ∈ fs, f ∈ gs) (a z : Int) : bandR gs a z ≤ bandR fs a z :=
  le_bandR.2 ⟨(le_bandR.1 (Int.le_refl _)).1, fun f hf hh => (le_bandR.1 (Int.le_refl (bandR gs a z))).2 f (h f hf) hh⟩

/-- No rows: all is free. -/
theorem bandL_none (fs : List Fl) {a z : Int} (h : z ≤ a) : bandL fs a z = -far :=
  eq_of_le fun v => by
    rw [bandL_le]
    exact ⟨fun h1 => h1.1, fun h1 => ⟨h1, fun f _ hh => by have := (hitF_iff.1 hh).2.2.2.2; omega⟩⟩
theorem bandR_none (fs : List Fl) {a z : Int} (h : z ≤ a) : bandR fs a z = far :=
  eq_of_ge fun v => by
    rw [le_bandR]
    exact ⟨fun h1 => h1.1, fun h1 => ⟨h1, fun f _ hh => by have := (hitF_iff.1 hh).2.2.2.2; omega⟩⟩

theorem hit_split {side a m z : Int} {f : Fl} (h1 : a ≤ m) (h2 : m ≤ z) : hitF side a z f = true ↔ hitF side a m f = true ∨ hitF side m z f = true := by
  simp only [hitF_iff]
  constructor
  · rintro ⟨c, s, h3, h4, h5⟩
    have := (cntF_iff.1 c).2.1
    by_cases h6 : f.t < m ∧ a < m
    · exact .inl ⟨c, s, h6.1, h4, h6.2⟩
    · exact .inr ⟨c, s, h3, by omega, by omega⟩
  · rintro (⟨c, s, h3, h4, h5⟩ | ⟨c, s, h3, h4, h5⟩)
    · exact ⟨c, s, by omega, h4, by omega⟩
    · exact ⟨c, s, h3, by omega, by omega⟩

/-- Rows, and more rows below them. -/
theorem bandL_split (fs : List Fl) {a m z : Int} (h1 : a ≤ m) (h2 : m ≤ z) : bandL fs a z = max (bandL fs a m) (bandL fs m z) :=
  eq_of_le fun v => by
    have e : max (bandL fs a m) (bandL fs m z) ≤ v ↔ bandL fs a m ≤ v ∧ bandL fs m z ≤ v := by omega
    rw [e, bandL_le, bandL_le, bandL_le]
    constructor
    · rintro ⟨h3, h4⟩
      exact ⟨⟨h3, fun f hf hh => h4 f hf ((hit_split h1 h2).2 (.inl hh))⟩, ⟨h3, fun f hf hh => h4 f hf ((hit_split h1 h2).2 (.inr hh))⟩⟩
    · rintro ⟨⟨h3, h4⟩, -, h5⟩
      exact ⟨h3, fun f hf hh => by
        rcases (hit_split h1 h2).1 hh with h | h
        · exact h4 f hf h
        · exact h5 f hf h⟩
theorem bandR_split (fs : List Fl) {a m z : Int} (h1 : a ≤ m) (h2 : m ≤ z) : bandR fs a z = min (bandR fs a m) (bandR fs m z) :=
  eq_of_ge fun v => by
    have e : v ≤ min (bandR fs a m) (bandR fs m z) ↔ v ≤ bandR fs a m ∧ v ≤ bandR fs m z := by omega
    rw [e, le_bandR, le_bandR, le_bandR]
    constructor
    · rintro ⟨h3, h4⟩
      exact ⟨⟨h3, fun f hf hh => h4 f hf ((hit_split h1 h2).2 (.inl hh))⟩, ⟨h3, fun f hf hh => h4 f hf ((hit_split h1 h2).2 (.inr hh))⟩⟩
    · rintro ⟨⟨h3, h4⟩, -, h5⟩
      exact ⟨h3, fun f hf hh => by
        rcases (hit_split h1 h2).1 hh with h | h
        · exact h4 f hf h
        · exact h5 f hf h⟩

/-- The bounds of one row. -/
def bndF (fs : List Fl) (y : Int) : Int × Int := (bandL fs y (y + 1), bandR fs y (y + 1))

/-! Shelves: the one shortest list that draws what each row has. -/

/-- A list draws F from a row on: each item has what the rows have from its own up to the next one's, and neighbours are unlike. -/
def Draws {β : Type} (F : Int → β) : Int → List (Int × β) → Prop
  | _, [] => False
  | a, [(t, b)] => t = a ∧ ∀ y, a ≤ y → F y = b
  | a, (t, b) :: (t2, b2) :: rest => t = a ∧ a < t2 ∧ b ≠ b2 ∧ (∀ y, a ≤ y → y < t2 → F y = b) ∧ Draws F t2 ((t2, b2) :: rest)

theorem draws_head {β : Type} {F : Int → β} {a t : Int} {b : β} {rest : List (Int × β)} (h : Draws F a ((t, b) :: rest)) : t = a ∧ F a = b := by
  cases rest with
  | nil => exact ⟨h.1, h.2 a (Int.le_refl _)⟩
  | cons x xs => obtain ⟨t2, b2⟩ := x; exact ⟨h.1, h.2.2.2.1 a (Int.le_refl _) h.2.1⟩

/-- There is one such list at most. -/
theorem draws_one {β : Type} {F : Int → β} : ∀ (xs ys : List (Int × β)) (a : Int), Draws F a xs → Draws F a ys → xs = ys
  | [], _, _, h, _ => h.elim
  | _ :: _, [], _, _, h => h.elim
  | [(t, b)], [(t', b')], a, h, h' => by
    have h1 := draws_head h
    have h2 := draws_head h'
    rw [h1.1, h2.1, ← h1.2, ← h2.2]
  | [(t, b)], (t', b') :: (t2', b2') :: r', a, h, h' => by
    obtain ⟨-, h2, h3, h4, h5⟩ := h'
    have h6 := (draws_head h5).2
    have h7 := h.2 t2' (by omega)
    have h8 := h4 a (Int.le_refl _) h2
    have h9 := h.2 a (Int.le_refl _)
    exact absurd (by rw [← h8, h9, ← h7, h6]) h3
  | (t, b) :: (t2, b2) :: r, [(t', b')], a, h, h' => by
    obtain ⟨-, h2, h3, h4, h5⟩ := h
    have h6 := (draws_head h5).2
    have h7 := h'.2 t2 (by omega)
    have h8 := h4 a (Int.le_refl _) h2
    have h9 := h'.2 a (Int.le_refl _)
    exact absurd (by rw [← h8, h9, ← h7, h6]) h3
  | (t, b) :: (t2, b2) :: r, (t', b') :: (t2', b2') :: r', a, h, h' => by
    have g1 := draws_head h
    have g2 := draws_head h'
    obtain ⟨-, h2, h3, h4, h5⟩ := h
    obtain ⟨-, k2, k3, k4, k5⟩ := h'
    have e1 := (draws_head h5).2
    have e2 := (draws_head k5).2
    have hb : b = b' := by rw [← g1.2, ← g2.2]
    have ht : t2 = t2' := by
      rcases Int.lt_trichotomy t2 t2' with hh | hh | hh
      · have := k4 t2 (by omega) hh
        exact absurd (by rw [hb, ← this, e1]) h3
      · exact hh
      · have := h4 t2' (by omega) hh
        exact absurd (by rw [← hb, ← this, e2]) k3
    subst ht
    have := draws_one ((t2, b2) :: r) ((t2, b2') :: r') t2 h5 k5
    rw [g1.1, g2.1, hb, this]

theorem draws_congr {β : Type} {F G : Int → β} : ∀ (xs : List (Int × β)) (a : Int), (∀ y, a ≤ y → F y = G y) → Draws F a xs → Draws G a xs
  | [], _, _, h => h
  | [(t, b)], a, hf, h => ⟨h.1, fun y hy => (hf y hy).symm.trans (h.2 y hy)⟩
  | (t, b) :: (t2, b2) :: r, a, hf, ⟨h1, h2, h3, h4, h5⟩ => ⟨h1, h2, h3, fun y hy h => (hf y hy).symm.trans (h4 y hy h), draws_congr ((t2, b2) :: r) t2 (fun y hy => hf y (by omega)) h5⟩

end Go.Proofs.Ytpfcefflcmeobaa.Shelf
