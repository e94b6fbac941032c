/- The document's walk from edge to edge: it draws what each row has; its band over rows. No program is in it. -/
import Derived.Test.YtpfcefflcmeobaaShelfSMath
namespace Go.Proofs.Ytpfcefflcmeobaa.Shelf

def stepN (y : Int) (c : Bool) (s : Int × Bool) (e : Int) : Int × Bool := if c && decide (y < e) && (!s.2 || decide (e < s.1)) then (e, true) else s

/-- The least edge below a row. -/
def nextF (fs : List Fl) (y : Int) : Int × Bool := fs.foldl (fun s f => stepN y (cntF f) (stepN y (cntF f) s f.t) f.b) (0, false)

/-- What has been found of the edges below a row that a test lets by. -/
def Least (y : Int) (P : Int → Prop) (s : Int × Bool) : Prop := if s.2 then y < s.1 ∧ P s.1 ∧ ∀ e, P e → y < e → s.1 ≤ e else s = (0, false) ∧ ∀ e, P e → ¬ y < e

theorem least_step {y : Int} {P : Int → Prop} {s : Int × Bool} (h : Least y P s) (c : Bool) (e : Int) : Least y (fun x => P x ∨ (c = true ∧ x = e)) (stepN y c s e) := by
  obtain ⟨v, ok⟩ := s
  unfold stepN
  unfold Least at h ⊢
  cases c
  · simp only [Bool.false_and, Bool.false_eq_true, if_false]
    cases ok
    · simp only [Bool.false_eq_true, if_false] at h ⊢
      exact ⟨h.1, fun x hx => by rcases hx with hx | hx; exact h.2 x hx; exact hx.1.elim⟩
    · simp only [if_true] at h ⊢
      exact ⟨h.1, .inl h.2.1, fun x hx => by rcases hx with hx | hx; exact h.2.2 x hx; exact hx.1.elim⟩
  · by_cases hy : y < e
    · cases ok
      · simp only [Bool.false_eq_true, if_false] at h
        simp only [hy, decide_true, Bool.not_false, Bool.true_or, Bool.and_true, if_true]
        exact ⟨trivial, .inr ⟨trivial, trivial⟩, fun x hx hxy => by
          rcases hx with hx | hx
          · exact absurd hxy (h.2 x hx)
          · omega⟩
      · simp only [if_true] at h
        by_cases he : e < v
        · simp only [Bool.true_and, hy, he, decide_true, Bool.not_true, Bool.false_or, if_true]
          exact ⟨trivial, .inr ⟨trivial, trivial⟩, fun x hx hxy => by
            rcases hx with hx | hx
            · have := h.2.2 x hx hxy; omega
            · omega⟩
        · simp only [Bool.true_and, hy, he, decide_true, decide_false, Bool.not_true, Bool.or_false, Bool.and_false, Bool.false_eq_true, if_false, if_true]
          exact ⟨h.1, .inl h.2.1, fun x hx hxy => by
            rcases hx with hx | hx
            · exact h.2.2 x hx hxy
            · omega⟩
    · simp only [hy, decide_false, Bool.and_false, Bool.false_and, Bool.false_eq_true, if_false]
      cases ok
      · simp only [Bool.false_eq_true, if_false] at h ⊢
        exact ⟨h.1, fun x hx => by
          rcases hx with hx | hx
          · exact h.2 x hx
          · rw [hx.2]; exact hy⟩
      · simp only [if_true] at h ⊢
        exact ⟨h.1, .inl h.2.1, fun x hx hxy => by
          rcases hx with hx | hx
          · exact h.2.2 x hx hxy
          · rw [hx.2] at hxy; exact absurd hxy hy⟩

theorem least_congr {y : Int} {P Q : Int → Prop} (h : ∀ x, P x ↔ Q x) {s : Int × Bool} (hs : Least y P s) : Least y Q s := by
  have : P = Q := funext fun x => propext (h x)
  rwa [← this]

/-- Is a number an edge of a float that counts? -/
def edge (fs : List Fl) (e : Int) : Prop := ∃ f ∈ fs, cntF f = true ∧ (e = f.t ∨ e = f.b)

theorem least_fold (y : Int) : ∀ (fs gs : List Fl) (s : Int × Bool), Least y (edge gs) s → Least y (edge (gs ++ fs)) (fs.foldl (fun s f => stepN y (cntF f) (stepN y (cntF f) s f.t) f.b) s)
  | [], gs, s, h => by rwa [List.append_nil]
  | f :: fs, gs, s, h => by
    rw [List.foldl_cons]
    have h1 := least_step (least_step h (cntF f) f.t) (cntF f) f.b
    have h2 := least_fold y fs (gs ++ [f]) _ (least_congr (Q := edge (gs ++ [f])) (fun x => by
      unfold edge
      constructor
      · rintro ((⟨g, hg, h3⟩ | ⟨hc, he⟩) | ⟨hc, he⟩)
        · exact ⟨g, by simp [hg], h3⟩
        · exact ⟨f, by simp, hc, .inl he⟩
        · exact ⟨f, by simp, hc, .inr he⟩
      · rintro ⟨g, hg, hc, he⟩
        rcases List.mem_append.1 hg with hg | hg
        · exact .inl (.inl ⟨g, hg, hc, he⟩)
        · rw [List.mem_singleton.1 hg] at hc he
          rcases he with he | he
          · exact .inl (.inr ⟨hc, he⟩)
          · exact .inr ⟨hc, he⟩) h1)
    rwa [List.append_assoc, List.singleton_append] at h2

theorem nextF_least (fs : List Fl) (y : Int) : Least y (edge fs) (nextF fs y) := by
  have := least_fold y fs [] (0, false) (by unfold Least; simp [edge])
  rwa [List.nil_append] at this

/-- Rows without an edge between them have the same bounds. -/
theorem bnd_same {fs : List Fl} {x y : Int} (hxy : y ≤ x) (h : ∀ e, edge fs e → y < e → x < e) : bndF fs x = bndF fs y := by
  have key : ∀ side, ∀ f ∈ fs, hitF side x (x + 1) f = true ↔ hitF side y (y + 1) f = true := by
    intro side f hf
    simp only [hitF_iff]
    constructor
    · rintro ⟨c, s, h1, h2, -⟩
      have ht := h f.t ⟨f, hf, c, .inl rfl⟩
      exact ⟨c, s, by omega, by omega, by omega⟩
    · rintro ⟨c, s, h1, h2, -⟩
      have hb := h f.b ⟨f, hf, c, .inr rfl⟩ h2
      exact ⟨c, s, by omega, by omega, by omega⟩
  unfold bndF
  rw [eq_of_le (x := bandL fs x (x + 1)) (y := bandL fs y (y + 1)) fun v => by
      rw [bandL_le, bandL_le]; exact ⟨fun ⟨h1, h2⟩ => ⟨h1, fun f hf hh => h2 f hf ((key 1 f hf).2 hh)⟩, fun ⟨h1, h2⟩ => ⟨h1, fun f hf hh => h2 f hf ((key 1 f hf).1 hh)⟩⟩,
    eq_of_ge (x := bandR fs x (x + 1)) (y := bandR fs y (y + 1)) fun v => by
      rw [le_bandR, le_bandR]; exact ⟨fun ⟨h1, h2⟩ => ⟨h1, fun f hf hh => h2 f hf ((key 2 f hf).2 hh)⟩, fun ⟨h1, h2⟩ => ⟨h1, fun f hf hh => h2 f hf ((key 2 f hf).1 hh)⟩⟩]

/-- A row that no float that counts has is as free as can be. -/
theorem bnd_free {fs : List Fl} {y : Int} (h : ∀ f ∈ fs, cntF f = true → y < f.t ∨ f.b ≤ y) : bndF fs y = (-far, far) := by
  have key : ∀ side, ∀ f ∈ fs, hitF side y (y + 1) f = true → False := fun side f hf hh => by
    obtain ⟨c, -, h1, h2, -⟩ := hitF_iff.1 hh
    have := h f hf c
    omega
  unfold bndF
  rw [eq_of_le (x := bandL fs y (y + 1)) (y := -far) fun v => by rw [bandL_le]; exact ⟨fun h1 => h1.1, fun h1 => ⟨h1, fun f hf hh => (key 1 f hf hh).elim⟩⟩,
    eq_of_ge (x := bandR fs y (y + 1)) (y := far) fun v => by rw [le_bandR]; exact ⟨fun h1 => h1.1, fun h1 => ⟨h1, fun f hf hh => (key 2 f hf hh).elim⟩⟩]

/-- The edges, with repeats. -/
def edgesL (fs : List Fl) : List Int := (fs.filter cntF).flatMap fun f => [f.t, f.b]
theorem edgesL_mem {fs : List Fl} {e : Int} : e ∈ edgesL fs ↔ edge fs e := by
  unfold edgesL edge
  simp only [List.mem_flatMap, List.mem_filter, List.mem_cons, List.not_mem_nil, or_false, and_assoc]
theorem edgesL_len (fs : List Fl) : (edgesL fs).length ≤ 2 * fs.length := by
  unfold edgesL
  have h1 : ∀ gs : List Fl, (gs.flatMap fun f => [f.t, f.b]).length = 2 * gs.length := fun gs => by
    induction gs with
    | nil => rfl
    | cons g gs ih => rw [List.flatMap_cons, List.length_append, ih]; simp; omega
  rw [h1]
  have := List.length_filter_le cntF fs
  omega
def leftN (fs : List Fl) (y : Int) : Nat := (edgesL fs).countP fun e => decide (y ≤ e)
theorem leftN_less {fs : List Fl} {y z : Int} (h : edge fs y) (hz : y < z) : leftN fs z < leftN fs y := by
  unfold leftN
  have hm := edgesL_mem.2 h
  generalize edgesL fs = es at hm
  induction es with
  | nil => cases hm
  | cons e es ih =>
    rw [List.countP_cons, List.countP_cons]
    have hmono : ∀ l : List Int, l.countP (fun e => decide (z ≤ e)) ≤ l.countP (fun e => decide (y ≤ e)) := fun l => List.countP_mono_left (fun x _ hx => by simp only [decide_eq_true_eq] at hx ⊢; omega)
    rcases List.mem_cons.1 hm with e1 | e1
    · subst e1
      have := hmono es
      rw [if_neg (by simp; omega), if_pos (by simp)]
      omega
    · have := ih e1
      by_cases h2 : z ≤ e
      · rw [if_pos (by simp [h2]), if_pos (by simp; omega)]; omega
      · rw [if_neg (by simp [h2])]; split <;> omega

/-- From an edge on: the shelves that begin there, or below. -/
def restS (fs : List Fl) : Nat → Int × Int → Int → List (Int × (Int × Int))
  | 0, _, _ => []
  | q + 1, b, y =>
    if bndF fs y = b then (if (nextF fs y).2 then restS fs q b (nextF fs y).1 else [])
    else (y, bndF fs y) :: (if (nextF fs y).2 then restS fs q (bndF fs y) (nextF fs y).1 else [])

theorem restS_draws {fs : List Fl} : ∀ (q : Nat) (a y : Int) (b : Int × Int), a < y → edge fs y → (∀ x, a ≤ x → x < y → bndF fs x = b) → leftN fs y ≤ q → Draws (bndF fs) a ((a, b) :: restS fs q b y)
  | 0, a, y, b, _, he, _, hq => by
    exfalso
    have h1 : 0 < leftN fs y := List.countP_pos_iff.2 ⟨y, edgesL_mem.2 he, by simp⟩
    omega
  | q + 1, a, y, b, ha, he, hc, hq => by
    have hn := nextF_least fs y
    unfold Least at hn
    unfold restS
    cases hok : (nextF fs y).2
    · rw [hok] at hn
      simp only [Bool.false_eq_true, if_false] at hn ⊢
      have hsame : ∀ x, y ≤ x → bndF fs x = bndF fs y := fun x hx => bnd_same hx (fun e h1 h2 => absurd h2 (hn.2 e h1))
      by_cases hb : bndF fs y = b
      · rw [if_pos hb]
        exact ⟨rfl, fun x hx => by
          by_cases h : x < y
          · exact hc x hx h
          · rw [hsame x (by omega), hb]⟩
      · rw [if_neg hb]
        exact ⟨rfl, ha, fun e => hb e.symm, hc, rfl, hsame⟩
    · rw [hok] at hn
      simp only [if_true] at hn ⊢
      obtain ⟨h1, h2, h3⟩ := hn
      have hsame : ∀ x, y ≤ x → x < (nextF fs y).1 → bndF fs x = bndF fs y := fun x hx hx2 => bnd_same hx (fun e g1 g2 => by have := h3 e g1 g2; omega)
      have hl := leftN_less he h1
      by_cases hb : bndF fs y = b
      · rw [if_pos hb]
        exact restS_draws q a _ b (by omega) h2 (fun x hx hx2 => by
          by_cases h : x < y
          · exact hc x hx h
          · rw [hsame x (by omega) hx2, hb]) (by omega)
      · rw [if_neg hb]
        have := restS_draws q y _ (bndF fs y) h1 h2 hsame (by omega)
        exact ⟨rfl, ha, fun e => hb e.symm, hc, this⟩

theorem restS_len {fs : List Fl} : ∀ (q : Nat) (b : Int × Int) (y : Int), (restS fs q b y).length ≤ q
  | 0, _, _ => Nat.le_refl _
  | q + 1, b, y => by
    unfold restS
    split <;> split
    · have := restS_len (fs := fs) q b (nextF fs y).1; omega
    · simp
    · have := restS_len (fs := fs) q (bndF fs y) (nextF fs y).1; simp; omega
    · simp

/-- The shelves. -/
def shelvesD (fs : List Fl) : List (Int × (Int × Int)) := (-far, (-far, far)) :: (if (nextF fs (-far)).2 then restS fs (2 * fs.length) (-far, far) (nextF fs (-far)).1 else [])

/-- Floats that aren't too far away. -/
def Near (fs : List Fl) : Prop := ∀ f ∈ fs, -2251799813685248 < f.t ∧ f.b < 2251799813685248

theorem shelvesD_draws {fs : List Fl} (hn : Near fs) : Draws (bndF fs) (-far) (shelvesD fs) := by
  have hfree : ∀ x, (∀ f ∈ fs, cntF f = true → x < f.t) → bndF fs x = (-far, far) := fun x h => bnd_free (fun f hf hc => .inl (h f hf hc))
  have hl := nextF_least fs (-far)
  unfold Least at hl
  unfold shelvesD
  cases hok : (nextF fs (-far)).2
  · rw [hok] at hl
    simp only [Bool.false_eq_true, if_false] at hl ⊢
    exact ⟨rfl, fun x _ => hfree x (fun f hf hc => absurd (by have := (hn f hf).1; unfold far; omega) (hl.2 f.t ⟨f, hf, hc, .inl rfl⟩))⟩
  · rw [hok] at hl
    simp only [if_true] at hl ⊢
    obtain ⟨h1, h2, h3⟩ := hl
    refine restS_draws _ _ _ _ h1 h2 (fun x hx hx2 => hfree x fun f hf hc => ?_) ?_
    · have := h3 f.t ⟨f, hf, hc, .inl rfl⟩ (by have := (hn f hf).1; unfold far; omega)
      omega
    · exact Nat.le_trans (List.countP_le_length ..) (edgesL_len fs)

theorem shelvesD_len (fs : List Fl) : (shelvesD fs).length ≤ 2 * fs.length + 1 := by
  unfold shelvesD
  rw [List.length_cons]
  split
  · have := restS_len (fs := fs) (2 * fs.length) (-far, far) (nextF fs (-far)).1; omega
  · simp

/-- What any list that draws the rows is. -/
theorem shelves_one {fs : List Fl} (hn : Near fs) {xs : List (Int × (Int × Int))} (h : Draws (bndF fs) (-far) xs) : xs = shelvesD fs := draws_one _ _ _ h (shelvesD_draws hn)

/-- The shelves hang on which floats there are, on nothing else. -/
theorem shelvesD_congr {fs gs : List Fl} (hn : Near fs) (hm : Near gs) (h : ∀ f, f ∈ fs ↔ f ∈ gs) : shelvesD fs = shelvesD gs :=
  draws_one _ _ _ (shelvesD_draws hn) (draws_congr _ _ (fun y _ => by unfold bndF; rw [bandL_congr h, bandR_congr h]) (shelvesD_draws hm))

/-- The document's band: the first row, and those where a float begins. -/
def docL (fs : List Fl) (a z : Int) : Int := fs.foldl (fun v f => if decide (a < f.t) && decide (f.t < z) then max v (bandL fs f.t (f.t + 1)) else v) (bandL fs a (a + 1))
def docR (fs : List Fl) (a z : Int) : Int := fs.foldl (fun v f => if decide (a < f.t) && decide (f.t < z) then min v (bandR fs f.t (f.t + 1)) else v) (bandR fs a (a + 1))

theorem foldM_le (p : Fl → Bool) (g : Fl → Int) : ∀ (fs : List Fl) (v0 v : Int), fs.foldl (fun v f => if p f then max v (g f) else v) v0 ≤ v ↔ v0 ≤ v ∧ ∀ f ∈ fs, p f = true → g f ≤ v
  | [], v0, v => by simp
  | f :: fs, v0, v => by
    rw [List.foldl_cons, foldM_le p g fs]
    simp only [List.mem_cons, forall_eq_or_imp]
    by_cases h : p f = true
    · rw [if_pos h]
      constructor
      · rintro ⟨h1, h2⟩; exact ⟨by omega, fun _ => by omega, h2⟩
      · rintro ⟨h1, h2, h3⟩; have := h2 h; exact ⟨by omega, h3⟩
    · rw [if_neg h]
      exact ⟨fun ⟨h1, h2⟩ => ⟨h1, fun e => absurd e h, h2⟩, fun ⟨h1, _, h3⟩ => ⟨h1, h3⟩⟩
theorem foldm_le (p : Fl → Bool) (g : Fl → Int) : ∀ (fs : List Fl) (v0 v : Int), v ≤ fs.foldl (fun v f => if p f then min v (g f) else v) v0 ↔ v ≤ v0 ∧ ∀ f ∈ fs, p f = true → v ≤ g f
  | [], v0, v => by simp
  | f :: fs, v0, v => by
    rw [List.foldl_cons, foldm_le p g fs]
    simp only [List.mem_cons, forall_eq_or_imp]
    by_cases h : p f = true
    · rw [if_pos h]
      constructor
      · rintro ⟨h1, h2⟩; exact ⟨by omega, fun _ => by omega, h2⟩
      · rintro ⟨h1, h2, h3⟩; have := h2 h; exact ⟨by omega, h3⟩
    · rw [if_neg h]
      exact ⟨fun ⟨h1, h2⟩ => ⟨h1, fun e => absurd e h, h2⟩, fun ⟨h1, _, h3⟩ => ⟨h1, h3⟩⟩

theorem docL_band {fs : List Fl} {a z : Int} (h : a < z) : docL fs a z = bandL fs a z :=
  eq_of_le fun v => by
    unfold docL
    rw [foldM_le, bandL_le, bandL_le]
    simp only [Bool.and_eq_true, decide_eq_true_eq]
    constructor
    · rintro ⟨⟨h1, h2⟩, h3⟩
      refine ⟨h1, fun f hf hh => ?_⟩
      obtain ⟨c, s, g1, g2, -⟩ := hitF_iff.1 hh
      by_cases g3 : f.t ≤ a
      · exact h2 f hf (hitF_iff.2 ⟨c, s, by omega, g2, by omega⟩)
      · exact (bandL_le.1 (h3 f hf ⟨by omega, g1⟩)).2 f hf (hitF_iff.2 ⟨c, s, by omega, (cntF_iff.1 c).2.1, by omega⟩)
    · rintro ⟨h1, h2⟩
      refine ⟨⟨h1, fun f hf hh => ?_⟩, fun g hg hgt => bandL_le.2 ⟨h1, fun f hf hh => ?_⟩⟩
      · obtain ⟨c, s, g1, g2, -⟩ := hitF_iff.1 hh
        exact h2 f hf (hitF_iff.2 ⟨c, s, by omega, g2, h⟩)
      · obtain ⟨c, s, g1, g2, -⟩ := hitF_iff.1 hh
        exact h2 f hf (hitF_iff.2 ⟨c, s, by omega, by omega, h⟩)
theorem docR_band {fs : List Fl} {a z : Int} (h : a < z) : docR fs a z = bandR fs a z :=
  eq_of_ge fun v => by
    unfold docR
    rw [foldm_le, le_bandR, le_bandR]
    simp only [Bool.and_eq_true, decide_eq_true_eq]
    constructor
    · rintro ⟨⟨h1, h2⟩, h3⟩
      refine ⟨h1, fun f hf hh => ?_⟩
      obtain ⟨c, s, g1, g2, -⟩ := hitF_iff.1 hh
      by_cases g3 : f.t ≤ a
      · exact h2 f hf (hitF_iff.2 ⟨c, s, by omega, g2, by omega⟩)
      · exact (le_bandR.1 (h3 f hf ⟨by omega, g1⟩)).2 f hf (hitF_iff.2 ⟨c, s, by omega, (cntF_iff.1 c).2.1, by omega⟩)
    · rintro ⟨h1, h2⟩
      refine ⟨⟨h1, fun f hf hh => ?_⟩, fun g hg hgt => le_bandR.2 ⟨h1, fun f hf hh => ?_⟩⟩
      · obtain ⟨c, s, g1, g2, -⟩ := hitF_iff.1 hh
        exact h2 f hf (hitF_iff.2 ⟨c, s, by omega, g2, h⟩)
      · obtain ⟨c, s, g1, g2, -⟩ := hitF_iff.1 hh
        exact h2 f hf (hitF_iff.2 ⟨c, s, by omega, by omega, h⟩)

end Go.Proofs.Ytpfcefflcmeobaa.Shelf
