/- Looks, in numbers: how many boxes are behind doesn't matter; what a box without a clear comes to; a chain of Blocks. No program is in it. -/
import Derived.Test.YtfomhdhiibcdfaaPart13
namespace Go.Proofs.Ytfomhdhiibcdfaa.Ahead
open Go.RowKit Go.Sort Go.Proofs.Ytfomhdhiibcdfaa.Record Go.Proofs.Ytfomhdhiibcdfaa.Script Go.Proofs.Ytfomhdhiibcdfaa.Tree Go.Proofs.Ytfomhdhiibcdfaa.Shelf Go.Proofs.Ytfomhdhiibcdfaa.Space Go.Proofs.Ytfomhdhiibcdfaa.Spot
set_option linter.unusedVariables false
set_option linter.unusedSimpArgs false

section
variable {bs : List Bx} {fs : List Fl}

theorem go_congr {p q : Nat → Rl → Rl} : ∀ (cs : List Nat) (k : Rl), (∀ c ∈ cs, ∀ k, p c k = q c k) → goK bs p cs k = goK bs q cs k
  | [], _, _ => rfl
  | c :: cs, k, h => by
    have h1 : stepK bs p c k = stepK bs q c k := by unfold stepK; rw [h c (List.mem_cons_self ..)]
    unfold goK
    rw [h1, go_congr cs _ fun z hz => h z (List.mem_cons_of_mem _ hz)]

theorem into_congr {p q : Nat → Rl → Rl} (i : Nat) (k : Rl) (h : ∀ c, i < c → c < bs.length → ∀ k, p c k = q c k) (hi : i < bs.length) : intoOf bs p i k = intoOf bs q i k := by
  unfold intoOf
  rw [go_congr _ _ fun c hc => h c ((mem_kids _ _ _ _).1 hc).2.1 (by have := ((mem_kids _ _ _ _).1 hc).1; have := (en_spec (dOf bs) bs.length i hi).2.1; omega)]

/-- How many boxes may be behind doesn't matter, if they are enough. -/
theorem past_fuel : ∀ (f g i : Nat), i < bs.length → bs.length - i ≤ f → bs.length - i ≤ g → ∀ k, pastF bs fs f i k = pastF bs fs g i k
  | 0, _, i, hi, hf, _, _ => by omega
  | _ + 1, 0, i, hi, _, hg, _ => by omega
  | f + 1, g + 1, i, hi, hf, hg, k => by
    have h : intoOf bs (pastF bs fs f) i k = intoOf bs (pastF bs fs g) i k := into_congr i k (fun c h1 h2 k => past_fuel f g c h2 (by omega) (by omega) k) hi
    unfold pastF pastOf
    rw [h]

theorem into_fuel (f g i : Nat) (hi : i < bs.length) (hf : bs.length - i ≤ f + 1) (hg : bs.length - i ≤ g + 1) (k : Rl) : intoF bs fs f i k = intoF bs fs g i k :=
  into_congr i k (fun c h1 h2 k => past_fuel f g c h2 (by omega) (by omega) k) hi

theorem bot_none : ∀ fs : List Fl, (botS fs 0).2 = false := by
  intro fs
  have h : ∀ (fs : List Fl) (s : Int × Bool), s.2 = false → (fs.foldl (botStep 0) s).2 = false := by
    intro fs
    induction fs with
    | nil => intro s h; exact h
    | cons f fs ih =>
      intro s h
      rw [List.foldl_cons]
      refine ih _ ?_
      unfold botStep
      rw [if_neg (by unfold Go.Proofs.Ytfomhdhiibcdfaa.Space.clrB; simp)]
      exact h
  exact h fs (0, false) rfl

theorem clrL_zero (l r : Bool) : clrL 0 l r = false := by cases l <;> cases r <;> rfl

/-- Past a box without a clear: into it, and its bottom margin, if the look hasn't ended. -/
theorem past_plain (i : Nat) (hi : i < bs.length) (hc : (bs.getD i noB).c = 0) (f : Nat) (hf : bs.length - i ≤ f) (k : Rl) :
    pastF bs fs f i k = if (intoF bs fs bs.length i k).e = true then intoF bs fs bs.length i k else { intoF bs fs bs.length i k with x := withR (intoF bs fs bs.length i k).x (bs.getD i noB).m2 } := by
  obtain ⟨g, rfl⟩ : ∃ g, f = g + 1 := ⟨f - 1, by omega⟩
  have h : intoOf bs (pastF bs fs g) i k = intoF bs fs bs.length i k := into_fuel g bs.length i hi (by omega) (by omega) k
  unfold pastF pastOf
  rw [h, hc, if_neg (by rw [clrL_zero]; simp), if_neg (by rw [bot_none]; simp)]

/-- Into a box with a top edge. -/
theorem into_edge (i f : Nat) (h : 0 < (bs.getD i noB).e0) (k : Rl) : intoF bs fs f i k = { k with x := withR k.x (bs.getD i noB).m0, e := true } := by
  unfold intoF intoOf; rw [if_pos h]

/-- Into a box that is high. -/
theorem into_high (i f : Nat) (h : 0 ≤ (bs.getD i noB).h) (k : Rl) : (intoF bs fs f i k).e = true := by
  unfold intoF intoOf
  split
  · rfl
  · unfold endK
    split
    · assumption
    · show (_ || _) = true
      rw [decide_eq_true h]; simp

end

/-! A chain of Blocks, one in the other. -/
/-- The margins that a look into a chain comes to. -/
def chainI (high : Bool) : List (Int × Int) → List Int
  | [] => []
  | [(a, _)] => [a]
  | (a, _) :: (a2, b2) :: rest => a :: (chainI high ((a2, b2) :: rest) ++ (if high = true then [] else [b2]))

/-- The margins of a chain as they are listed, but the first one's. -/
def wantC (high : Bool) : List (Int × Int) → List Int
  | [] => []
  | (a, b) :: rest => (if high = true then [a] else [a, b]) ++ wantC high rest

theorem chain_most (high : Bool) : ∀ (a b : Int) (rest : List (Int × Int)), Strut.mostOf (chainI high ((a, b) :: rest)) = max (Strut.mostOf [a]) (Strut.mostOf (wantC high rest)) ∧ Strut.leastOf (chainI high ((a, b) :: rest)) = min (Strut.leastOf [a]) (Strut.leastOf (wantC high rest))
  | a, b, [] => by
    have h1 := Strut.most_zero [a]
    have h2 := Strut.least_zero [a]
    exact ⟨by show Strut.mostOf [a] = max (Strut.mostOf [a]) 0; omega, by show Strut.leastOf [a] = min (Strut.leastOf [a]) 0; omega⟩
  | a, b, (a2, b2) :: rest => by
    obtain ⟨h1, h2⟩ := chain_most high a2 b2 rest
    have e1 : chainI high ((a, b) :: (a2, b2) :: rest) = [a] ++ (chainI high ((a2, b2) :: rest) ++ (if high = true then [] else [b2])) := rfl
    have e2 : wantC high ((a2, b2) :: rest) = (if high = true then [a2] else [a2, b2]) ++ wantC high rest := rfl
    rw [e1, e2]
    cases high
    · simp only [Bool.false_eq_true, if_false]
      rw [show ([a2, b2] : List Int) = [a2] ++ [b2] from rfl]
      simp only [Strut.most_append, Strut.least_append, h1, h2]
      exact ⟨by omega, by omega⟩
    · simp only [if_true, List.append_nil]
      simp only [Strut.most_append, Strut.least_append, h1, h2]
      exact ⟨trivial, trivial⟩

/-- A list of boxes that is such a chain: from the place i on, these margins. -/
structure Chain (bs : List Bx) (high : Bool) (i : Nat) (l : List (Int × Int)) : Prop where
  len : i + l.length = bs.length
  deep : ∀ j, j < bs.length → dOf bs j = j
  kind : ∀ j, i ≤ j → j < bs.length → (bs.getD j noB).k = 1 ∧ (bs.getD j noB).c = 0 ∧ (bs.getD j noB).e0 = 0 ∧ (bs.getD j noB).e2 = 0
  hei : ∀ j, i ≤ j → j < bs.length → (bs.getD j noB).h = if high = true ∧ j + 1 = bs.length then 5 else -1
  marg : ∀ j a b, l[j]? = some (a, b) → (bs.getD (i + j) noB).m0 = a ∧ (bs.getD (i + j) noB).m2 = b

theorem chain_kids {bs : List Bx} (hd : ∀ j, j < bs.length → dOf bs j = j) (i : Nat) (hi : i < bs.length) : kids (dOf bs) bs.length i = if i + 1 < bs.length then [i + 1] else [] := by
  have hen : en (dOf bs) bs.length i = bs.length := en_here _ _ _ _ hi (Nat.le_refl _) (fun m a b => by rw [hd m b, hd i hi]; omega) (.inl rfl)
  have hk : ∀ c, c ∈ kids (dOf bs) bs.length i ↔ c = i + 1 ∧ i + 1 < bs.length := fun c => by
    rw [mem_kids, hen]
    constructor
    · rintro ⟨h1, h2, h3⟩
      rw [hd c h1, hd i hi] at h3
      omega
    · rintro ⟨rfl, h⟩
      exact ⟨h, by omega, by rw [hd _ h, hd i hi]; omega⟩
  have hs := kids_sorted (dOf bs) i (en (dOf bs) bs.length i)
  change (kids (dOf bs) bs.length i).Pairwise (· < ·) at hs
  split
  · rename_i h
    cases hx : kids (dOf bs) bs.length i with
    | nil => have := (hk (i + 1)).2 ⟨rfl, h⟩; rw [hx] at this; cases this
    | cons c cs =>
      rw [hx] at hs
      have hc := ((hk c).1 (by rw [hx]; exact List.mem_cons_self ..)).1
      cases cs with
      | nil => rw [hc]
      | cons c' cs =>
        have h1 := (List.pairwise_cons.1 hs).1 c' (List.mem_cons_self ..)
        have h2 := ((hk c').1 (by rw [hx]; simp)).1
        omega
  · rename_i h
    cases hx : kids (dOf bs) bs.length i with
    | nil => rfl
    | cons c cs => exact absurd ((hk c).1 (by rw [hx]; exact List.mem_cons_self ..)).2 h

theorem chain_into {bs : List Bx} {fs : List Fl} {high : Bool} : ∀ (l : List (Int × Int)) (a b : Int) (i : Nat), Chain bs high i ((a, b) :: l) → ∀ k : Rl, k.e = false →
    intoF bs fs bs.length i k = ⟨⟨k.x.y, k.x.ms ++ chainI high ((a, b) :: l), k.x.h, k.x.s⟩, k.l, k.r, high⟩
  | [], a, b, i, h, k, hk => by
    have hn := h.len
    simp only [List.length_cons, List.length_nil] at hn
    have hi : i < bs.length := by omega
    obtain ⟨k1, k2, k3, k4⟩ := h.kind i (Nat.le_refl _) hi
    have hh := h.hei i (Nat.le_refl _) hi
    obtain ⟨m1, -⟩ := h.marg 0 a b rfl
    rw [Nat.add_zero] at m1
    unfold intoF intoOf
    rw [k3, if_neg (by omega), chain_kids h.deep i hi, if_neg (by omega), m1]
    unfold goK endK
    rw [k4, hh]
    obtain ⟨⟨y, ms, hd, s⟩, lf, r, e⟩ := k
    dsimp only at hk
    subst hk
    cases high
    · simp [chainI]
    · simp [chainI, show i + 1 = bs.length by omega]
  | (a2, b2) :: l, a, b, i, h, k, hk => by
    have hn := h.len
    simp only [List.length_cons] at hn
    have hi : i < bs.length := by omega
    have hi1 : i + 1 < bs.length := by omega
    obtain ⟨k1, k2, k3, k4⟩ := h.kind i (Nat.le_refl _) hi
    obtain ⟨q1, q2, -, -⟩ := h.kind (i + 1) (by omega) hi1
    have hh := h.hei i (Nat.le_refl _) hi
    rw [if_neg (by omega)] at hh
    obtain ⟨m1, -⟩ := h.marg 0 a b rfl
    obtain ⟨-, m2⟩ := h.marg 1 a2 b2 rfl
    rw [Nat.add_zero] at m1
    have hc : Chain bs high (i + 1) ((a2, b2) :: l) := ⟨by simp only [List.length_cons]; omega, h.deep, fun j x y => h.kind j (by omega) y, fun j x y => h.hei j (by omega) y, fun j x y e => by
      have := h.marg (j + 1) x y e
      rwa [show i + (j + 1) = i + 1 + j by omega] at this⟩
    obtain ⟨⟨y, ms, hd, s⟩, lf, r, e⟩ := k
    dsimp only at hk
    subst hk
    have ih := chain_into (fs := fs) l a2 b2 (i + 1) hc ⟨⟨y, ms ++ [a], hd, s⟩, lf, r, false⟩ rfl
    have hp := past_plain (fs := fs) (i + 1) hi1 q2 bs.length (by omega) ⟨⟨y, ms ++ [a], hd, s⟩, lf, r, false⟩
    rw [ih, m2] at hp
    unfold intoF intoOf
    rw [k3, if_neg (by omega), chain_kids h.deep i hi, if_pos hi1, m1]
    unfold goK
    have hst : stepK bs (pastF bs fs bs.length) (i + 1) ⟨⟨y, ms ++ [a], hd, s⟩, lf, r, false⟩ = pastF bs fs bs.length (i + 1) ⟨⟨y, ms ++ [a], hd, s⟩, lf, r, false⟩ := by
      unfold stepK
      rw [if_neg (by omega), if_neg (by omega), if_neg (by omega)]
    show endK _ (if (stepK bs (pastF bs fs bs.length) (i + 1) ⟨⟨y, ms ++ [a], hd, s⟩, lf, r, false⟩).e = true then _ else _) = _
    rw [hst, hp]
    unfold endK goK
    rw [k4, hh]
    cases high
    · simp [chainI]
    · simp [chainI]

end Go.Proofs.Ytfomhdhiibcdfaa.Ahead
