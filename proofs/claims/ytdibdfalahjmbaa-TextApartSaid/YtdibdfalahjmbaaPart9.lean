/- Texts of this proof that follow each other, in one file. -/
import Derived.Test.YtdibdfalahjmbaaPart8
import Derived.Shelf.Abstract
import Derived.Lib.SliceRun
/-! A float more, as the program puts it: a list is cut at two rows, narrowed between them, and neighbours that are alike become one: it draws what the rows have then. No program is in it. -/
namespace Go.Proofs.Ytdibdfalahjmbaa.Shelf
set_option linter.unusedVariables false

/-- A list draws rows from one up to another. -/
def Seg {β : Type} (F : Int → β) : Int → Int → List (Int × β) → Prop
  | a, z, [] => z = a
  | a, z, (t, b) :: rest => t = a ∧ ∃ m, a < m ∧ (∀ y, a ≤ y → y < m → F y = b) ∧ Seg F m z rest

/-- A list draws all rows from one on; neighbours may be alike. -/
def DW {β : Type} (F : Int → β) : Int → List (Int × β) → Prop
  | _, [] => False
  | a, [(t, b)] => t = a ∧ ∀ y, a ≤ y → F y = b
  | a, (t, b) :: (t2, b2) :: rest => t = a ∧ a < t2 ∧ (∀ y, a ≤ y → y < t2 → F y = b) ∧ DW F t2 ((t2, b2) :: rest)

/-- Neighbours are unlike. -/
def Unl {β : Type} : List (Int × β) → Prop
  | [] => True
  | [_] => True
  | x :: y :: r => x.2 ≠ y.2 ∧ Unl (y :: r)

section
variable {β : Type} {F G : Int → β}

theorem dw_head {a : Int} {x : Int × β} {r : List (Int × β)} (h : DW F a (x :: r)) : x.1 = a := by
  obtain ⟨t, b⟩ := x
  cases r with
  | nil => exact h.1
  | cons y r => exact h.1

theorem draws_dw : ∀ (xs : List (Int × β)) (a : Int), Draws F a xs → DW F a xs ∧ Unl xs
  | [], _, h => h.elim
  | [(t, b)], _, h => ⟨h, trivial⟩
  | (t, b) :: (t2, b2) :: r, a, ⟨h1, h2, h3, h4, h5⟩ => by
    have := draws_dw ((t2, b2) :: r) t2 h5
    exact ⟨⟨h1, h2, h4, this.1⟩, h3, this.2⟩
theorem dw_draws : ∀ (xs : List (Int × β)) (a : Int), DW F a xs → Unl xs → Draws F a xs
  | [], _, h, _ => h.elim
  | [(t, b)], _, h, _ => h
  | (t, b) :: (t2, b2) :: r, a, ⟨h1, h2, h4, h5⟩, ⟨h3, h6⟩ => ⟨h1, h2, h3, h4, dw_draws ((t2, b2) :: r) t2 h5 h6⟩

theorem dw_split : ∀ (P : List (Int × β)) (a : Int) (x : Int × β) (S : List (Int × β)), DW F a (P ++ x :: S) ↔ Seg F a x.1 P ∧ DW F x.1 (x :: S)
  | [], a, x, S => by
    constructor
    · intro h
      have := dw_head h
      subst this
      exact ⟨rfl, h⟩
    · rintro ⟨h1, h2⟩
      have h1' : x.1 = a := h1
      rw [← h1']
      exact h2
  | (t, b) :: P, a, x, S => by
    have ih := fun m => dw_split P m x S
    obtain ⟨y, r, e⟩ : ∃ y r, P ++ x :: S = y :: r := by
      cases P with
      | nil => exact ⟨x, S, rfl⟩
      | cons p P => exact ⟨p, P ++ x :: S, rfl⟩
    obtain ⟨t2, b2⟩ := y
    constructor
    · intro h
      rw [List.cons_append, e] at h
      obtain ⟨h1, h2, h3, h4⟩ := h
      rw [← e] at h4
      have := (ih t2).1 h4
      exact ⟨⟨h1, t2, h2, h3, this.1⟩, this.2⟩
    · rintro ⟨⟨h1, m, h2, h3, h4⟩, h5⟩
      have h6 := (ih m).2 ⟨h4, h5⟩
      rw [List.cons_append, e]
      rw [e] at h6
      have h7 : t2 = m := dw_head h6
      subst h7
      exact ⟨h1, h2, h3, h6⟩

theorem seg_le : ∀ (P : List (Int × β)) (a z : Int), Seg F a z P → a ≤ z
  | [], a, z, h => by have h' : z = a := h; omega
  | (t, b) :: P, a, z, ⟨_, m, h2, _, h4⟩ => by have := seg_le P m z h4; omega

theorem seg_congr : ∀ (P : List (Int × β)) (a z : Int), (∀ y, a ≤ y → y < z → G y = F y) → Seg F a z P → Seg G a z P
  | [], a, z, _, h => h
  | (t, b) :: P, a, z, hf, ⟨h1, m, h2, h3, h4⟩ => by
    have := seg_le P m z h4
    exact ⟨h1, m, h2, fun y hy1 hy2 => (hf y hy1 (by omega)).trans (h3 y hy1 hy2), seg_congr P m z (fun y hy1 hy2 => hf y (by omega) hy2) h4⟩

theorem seg_map (n : β → β) : ∀ (P : List (Int × β)) (a z : Int), (∀ y, a ≤ y → y < z → G y = n (F y)) → Seg F a z P → Seg G a z (P.map fun x => (x.1, n x.2))
  | [], a, z, _, h => h
  | (t, b) :: P, a, z, hf, ⟨h1, m, h2, h3, h4⟩ => by
    have := seg_le P m z h4
    exact ⟨h1, m, h2, fun y hy1 hy2 => (hf y hy1 (by omega)).trans (by rw [h3 y hy1 hy2]), seg_map n P m z (fun y hy1 hy2 => hf y (by omega) hy2) h4⟩

theorem dw_congr : ∀ (xs : List (Int × β)) (a : Int), (∀ y, a ≤ y → G y = F y) → DW F a xs → DW G a xs
  | [], _, _, h => h
  | [(t, b)], a, hf, h => ⟨h.1, fun y hy => (hf y hy).trans (h.2 y hy)⟩
  | (t, b) :: (t2, b2) :: r, a, hf, ⟨h1, h2, h4, h5⟩ => ⟨h1, h2, fun y hy h => (hf y hy).trans (h4 y hy h), dw_congr ((t2, b2) :: r) t2 (fun y hy => hf y (by omega)) h5⟩

theorem unl_tail {x : Int × β} {r : List (Int × β)} (h : Unl (x :: r)) : Unl r := by
  cases r with
  | nil => trivial
  | cons y r => exact h.2
theorem unl_front : ∀ (P S : List (Int × β)), Unl (P ++ S) → Unl P ∧ Unl S
  | [], S, h => ⟨trivial, h⟩
  | [x], S, h => ⟨trivial, unl_tail h⟩
  | x :: y :: P, S, ⟨h1, h2⟩ => by
    have := unl_front (y :: P) S h2
    exact ⟨⟨h1, this.1⟩, this.2⟩
theorem unl_mid : ∀ (A : List (Int × β)) (x : Int × β) (R : List (Int × β)), Unl (A ++ [x]) → Unl (x :: R) → Unl (A ++ x :: R)
  | [], x, R, _, h => h
  | [y], x, R, h1, h2 => ⟨h1.1, h2⟩
  | y :: z :: A, x, R, ⟨h1, h2⟩, h3 => ⟨h1, unl_mid (z :: A) x R h2 h3⟩
theorem unl_head {x y : Int × β} {S : List (Int × β)} (e : x.2 = y.2) (h : Unl (x :: S)) : Unl (y :: S) := by
  cases S with
  | nil => trivial
  | cons z S => exact ⟨fun k => h.1 (e.trans k), h.2⟩

/-- The places of a list whose tops are below a row begin at k. -/
def Thr (xs : List (Int × β)) (y : Int) (k : Nat) : Prop := k ≤ xs.length ∧ ∀ i x, xs[i]? = some x → (decide (y < x.1) = decide (k ≤ i))

/-- A list that is cut at a row, and the place of the item that begins there. -/
def cutL (xs : List (Int × β)) (y : Int) (k : Nat) : List (Int × β) × Nat := match xs[k - 1]? with
  | none => (xs, 0)
  | some x => if x.1 = y then (xs, k - 1) else (xs.take k ++ (y, x.2) :: xs.drop k, k)

theorem thr_pos {xs : List (Int × β)} {a y : Int} {k : Nat} (h : DW F a xs) (hy : a ≤ y) (ht : Thr xs y k) : 1 ≤ k := by
  cases xs with
  | nil => exact h.elim
  | cons x r =>
    have := ht.2 0 x rfl
    have := dw_head h
    rcases Nat.eq_zero_or_pos k with e | e
    · subst e
      have h3 : decide (y < x.1) = true := by rw [ht.2 0 x rfl]; rfl
      have := of_decide_eq_true h3
      omega
    · exact e

theorem at_split {α : Type} {xs : List α} {k : Nat} {x : α} (h : xs[k]? = some x) : xs = xs.take k ++ x :: xs.drop (k + 1) := by
  obtain ⟨hk1, hk2⟩ := List.getElem?_eq_some_iff.1 h
  rw [← hk2, ← List.drop_eq_getElem_cons hk1, List.take_append_drop]

theorem cut1 {xs : List (Int × β)} {a y : Int} {k : Nat} (h : DW F a xs) (hu : Unl xs) (hy : a ≤ y) (ht : Thr xs y k) :
    ∃ P b S, cutL xs y k = (P ++ (y, b) :: S, P.length) ∧ DW F a (P ++ (y, b) :: S) ∧ Unl P ∧ Unl ((y, b) :: S) ∧ (a < y → P ≠ []) := by
  have hk := thr_pos h hy ht
  have hkl := ht.1
  obtain ⟨x, hx⟩ : ∃ x, xs[k - 1]? = some x := ⟨_, List.getElem?_eq_getElem (by omega)⟩
  have hs := at_split hx
  rw [show k - 1 + 1 = k by omega] at hs
  have hxy : x.1 ≤ y := by
    have := ht.2 _ _ hx
    have h3 : decide (y < x.1) = false := by rw [this]; simp; omega
    have := of_decide_eq_false h3
    omega
  have hV : ∀ v r, xs.drop k = v :: r → y < v.1 := fun v r e => by
    have hv : xs[k]? = some v := by
      have := List.getElem?_drop (xs := xs) (i := k) (j := 0)
      rw [e] at this
      simpa using this.symm
    have := ht.2 _ _ hv
    have h3 : decide (y < v.1) = true := by rw [this]; simp
    exact of_decide_eq_true h3
  obtain ⟨V, hVe⟩ : ∃ V, xs.drop k = V := ⟨_, rfl⟩
  obtain ⟨U, hUe⟩ : ∃ U, xs.take (k - 1) = U := ⟨_, rfl⟩
  have hUl : U.length = k - 1 := by rw [← hUe, List.length_take]; omega
  rw [hVe] at hs hV
  rw [hUe] at hs
  have hd := h
  rw [hs] at hd
  obtain ⟨g1, g2⟩ := (dw_split U a x V).1 hd
  have hu' := hu
  rw [hs] at hu'
  obtain ⟨hu1, hu2⟩ := unl_front U (x :: V) hu'
  obtain ⟨t, b⟩ := x
  by_cases e : t = y
  · subst e
    refine ⟨U, b, V, ?_, ?_, hu1, hu2, fun hay hU => ?_⟩
    · unfold cutL
      rw [hx]
      simp only [if_true]
      rw [hUl]
      exact congrArg (·, k - 1) hs
    · rw [← hs]; exact h
    · subst hU
      have g1' : t = a := g1
      omega
  · dsimp only at hxy e
    refine ⟨U ++ [(t, b)], b, V, ?_, ?_, ?_, unl_head (x := (t, b)) rfl hu2, fun _ hU => by simp at hU⟩
    · unfold cutL
      rw [hx]
      simp only [if_neg e]
      have h1 : xs.take k = U ++ [(t, b)] := by
        rw [show k = (k - 1) + 1 by omega, List.take_add_one, hx, hUe]; rfl
      rw [h1, hVe]
      congr 1
      rw [List.length_append, hUl]
      simp; omega
    · rw [List.append_assoc, List.singleton_append]
      refine (dw_split U a (t, b) _).2 ⟨g1, rfl, by first | omega | (dsimp only; omega), ?_, ?_⟩
      · intro z hz1 hz2
        cases V with
        | nil => exact g2.2 z hz1
        | cons v r =>
          obtain ⟨v1, v2⟩ := v
          have := hV _ _ rfl
          exact g2.2.2.1 z hz1 (by dsimp only at this; omega)
      · cases V with
        | nil => exact ⟨rfl, fun z hz => g2.2 z (by first | omega | (dsimp only; omega))⟩
        | cons v r =>
          obtain ⟨v1, v2⟩ := v
          exact ⟨rfl, hV _ _ rfl, fun z hz1 hz2 => g2.2.2.1 z (by first | omega | (dsimp only; omega)) hz2, g2.2.2.2⟩
    · exact (unl_front (U ++ [(t, b)]) V (by rw [List.append_assoc, List.singleton_append]; exact hu')).1

theorem cut2 {P S : List (Int × β)} {b : β} {a y z : Int} {k : Nat} (h : DW F a (P ++ (y, b) :: S)) (hu : Unl ((y, b) :: S)) (hz : y < z) (ht : Thr (P ++ (y, b) :: S) z k) :
    ∃ M b2 S2, cutL (P ++ (y, b) :: S) z k = (P ++ (M ++ (z, b2) :: S2), P.length + M.length) ∧ Seg F a y P ∧ Seg F y z M ∧ DW F z ((z, b2) :: S2) ∧ Unl ((z, b2) :: S2) := by
  obtain ⟨g1, g2⟩ := (dw_split P a (y, b) S).1 h
  have hk : P.length < k := by
    have := ht.2 P.length (y, b) (by simp)
    have h3 : decide (z < y) = false := by simp; omega
    rw [h3] at this
    have := of_decide_eq_false this.symm
    omega
  have ht' : Thr ((y, b) :: S) z (k - P.length) := by
    refine ⟨by have := ht.1; rw [List.length_append] at this; omega, fun i x hi => ?_⟩
    have := ht.2 (P.length + i) x (by rw [List.getElem?_append_right (by omega), show P.length + i - P.length = i by omega]; exact hi)
    rw [this]
    congr 1
    exact propext ⟨fun q => by omega, fun q => by omega⟩
  obtain ⟨M, b2, S2, e1, e2, -, e4, -⟩ := cut1 g2 hu (by first | omega | (dsimp only; omega)) ht'
  obtain ⟨g3, g4⟩ := (dw_split M y (z, b2) S2).1 e2
  refine ⟨M, b2, S2, ?_, g1, g3, g4, e4⟩
  obtain ⟨x, hx⟩ : ∃ x, ((y, b) :: S)[k - P.length - 1]? = some x := ⟨_, List.getElem?_eq_getElem (by have := ht'.1; omega)⟩
  have hx2 : (P ++ (y, b) :: S)[k - 1]? = some x := by
    rw [List.getElem?_append_right (by omega), show k - 1 - P.length = k - P.length - 1 by omega]; exact hx
  unfold cutL at e1 ⊢
  rw [hx] at e1
  rw [hx2]
  dsimp only at e1 ⊢
  by_cases e : x.1 = z
  · rw [if_pos e] at e1 ⊢
    injection e1 with q1 q2
    rw [← q1]
    congr 1
    omega
  · rw [if_neg e] at e1 ⊢
    injection e1 with q1 q2
    rw [← q1, ← List.append_assoc, List.take_append, List.drop_append, List.take_of_length_le (by omega), List.drop_of_length_le (by omega), List.nil_append, List.append_assoc]
    congr 1
    omega

variable [DecidableEq β]

/-- What is left of items behind one: those that are unlike the one ahead. -/
def compR : Int × β → List (Int × β) → List (Int × β)
  | _, [] => []
  | q, y :: ys => (if y.2 = q.2 then [] else [y]) ++ compR y ys

theorem dw_comp : ∀ (m : List (Int × β)) (p q : Int × β) (C : List (Int × β)), p.2 = q.2 → p.1 ≤ q.1 → (∀ y, p.1 ≤ y → y < q.1 → F y = p.2) → DW F q.1 (q :: (m ++ C)) → DW F p.1 (p :: (compR q m ++ C))
  | [], (p1, p2), (q1, q2), C, e, hl, hf, h => by
    dsimp only at e hl hf h
    subst e
    simp only [compR, List.nil_append] at h ⊢
    cases C with
    | nil => exact ⟨rfl, fun y hy => if hh : y < q1 then hf y hy hh else h.2 y (by omega)⟩
    | cons c C =>
      obtain ⟨c1, c2⟩ := c
      obtain ⟨-, h2, h3, h4⟩ := h
      exact ⟨rfl, by first | omega | (dsimp only; omega), fun y hy hy2 => if hh : y < q1 then hf y hy hh else h3 y (by omega) hy2, h4⟩
  | (y1, y2) :: m, (p1, p2), (q1, q2), C, e, hl, hf, h => by
    dsimp only at e hl hf h
    subst e
    obtain ⟨-, h2, h3, h4⟩ := h
    unfold compR
    have hf2 : ∀ y, p1 ≤ y → y < y1 → F y = p2 := fun y hy hy2 => if hh : y < q1 then hf y hy hh else h3 y (by omega) hy2
    by_cases hy : y2 = p2
    · simp only [hy, if_true, List.nil_append]
      have := dw_comp m (p1, p2) (y1, y2) C hy.symm (by first | omega | (dsimp only; omega)) hf2 h4
      rwa [hy] at this
    · simp only [if_neg hy, List.singleton_append]
      have := dw_comp m (y1, y2) (y1, y2) C rfl (Int.le_refl _) (fun y h1 h2 => by omega) h4
      exact ⟨rfl, by first | omega | (dsimp only; omega), hf2, this⟩

theorem unl_comp : ∀ (m : List (Int × β)) (p q l : Int × β) (C : List (Int × β)), p.2 = q.2 → (q :: m).getLast? = some l → Unl (l :: C) → Unl (p :: (compR q m ++ C))
  | [], p, q, l, C, e, hl, h => by
    have hl' : q = l := by simpa using hl
    subst hl'
    simp only [compR, List.nil_append]
    exact unl_head e.symm h
  | y :: m, p, q, l, C, e, hl, h => by
    rw [List.getLast?_cons_cons] at hl
    unfold compR
    by_cases hy : y.2 = q.2
    · simp only [if_pos hy, List.nil_append]
      exact unl_comp m p y l C (e.trans hy.symm) hl h
    · simp only [if_neg hy, List.singleton_append]
      exact ⟨fun k => hy (k.symm.trans e), unl_comp m y y l C rfl hl h⟩

end

/-- What a float makes of a row's bounds. -/
def narF (f : Fl) (b : Int × Int) : Int × Int := if f.s = 1 then (max b.1 f.r, b.2) else (b.1, min b.2 f.l)

theorem bnd_more {fs : List Fl} {f : Fl} (h : cntF f = true) (y : Int) : bndF (fs ++ [f]) y = if f.t ≤ y ∧ y < f.b then narF f (bndF fs y) else bndF fs y := by
  obtain ⟨-, -, hs⟩ := cntF_iff.1 h
  unfold bndF bandL bandR narF
  rw [List.foldl_append, List.foldl_append]
  simp only [List.foldl_cons, List.foldl_nil]
  have k1 : hitF 1 y (y + 1) f = true ↔ f.s = 1 ∧ f.t ≤ y ∧ y < f.b := by
    rw [hitF_iff]; exact ⟨fun ⟨_, a, b, c, _⟩ => ⟨a, by omega, c⟩, fun ⟨a, b, c⟩ => ⟨h, a, by omega, c, by omega⟩⟩
  have k2 : hitF 2 y (y + 1) f = true ↔ f.s = 2 ∧ f.t ≤ y ∧ y < f.b := by
    rw [hitF_iff]; exact ⟨fun ⟨_, a, b, c, _⟩ => ⟨a, by omega, c⟩, fun ⟨a, b, c⟩ => ⟨h, a, by omega, c, by omega⟩⟩
  simp only [k1, k2]
  by_cases hr : f.t ≤ y ∧ y < f.b
  · rw [if_pos hr]
    rcases hs with hs | hs
    · rw [if_pos ⟨hs, hr⟩, if_neg (fun q => by have := q.1; omega), if_pos hs]
    · rw [if_neg (fun q => by have := q.1; omega), if_pos ⟨hs, hr⟩, if_neg (by omega)]
  · rw [if_neg (fun q => hr q.2), if_neg (fun q => hr q.2), if_neg hr]

/-- A float that doesn't count changes nothing. -/
theorem shelvesD_same {fs : List Fl} {f : Fl} (h : cntF f = false) (hn : Near fs) (hn2 : Near (fs ++ [f])) : shelvesD fs = shelvesD (fs ++ [f]) := by
  refine shelves_one hn2 (draws_congr _ _ (fun y _ => ?_) (shelvesD_draws hn))
  have k : ∀ s, hitF s y (y + 1) f = false := fun s => by
    cases hh : hitF s y (y + 1) f with
    | false => rfl
    | true => rw [(hitF_iff.1 hh).1] at h; cases h
  unfold bndF bandL bandR
  rw [List.foldl_append, List.foldl_append]
  simp [k]

/-- One float more, as it is put. -/
theorem add_shelves {fs : List Fl} {f : Fl} (hn : Near fs) (hn2 : Near (fs ++ [f])) (h : cntF f = true) (k1 : Nat) (h1 : Thr (shelvesD fs) f.t k1) :
    ∀ k2, Thr (cutL (shelvesD fs) f.t k1).1 f.b k2 →
    ∃ A x M b2 C, (cutL (cutL (shelvesD fs) f.t k1).1 f.b k2).1 = A ++ x :: (M ++ (f.b, b2) :: C) ∧ (cutL (shelvesD fs) f.t k1).2 = A.length + 1 ∧ (cutL (cutL (shelvesD fs) f.t k1).1 f.b k2).2 = A.length + 1 + M.length ∧
      A ++ (x :: compR x (M.map (fun x => (x.1, narF f x.2)) ++ [(f.b, b2)])) ++ C = shelvesD (fs ++ [f]) := by
  obtain ⟨hd, hu⟩ := draws_dw _ _ (shelvesD_draws hn)
  have hfm : f ∈ fs ++ [f] := by simp
  have ht := (hn2 f hfm).1
  have htb := (cntF_iff.1 h).2.1
  obtain ⟨P, b, S, e1, e2, e3, e4, e5⟩ := cut1 hd hu (by unfold far; omega) h1
  rw [e1]
  intro k2 h2
  obtain ⟨M, b2, C, q1, q2, q3, q4, q5⟩ := cut2 e2 e4 htb h2
  rw [q1]
  obtain ⟨A, x, rfl⟩ : ∃ A x, P = A ++ [x] := by
    have hP := e5 (by unfold far; omega)
    exact ⟨P.dropLast, P.getLast hP, (List.dropLast_concat_getLast hP).symm⟩
  refine ⟨A, x, M, b2, C, by simp, by simp, by simp, ?_⟩
  have c1 : ∀ y, -far ≤ y → y < f.t → bndF (fs ++ [f]) y = bndF fs y := fun y _ hy => by rw [bnd_more h, if_neg (by omega)]
  have c2 : ∀ y, f.t ≤ y → y < f.b → bndF (fs ++ [f]) y = narF f (bndF fs y) := fun y hy1 hy2 => by rw [bnd_more h, if_pos ⟨hy1, hy2⟩]
  have c3 : ∀ y, f.b ≤ y → bndF (fs ++ [f]) y = bndF fs y := fun y hy => by rw [bnd_more h, if_neg (by omega)]
  have r1 := seg_congr _ _ _ c1 q2
  have r2 := seg_map (narF f) _ _ _ c2 q3
  have r3 := dw_congr _ _ c3 q4
  -- the whole, narrowed
  have w2 : DW (bndF (fs ++ [f])) f.t (M.map (fun x => (x.1, narF f x.2)) ++ (f.b, b2) :: C) := (dw_split _ f.t (f.b, b2) C).2 ⟨r2, r3⟩
  obtain ⟨y0, r0, e0⟩ : ∃ y0 r0, M.map (fun x => (x.1, narF f x.2)) ++ (f.b, b2) :: C = y0 :: r0 := by
    cases M with
    | nil => exact ⟨_, _, rfl⟩
    | cons p M => exact ⟨_, _, rfl⟩
  have hy0 : y0.1 = f.t := by rw [e0] at w2; exact dw_head w2
  have w1 : DW (bndF (fs ++ [f])) (-far) ((A ++ [x]) ++ y0 :: r0) := (dw_split _ _ y0 r0).2 ⟨by rw [hy0]; exact r1, by rw [hy0, ← e0]; exact w2⟩
  rw [← e0, List.append_assoc, List.singleton_append] at w1
  obtain ⟨w3, w4⟩ := (dw_split A (-far) x _).1 w1
  have w5 := dw_comp (M.map (fun x => (x.1, narF f x.2)) ++ [(f.b, b2)]) x x C rfl (Int.le_refl _) (fun y h1 h2 => by omega) (by rw [List.append_assoc, List.singleton_append]; exact w4)
  have w6 := unl_comp (M.map (fun x => (x.1, narF f x.2)) ++ [(f.b, b2)]) x x (f.b, b2) C rfl (by rw [← List.cons_append, List.getLast?_append]; rfl) q5
  have w7 : DW (bndF (fs ++ [f])) (-far) (A ++ x :: (compR x (M.map (fun x => (x.1, narF f x.2)) ++ [(f.b, b2)]) ++ C)) := (dw_split A (-far) x _).2 ⟨w3, w5⟩
  have w8 := unl_mid A x _ e3 w6
  have := shelves_one hn2 (dw_draws _ _ w7 w8)
  rw [← this, List.append_assoc, List.cons_append]

end Go.Proofs.Ytdibdfalahjmbaa.Shelf

/-! The program's list as it lies; sort.Search; below, of, After. -/
namespace Go.Proofs.Ytdibdfalahjmbaa.Shelf
open Go.RowKit Go.Sort Go.Proofs.Ytdibdfalahjmbaa.Rect Go.Proofs.Ytdibdfalahjmbaa.More
set_option linter.unusedVariables false

abbrev Sh := Int × (Int × Int)

/-- A list at block pb: its slice lies there, its shelves in a row of one's own, g. -/
structure Lst (w : World) (B pb g n c : Nat) (xs : List Sh) : Prop where
  hb : B ≤ pb
  cell : w.cell? ⟨pb, 0, none⟩ = some (.slice (some ⟨g, 0, none⟩) n c)
  frz : w.frozen? ⟨pb, 0, none⟩ = false
  ne : g ≠ pb
  row : MineE encSh 107 w B (some ⟨g, 0, none⟩) n c xs

section
variable {w w' : World} {B pb g n c : Nat} {xs : List Sh}

theorem Lst.lt (h : Lst w B pb g n c xs) : pb < w.heap.size := block_lt_of_cell h.cell
theorem Lst.len (h : Lst w B pb g n c xs) : xs.length = n := MineE.len h.row
theorem Lst.glt (h : Lst w B pb g n c xs) : B ≤ g ∧ g < w.heap.size := MineE.lt h.row g rfl
theorem Lst.cap (h : Lst w B pb g n c xs) : n ≤ c ∧ c ≤ 9223372036854775807 := by
  obtain ⟨cur, h1, h2, h3, h4, h5, h6⟩ := mine_block h.row
  exact ⟨h3, by unfold maxLen at h4; omega⟩
theorem Lst.below (h : Lst w B pb g n c xs) (k : Below w.heap.size w w') : Lst w' B pb g n c xs :=
  ⟨h.hb, (k.cell (p := ⟨pb, 0, none⟩) h.lt).trans h.cell, (k.frozen (p := ⟨pb, 0, none⟩) h.lt).trans h.frz, h.ne, MineE.below h.row k⟩
theorem Lst.at (h : Lst w B pb g n c xs) (k : Nat) (x : Sh) (hx : xs[k]? = some x) :
    w.cell? ⟨g, k * 3, none⟩ = some (.int .i64 x.1) ∧ w.cell? ⟨g, k * 3 + 1, none⟩ = some (.int .i64 x.2.1) ∧ w.cell? ⟨g, k * 3 + 2, none⟩ = some (.int .i64 x.2.2) :=
  ⟨MineE.at h.row k x hx 0 (by decide), MineE.at h.row k x hx 1 (by decide), MineE.at h.row k x hx 2 (by decide)⟩
/-- The row has been written to, the list's own block not. -/
theorem Lst.rowed {n' : Nat} {ys : List Sh} (h : Lst w B pb g n c xs) (k : w.grownBy w' (some g)) (m : MineE encSh 107 w' B (some ⟨g, 0, none⟩) n c ys) : Lst w' B pb g n c ys :=
  ⟨h.hb, k.cell h.cell (by simp; exact Ne.symm h.ne), (k.frozen_far ⟨pb, 0, none⟩ h.lt (by simp; exact Ne.symm h.ne)).trans h.frz, h.ne, m⟩

end

set_option maxHeartbeats 1000000 in
theorem closure_top (pl py pb g n c B i : Nat) (xs : List Sh) (x : Sh) (y : Int) (w : World) (hl : Lst w B pb g n c xs) (h1 : w.cell? ⟨pl, 0, none⟩ = some (.pointer (some ⟨pb, 0, none⟩))) (h2 : w.cell? ⟨py, 0, none⟩ = some (.int .i64 y)) (hx : xs[i]? = some x) :
    Calls Try.prog 78 (#[.int .i64 (i : Int)] ++ #[.pointer (some ⟨pl, 0, none⟩), .pointer (some ⟨py, 0, none⟩)]) w fun e w' => e = .returned (.bool (decide (y < x.1))) ∧ Below w.heap.size w w' := by
  have hi : i < xs.length := (List.getElem?_eq_some_iff.1 hx).1
  rw [hl.len] at hi
  have hi' : (i : Int) < (n : Int) := by omega
  have hp := hl.cell
  obtain ⟨c0, -, -⟩ := hl.at i x hx
  clear hl hx
  go_enter Try.func78, Try.ntmps78
  go_upto_region 1 with fail
  go_quiet (fail)
  have q : Below w.heap.size w (w.drewN nq) := ⟨rfl, rfl, rfl, Nat.le_refl _, fun _ _ => rfl⟩
  clear hp c0 h1 h2
  generalize w.drewN nq = w4 at q ⊢
  have HQ := Lib.hid q
  clear q
  go_wp2_with fail
  go_ret
  exact ⟨rfl, HQ.out⟩

set_option maxHeartbeats 2000000 in
/-- sort.Search, of a closure that only makes memory. -/
theorem search_far (f : Nat) (cb : Array Value) (n k : Nat) (w : World) (eg : ∀ args w, (callFunc f args).run Try.prog w = .ok (.enter f args) w) (hk : k ≤ n) (hn : n ≤ 1152921504606846976)
    (hf : ∀ (w1 : World) (i : Nat), Below w.heap.size w w1 → i < n → Calls Try.prog f (#[.int .i64 (i : Int)] ++ cb) w1 fun e w' => e = .returned (.bool (decide (k ≤ i))) ∧ Below w1.heap.size w1 w') :
    Calls Try.prog 77 #[.int .i64 (n : Int), .func (.func f) #[] cb] w fun e w' => e = .returned (.int .i64 (k : Int)) ∧ Below w.heap.size w w' := by
  have HF := Lib.hid hf
  clear hf
  go_enter Try.func77, Try.ntmps77
  go_wp2_with fail
  go_loopw [5, 6] (fun s5 s6 wr => ∃ lo hi : Nat, s5 = .int .i64 (lo : Int) ∧ s6 = .int .i64 (hi : Int) ∧ lo ≤ k ∧ k ≤ hi ∧ hi ≤ n ∧ Hid (Below w.heap.size w wr)) (fun s5 s6 _ => (intOf s6 - intOf s5).toNat)
  case atStart => exact ⟨0, n, rfl, rfl, Nat.zero_le _, hk, Nat.le_refl _, Lib.hid (Below.refl _ _)⟩
  case round =>
    obtain ⟨lo, hi, rfl, rfl, h1, h2, h3, H⟩ := hrel
    by_cases hlt : lo < hi
    · have hc := HF.out wr ((lo + hi) / 2) H.out (by omega)
      rw [show (((lo + hi) / 2 : Nat) : Int) = ((lo : Int) + (hi : Int)) / 2 by omega] at hc
      by_cases hp : k ≤ (lo + hi) / 2
      · rw [show decide (k ≤ (lo + hi) / 2) = true from by simp [hp]] at hc
        have HC := Lib.hid hc
        clear hc
        go_wp2_with (go_at_fn f; refine HC.out.mono ?_; rintro e w' ⟨rfl, kq⟩; have KQ := Lib.hid (thru H.out kq); clear kq)
        go_roundw
        case rel => exact ⟨lo, (lo + hi) / 2, rfl, by rw [show ((lo : Int) + (hi : Int)) / 2 = (((lo + hi) / 2 : Nat) : Int) by omega], h1, hp, by omega, KQ⟩
        case measure => simp [intOf]; omega
      · rw [show decide (k ≤ (lo + hi) / 2) = false from by simp [hp]] at hc
        have HC := Lib.hid hc
        clear hc
        go_wp2_with (go_at_fn f; refine HC.out.mono ?_; rintro e w' ⟨rfl, kq⟩; have KQ := Lib.hid (thru H.out kq); clear kq)
        go_roundw
        case rel => exact ⟨(lo + hi) / 2 + 1, hi, by rw [show ((lo : Int) + (hi : Int)) / 2 + 1 = (((lo + hi) / 2 + 1 : Nat) : Int) by omega], rfl, by omega, h2, h3, KQ⟩
        case measure => simp [intOf]; omega
    · obtain rfl : lo = k := by omega
      go_wp2_with fail
      go_ret
      exact ⟨rfl, H.out⟩

theorem search_any (f : Nat) (cb : Array Value) (n k : Nat) (w : World) (eg : ∀ args w, (callFunc f args).run Try.prog w = .ok (.enter f args) w) (hk : k ≤ n) (hn : n ≤ 1000000)
    (hf : ∀ (w1 : World) (i : Nat), Below w.heap.size w w1 → i < n → Calls Try.prog f (#[.int .i64 (i : Int)] ++ cb) w1 fun e w' => e = .returned (.bool (decide (k ≤ i))) ∧ Below w1.heap.size w1 w') :
    Calls Try.prog 77 #[.int .i64 (n : Int), .func (.func f) #[] cb] w fun e w' => e = .returned (.int .i64 (k : Int)) ∧ Below w.heap.size w w' :=
  search_far f cb n k w eg hk (by omega) hf

set_option maxHeartbeats 1000000 in
theorem below_any (pb g n c B k : Nat) (xs : List Sh) (y : Int) (w : World) (hl : Lst w B pb g n c xs) (hn : n ≤ 1000000) (ht : Thr xs y k) :
    Calls Try.prog 71 #[.pointer (some ⟨pb, 0, none⟩), .int .i64 y] w fun e w' => e = .returned (.int .i64 (k : Int)) ∧ Below w.heap.size w w' := by
  have hlen := hl.len
  have hpl := hl.lt
  have hk : k ≤ n := by have := ht.1; omega
  have HS := Lib.hid (fun (w1 : World) (k1 : Below w.heap.size w w1) (e1 : w1.cell? ⟨w.heap.size, 0, none⟩ = some (.pointer (some ⟨pb, 0, none⟩))) (e2 : w1.cell? ⟨w.heap.size + 1, 0, none⟩ = some (.int .i64 y)) =>
    search_any 78 #[.pointer (some ⟨w.heap.size, 0, none⟩), .pointer (some ⟨w.heap.size + 1, 0, none⟩)] n k w1 (enters_of Try.func78 (by kernel_rfl) rfl) hk hn (fun w2 i k2 hi => by
      obtain ⟨x, hx⟩ : ∃ x, xs[i]? = some x := ⟨_, List.getElem?_eq_getElem (by omega)⟩
      rw [← ht.2 i x hx]
      exact closure_top _ _ _ _ _ _ B i xs x y w2 (hl.below (thru k1 k2)) ((k2.cell (p := ⟨_, 0, none⟩) (block_lt_of_cell e1)).trans e1) ((k2.cell (p := ⟨_, 0, none⟩) (block_lt_of_cell e2)).trans e2) hx))
  have hp := hl.cell
  clear hl ht
  go_enter Try.func71, Try.ntmps71
  go_upto_region 1 with fail
  generalize hW : World.alloc (World.alloc w _) _ = W
  have hkW : Below w.heap.size w W := by rw [← hW]; exact ba2 _ _ _
  have e1 : W.cell? ⟨w.heap.size, 0, none⟩ = some (.pointer (some ⟨pb, 0, none⟩)) := by rw [← hW]; simp [go_sem]
  have e2 : W.cell? ⟨w.heap.size + 1, 0, none⟩ = some (.int .i64 y) := by rw [← hW]; simp [go_sem]
  have hp' := (hkW.cell (p := ⟨pb, 0, none⟩) hpl).trans hp
  clear hp
  have KW := Lib.hid hkW
  clear hW hkW
  go_wp2_with (first
    | (go_at_call 77; refine (HS.out _ KW.out e1 e2).mono ?_; rintro e w1 ⟨rfl, k1⟩; have K1 := Lib.hid (thru KW.out k1); clear k1))
  go_ret
  exact ⟨rfl, K1.out⟩

set_option maxHeartbeats 1000000 in
theorem of_zero (pb g n c B : Nat) (xs : List Sh) (y : Int) (w : World) (hl : Lst w B pb g n c xs) (hn : n ≤ 1000000) (ht : Thr xs y 0) :
    Calls Try.prog 79 #[.pointer (some ⟨pb, 0, none⟩), .int .i64 y] w fun e w' => e = .returned (.int .i64 0) ∧ Below w.heap.size w w' := by
  have HB := Lib.hid (below_any pb g n c B 0 xs y w hl hn ht)
  clear hl ht
  go_enter Try.func79, Try.ntmps79
  go_wp2_with (first
    | (go_at_call 71; refine HB.out.mono ?_; rintro e w1 ⟨rfl, k1⟩; have K1 := Lib.hid k1; clear k1))
  go_ret
  exact ⟨rfl, K1.out⟩

set_option maxHeartbeats 1000000 in
theorem of_next (pb g n c B k : Nat) (xs : List Sh) (y : Int) (w : World) (hl : Lst w B pb g n c xs) (hn : n ≤ 1000000) (ht : Thr xs y (k + 1)) :
    Calls Try.prog 79 #[.pointer (some ⟨pb, 0, none⟩), .int .i64 y] w fun e w' => e = .returned (.int .i64 (k : Int)) ∧ Below w.heap.size w w' := by
  have hB := below_any pb g n c B (k + 1) xs y w hl hn ht
  have hk : k + 1 ≤ n := by have := ht.1; have := hl.len; omega
  obtain ⟨q, hq⟩ : ∃ q : Int, ((k + 1 : Nat) : Int) = q := ⟨_, rfl⟩
  have hw : IntKind.i64.wrap (q - 1) = (k : Int) := by rw [IntWalk.i64_in _ (by omega)]; omega
  rw [hq] at hB
  have HB := Lib.hid hB
  have hk0 : ¬ (k : Int) < 0 := by omega
  have hk1 : (0 : Int) ≤ (k : Int) := by omega
  clear hl ht hB hq hk
  go_enter Try.func79, Try.ntmps79
  go_wp2_with (first
    | (go_at_call 71; refine HB.out.mono ?_; rintro e w1 ⟨rfl, k1⟩; have K1 := Lib.hid k1; clear k1))
  go_ret
  exact ⟨rfl, K1.out⟩

end Go.Proofs.Ytdibdfalahjmbaa.Shelf

/-! New, Shelves, After of the program's list. -/
namespace Go.Proofs.Ytdibdfalahjmbaa.Shelf
open Go.RowKit Go.Sort Go.Proofs.Ytdibdfalahjmbaa.Rect Go.Proofs.Ytdibdfalahjmbaa.More
set_option linter.unusedVariables false

section
variable {β : Type} {F : Int → β}

theorem dw_ge : ∀ (xs : List (Int × β)) (a : Int), DW F a xs → ∀ z ∈ xs, a ≤ z.1
  | [], _, h, _, _ => h.elim
  | [(t, b)], a, h, z, hz => by
    rw [List.mem_singleton.1 hz]
    have := h.1
    dsimp only
    omega
  | (t, b) :: (t2, b2) :: r, a, ⟨h1, h2, h4, h5⟩, z, hz => by
    rcases List.mem_cons.1 hz with e | e
    · rw [e]; dsimp only; omega
    · have := dw_ge ((t2, b2) :: r) t2 h5 z e
      omega

theorem dw_rise : ∀ (xs : List (Int × β)) (a : Int), DW F a xs → ∀ (i j : Nat) (x y : Int × β), i ≤ j → xs[i]? = some x → xs[j]? = some y → x.1 ≤ y.1
  | [], _, h, _, _, _, _, _, _, _ => h.elim
  | (t, b) :: r, a, h, 0, j, x, y, _, hx, hy => by
    have e : (t, b) = x := by simpa using hx
    subst e
    have h1 := dw_head h
    have h2 := dw_ge _ a h y (List.mem_of_getElem? hy)
    omega
  | [(t, b)], a, h, i + 1, j, x, y, _, hx, _ => by simp at hx
  | (t, b) :: (t2, b2) :: r, a, h, i + 1, j, x, y, hij, hx, hy => by
    obtain ⟨k, rfl⟩ : ∃ k, j = k + 1 := ⟨j - 1, by omega⟩
    rw [List.getElem?_cons_succ] at hx hy
    exact dw_rise ((t2, b2) :: r) t2 h.2.2.2 i k x y (by omega) hx hy

theorem thr_of {xs : List (Int × β)} {a : Int} (h : DW F a xs) (y : Int) : ∃ k, Thr xs y k := by
  refine ⟨xs.findIdx (fun x => decide (y < x.1)), List.findIdx_le_length, fun i x hx => ?_⟩
  have hi := (List.getElem?_eq_some_iff.1 hx).1
  by_cases hk : xs.findIdx (fun x => decide (y < x.1)) ≤ i
  · rw [show decide (xs.findIdx (fun x => decide (y < x.1)) ≤ i) = true by simp [hk]]
    have hlt : xs.findIdx (fun x => decide (y < x.1)) < xs.length := by omega
    have h1 := List.findIdx_getElem (w := hlt)
    have h2 := dw_rise xs a h _ i _ x hk (List.getElem?_eq_getElem hlt) hx
    have h3 := of_decide_eq_true h1
    simp only [decide_eq_true_eq]
    omega
  · rw [show decide (xs.findIdx (fun x => decide (y < x.1)) ≤ i) = false by simp [hk]]
    have h1 := List.not_of_lt_findIdx (p := fun x : Int × β => decide (y < x.1)) (xs := xs) (i := i) (by omega)
    rw [(List.getElem?_eq_some_iff.1 hx).2] at h1
    simpa using h1

theorem thr_find {xs : List (Int × β)} {y : Int} {k : Nat} (h : Thr xs y k) : xs.find? (fun x => decide (y < x.1)) = xs[k]? := by
  have hno : (xs.take k).find? (fun x => decide (y < x.1)) = none := by
    rw [List.find?_eq_none]
    intro z hz
    obtain ⟨j, hj⟩ := List.getElem?_of_mem hz
    rw [List.getElem?_take] at hj
    split at hj
    · rename_i hjk
      rw [h.2 j z hj]
      simp; omega
    · cases hj
  have e : xs = xs.take k ++ xs.drop k := (List.take_append_drop k xs).symm
  cases hx : xs[k]? with
  | none =>
    have hk := List.getElem?_eq_none_iff.1 hx
    rw [e, List.find?_append, hno, List.drop_of_length_le hk]
    rfl
  | some x =>
    have hk := (List.getElem?_eq_some_iff.1 hx)
    obtain ⟨hk1, hk2⟩ := hk
    rw [e, List.find?_append, hno, List.drop_eq_getElem_cons hk1, hk2]
    have hp : decide (y < x.1) = true := by rw [h.2 k x hx]; simp
    simp [hp]

end

/-- The list of what the floats leave free. -/
def InL (w : World) (B : Nat) (p : Addr) (fs : List Fl) : Prop := fs.length ≤ 1000 ∧ ∃ pb g n c, p = ⟨pb, 0, none⟩ ∧ Lst w B pb g n c (shelvesD fs)

theorem infoPs : InfoE encSh 107 108 24 :=
  ⟨Try.underlying108, .agg #[.int .i64 0, .int .i64 0, .int .i64 0], rfl, by kernel_rfl⟩

theorem inL_keep {w w' : World} {B : Nat} {p : Addr} {fs : List Fl} (h : InL w B p fs) (k : Below w.heap.size w w') : InL w' B p fs := by
  obtain ⟨hf, pb, g, n, c, e, hl⟩ := h
  exact ⟨hf, pb, g, n, c, e, hl.below k⟩

set_option maxRecDepth 100000 in
set_option maxHeartbeats 1000000 in
theorem new_any (w : World) : Calls Try.prog 33 #[] w fun r w' => (∃ p, r = .returned (.pointer (some p)) ∧ InL w' w.heap.size p []) ∧ Below w.heap.size w w' := by
  go_enter Try.func33, Try.ntmps33
  go_wp2_with fail
  go_ret
  refine ⟨⟨_, rfl, Nat.zero_le _, w.heap.size + 1, w.heap.size, 1, 1, rfl, by omega, by simp [go_sem], by simp [go_sem], by omega, ?_⟩, ba2 _ _ _⟩
  have := World.ownsRow_lit (e := 107) (size := 3) (base := w.heap.size) w #[.int .i64 (-4503599627370496), .int .i64 (-4503599627370496), .int .i64 4503599627370496] 1 (Nat.le_refl _) (by unfold maxLen; omega) rfl
  have h1 : MineE encSh 107 (w.alloc (.cells #[.int .i64 (-4503599627370496), .int .i64 (-4503599627370496), .int .i64 4503599627370496] 107)) w.heap.size (some ⟨w.heap.size, 0, none⟩) 1 1 (shelvesD []) := by
    simpa [MineE, encSh, shelvesD, far, nextF] using this
  exact MineE.alloc h1 _

set_option maxHeartbeats 1000000 in
theorem pafter_any (w : World) (B : Nat) (p : Addr) (fs : List Fl) (y : Int) (h : InL w B p fs) (hs : fs.all nearF = true) :
    Calls Try.prog 59 #[.pointer (some p), .int .i64 y] w fun r w' => r = .returned (.tuple #[.int .i64 (afterD fs y).1, .bool (afterD fs y).2]) ∧ Below w.heap.size w w' := by
  obtain ⟨hf, pb, g, n, c, rfl, hl⟩ := h
  have hlen := shelvesD_len fs
  have hn := hl.len
  have hd := (draws_dw _ _ (shelvesD_draws (near_of hs))).1
  obtain ⟨k, hk⟩ := thr_of hd y
  have ha : afterD fs y = match (shelvesD fs)[k]? with | some x => (x.1, true) | none => (0, false) := by
    unfold afterD; rw [thr_find hk]; cases (shelvesD fs)[k]? <;> rfl
  rw [ha]
  have HB := Lib.hid (below_any pb g n c B k _ y w hl (by omega) hk)
  generalize shelvesD fs = xs at hl hlen hn hk ha ⊢
  have hkn : k ≤ n := by have := hk.1; omega
  have HL := Lib.hid hl
  clear ha hk hd hl hlen
  cases hx : xs[k]? with
  | none =>
    have hk2 : k = n := by have := List.getElem?_eq_none_iff.1 hx; omega
    subst hk2
    clear hx hkn hn
    go_enter Try.func59, Try.ntmps59
    go_upto_region 2 with (first
      | (go_at_call 71; refine HB.out.mono ?_; rintro e w1 ⟨rfl, k1⟩; have hp := (HL.out.below k1).cell; have K1 := Lib.hid k1; clear k1))
    go_wp2_with fail
    exact bodyPost_ret (v := .tuple #[.int .i64 0, .bool false]) (by simp [results, Try.results59, go_sem]) rfl ⟨rfl, K1.out⟩
  | some x =>
    have hk2 : k < n := by have := (List.getElem?_eq_some_iff.1 hx).1; omega
    have hk3 : (k : Int) < (n : Int) := by omega
    have hk4 : ¬ (k : Int) = (n : Int) := by omega
    have HX := Lib.hid hx
    clear hx hkn hn hk2
    go_enter Try.func59, Try.ntmps59
    go_upto_region 2 with (first
      | (go_at_call 71; refine HB.out.mono ?_; rintro e w1 ⟨rfl, k1⟩; have hp := (HL.out.below k1).cell; have c0 := ((HL.out.below k1).at k x HX.out).1; have K1 := Lib.hid k1; clear k1))
    go_wp2_with fail
    exact bodyPost_ret (v := .tuple #[.int .i64 x.1, .bool true]) (by simp [results, Try.results59, go_sem]) rfl ⟨rfl, K1.out⟩

end Go.Proofs.Ytdibdfalahjmbaa.Shelf
