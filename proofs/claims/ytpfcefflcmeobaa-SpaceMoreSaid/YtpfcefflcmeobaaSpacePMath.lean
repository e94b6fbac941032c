/- What the document says of a space: the last float's top, the bottom of what is cleared, the height of rows. -/
import Derived.Test.YtpfcefflcmeobaaShelfSMath2
namespace Go.Proofs.Ytpfcefflcmeobaa.Space
open Go.Proofs.Ytpfcefflcmeobaa.Shelf

/-- The greatest top. -/
def lastD : List Fl → Int
  | [] => 0
  | f :: fs => fs.foldl (fun m g => max m g.t) f.t

theorem lastD_snoc (fs : List Fl) (f : Fl) : lastD (fs ++ [f]) = if fs = [] then f.t else max (lastD fs) f.t := by
  cases fs with
  | nil => rfl
  | cons g gs => simp [lastD, List.foldl_append]

theorem lastD_take {fs : List Fl} {k : Nat} {f : Fl} (h : fs[k]? = some f) : lastD (fs.take (k + 1)) = if k = 0 then f.t else max (lastD (fs.take k)) f.t := by
  rw [List.take_add_one, h]
  show lastD (fs.take k ++ [f]) = _
  rw [lastD_snoc]
  have hk : k < fs.length := by
    rcases Nat.lt_or_ge k fs.length with g | g
    · exact g
    · rw [List.getElem?_eq_none g] at h; cases h
  by_cases e : k = 0
  · subst e; simp
  · rw [if_neg e, if_neg]
    intro h0
    have := congrArg List.length h0
    rw [List.length_take, List.length_nil] at this
    omega

theorem lastD_ge (fs : List Fl) (f : Fl) (h : f ∈ fs) : f.t ≤ lastD fs := by
  have key : ∀ (gs : List Fl) (m : Int), m ≤ gs.foldl (fun m g => max m g.t) m ∧ ∀ g ∈ gs, g.t ≤ gs.foldl (fun m g => max m g.t) m := by
    intro gs
    induction gs with
    | nil => intro m; exact ⟨Int.le_refl _, fun g hg => by cases hg⟩
    | cons a gs ih =>
      intro m
      obtain ⟨h1, h2⟩ := ih (max m a.t)
      simp only [List.foldl_cons]
      refine ⟨by omega, fun g hg => ?_⟩
      rcases List.mem_cons.1 hg with rfl | hg
      · omega
      · exact h2 g hg
  cases fs with
  | nil => cases h
  | cons g gs =>
    obtain ⟨h1, h2⟩ := key gs g.t
    rcases List.mem_cons.1 h with rfl | h
    · exact h1
    · exact h2 f h

theorem lastD_mem (fs : List Fl) (h : fs ≠ []) : ∃ f ∈ fs, f.t = lastD fs := by
  have key : ∀ (gs : List Fl) (m : Int), gs.foldl (fun m g => max m g.t) m = m ∨ ∃ g ∈ gs, g.t = gs.foldl (fun m g => max m g.t) m := by
    intro gs
    induction gs with
    | nil => intro m; exact .inl rfl
    | cons a gs ih =>
      intro m
      simp only [List.foldl_cons]
      rcases ih (max m a.t) with e | ⟨g, hg, e⟩
      · by_cases hm : a.t ≤ m
        · left; rw [e]; omega
        · right; exact ⟨a, List.mem_cons_self .., by rw [e]; omega⟩
      · exact .inr ⟨g, List.mem_cons_of_mem _ hg, e⟩
  cases fs with
  | nil => exact absurd rfl h
  | cons g gs =>
    rcases key gs g.t with e | ⟨f, hf, e⟩
    · exact ⟨g, List.mem_cons_self .., e.symm⟩
    · exact ⟨f, List.mem_cons_of_mem _ hf, e⟩

/-- Is a float of this side cleared? -/
def clrB (c s : Int) : Bool := c == 3 || (c != 0 && c == s)

def botStep (c : Int) (s : Int × Bool) (f : Fl) : Int × Bool := if clrB c f.s && (!s.2 || decide (s.1 < f.b)) then (f.b, true) else s

/-- The greatest bottom of what is cleared, and whether there is one. -/
def botS (fs : List Fl) (c : Int) : Int × Bool := fs.foldl (botStep c) (0, false)

theorem botS_snoc (fs : List Fl) (f : Fl) (c : Int) : botS (fs ++ [f]) c = botStep c (botS fs c) f := by unfold botS; rw [List.foldl_append]; rfl

theorem botS_take {fs : List Fl} {k : Nat} {f : Fl} (h : fs[k]? = some f) (c : Int) : botS (fs.take (k + 1)) c = botStep c (botS (fs.take k) c) f := by
  rw [List.take_add_one, h]
  exact botS_snoc _ f c

/-- None: nothing is cleared. -/
theorem botS_none (fs : List Fl) : botS fs 0 = (0, false) := by
  unfold botS
  induction fs with
  | nil => rfl
  | cons f fs ih => exact ih

def clearS (fs : List Fl) (c y : Int) : Int := if (botS fs c).2 && decide (y < (botS fs c).1) then (botS fs c).1 else y

/-- The bottom as a greatest number of a list. -/
def cleared (fs : List Fl) (c : Int) : List Fl := fs.filter (fun f => clrB c f.s)

theorem botS_is (fs : List Fl) (c : Int) : ((botS fs c).2 = false ∧ cleared fs c = [] ∧ (botS fs c).1 = 0) ∨ ((botS fs c).2 = true ∧ (∃ f ∈ cleared fs c, f.b = (botS fs c).1) ∧ ∀ f ∈ cleared fs c, f.b ≤ (botS fs c).1) := by
  rw [← List.reverse_reverse fs]
  induction fs.reverse with
  | nil => exact .inl ⟨rfl, rfl, rfl⟩
  | cons f gs ih =>
    rw [List.reverse_cons]
    generalize gs.reverse = fs at ih ⊢
    rw [botS_snoc]
    have hc : cleared (fs ++ [f]) c = cleared fs c ++ (if clrB c f.s then [f] else []) := by
      unfold cleared; rw [List.filter_append]; congr 1; by_cases g : clrB c f.s = true <;> simp [g]
    rw [hc]
    unfold botStep
    by_cases h1 : clrB c f.s = true
    · rw [if_pos h1]
      rcases ih with ⟨e1, e2, e3⟩ | ⟨e1, ⟨g, hg, e2⟩, e3⟩
      · rw [e1, e2, if_pos (by rw [h1]; rfl)]
        exact .inr ⟨rfl, ⟨f, by simp, rfl⟩, fun g hg => by simp at hg; rw [hg]; exact Int.le_refl _⟩
      · by_cases h2 : (botS fs c).1 < f.b
        · rw [if_pos (by rw [h1]; simp [h2])]
          refine .inr ⟨rfl, ⟨f, by simp, rfl⟩, fun g hg => ?_⟩
          rcases List.mem_append.1 hg with hg | hg
          · have := e3 g hg; show g.b ≤ f.b; omega
          · rw [List.mem_singleton.1 hg]; exact Int.le_refl _
        · rw [if_neg (by rw [h1, e1]; simp [h2])]
          refine .inr ⟨e1, ⟨g, List.mem_append_left _ hg, e2⟩, fun g hg => ?_⟩
          rcases List.mem_append.1 hg with hg | hg
          · exact e3 g hg
          · rw [List.mem_singleton.1 hg]; omega
    · rw [if_neg (by simp [h1]), if_neg h1, List.append_nil]
      exact ih

theorem clearS_ge (fs : List Fl) (c y : Int) : y ≤ clearS fs c y := by
  unfold clearS
  split
  · next h => simp at h; omega
  · exact Int.le_refl _

/-- A clear is the greatest of y and of all that is cleared. -/
theorem clearS_is (fs : List Fl) (c y : Int) : (clearS fs c y = y ∨ ∃ f ∈ cleared fs c, f.b = clearS fs c y) ∧ ∀ f ∈ cleared fs c, f.b ≤ clearS fs c y := by
  unfold clearS
  rcases botS_is fs c with ⟨e1, e2, e3⟩ | ⟨e1, ⟨g, hg, e2⟩, e3⟩
  · rw [e1, e2]; simp
  · by_cases h : y < (botS fs c).1
    · rw [e1, if_pos (by simp [h])]; exact ⟨.inr ⟨g, hg, e2⟩, e3⟩
    · rw [e1, if_neg (by simp [h])]; exact ⟨.inl rfl, fun f hf => by have := e3 f hf; omega⟩

theorem clearS_eq {fs gs : List Fl} {c d : Int} (y : Int) (h : ∀ f, f ∈ cleared fs c ↔ f ∈ cleared gs d) : clearS fs c y = clearS gs d y := by
  obtain ⟨a1, a2⟩ := clearS_is fs c y
  obtain ⟨b1, b2⟩ := clearS_is gs d y
  have g1 := clearS_ge fs c y
  have g2 := clearS_ge gs d y
  have h1 : clearS fs c y ≤ clearS gs d y := by
    rcases a1 with e | ⟨f, hf, e⟩
    · omega
    · have := b2 f ((h f).1 hf); omega
  have h2 : clearS gs d y ≤ clearS fs c y := by
    rcases b1 with e | ⟨f, hf, e⟩
    · omega
    · have := a2 f ((h f).2 hf); omega
  omega

/-- More is cleared: never higher up. -/
theorem clearS_mono {fs gs : List Fl} {c d : Int} (y : Int) (h : ∀ f, f ∈ cleared fs c → f ∈ cleared gs d) : clearS fs c y ≤ clearS gs d y := by
  obtain ⟨a1, a2⟩ := clearS_is fs c y
  obtain ⟨b1, b2⟩ := clearS_is gs d y
  have g2 := clearS_ge gs d y
  rcases a1 with e | ⟨f, hf, e⟩
  · omega
  · have := b2 f (h f hf); omega

/-- Both: the greater one of the two. -/
theorem clearS_both {fs gs hs : List Fl} {c d e : Int} (y : Int) (h : ∀ f, f ∈ cleared fs c ↔ f ∈ cleared gs d ∨ f ∈ cleared hs e) : clearS fs c y = max (clearS gs d y) (clearS hs e y) := by
  obtain ⟨a1, a2⟩ := clearS_is fs c y
  have g0 := clearS_ge fs c y
  have m1 := clearS_mono (fs := gs) (gs := fs) (c := d) (d := c) y fun f hf => (h f).2 (.inl hf)
  have m2 := clearS_mono (fs := hs) (gs := fs) (c := e) (d := c) y fun f hf => (h f).2 (.inr hf)
  obtain ⟨-, b2⟩ := clearS_is gs d y
  obtain ⟨-, c2⟩ := clearS_is hs e y
  have g1 := clearS_ge gs d y
  have : clearS fs c y ≤ max (clearS gs d y) (clearS hs e y) := by
    rcases a1 with q | ⟨f, hf, q⟩
    · omega
    · rcases (h f).1 hf with hf | hf
      · have := b2 f hf; omega
      · have := c2 f hf; omega
  omega

/-- As high as it is, but one at least. -/
def highZ (h : Int) : Int := if h < 1 then 1 else h

theorem highZ_pos (h : Int) : 1 ≤ highZ h := by unfold highZ; split <;> omega

end Go.Proofs.Ytpfcefflcmeobaa.Space
