/- Shelves as a list: tops that rise, neighbours that are unlike, the last one free; the shelves of one float; the first top below a row. No program is in it. -/
import Derived.Test.YtpfcefflcmeobaaShelfSMath2
namespace Go.Proofs.Ytpfcefflcmeobaa.Shelf

theorem draws_drop {β : Type} {F : Int → β} : ∀ (i : Nat) (xs : List (Int × β)) (a : Int) (x : Int × β), Draws F a xs → xs[i]? = some x → Draws F x.1 (xs.drop i)
  | _, [], _, _, h, _ => h.elim
  | 0, (t, b) :: r, a, x, h, hx => by
    have e : (t, b) = x := by simpa using hx
    subst e
    have := (draws_head h).1
    subst this
    exact h
  | i + 1, [(t, b)], a, x, h, hx => by simp at hx
  | i + 1, (t, b) :: (t2, b2) :: r, a, x, h, hx => by
    rw [List.getElem?_cons_succ] at hx
    rw [List.drop_succ_cons]
    exact draws_drop i ((t2, b2) :: r) t2 x h.2.2.2.2 hx

/-- Neighbours: the lower one begins below the other, and is unlike. -/
theorem draws_pair {β : Type} {F : Int → β} {xs : List (Int × β)} {a : Int} (h : Draws F a xs) {i : Nat} {x y : Int × β} (hx : xs[i]? = some x) (hy : xs[i + 1]? = some y) : x.1 < y.1 ∧ x.2 ≠ y.2 := by
  have hd := draws_drop i xs a x h hx
  have hi := (List.getElem?_eq_some_iff.1 hx)
  have hi2 := (List.getElem?_eq_some_iff.1 hy)
  obtain ⟨h1, e1⟩ := hi
  obtain ⟨h2, e2⟩ := hi2
  rw [List.drop_eq_getElem_cons h1, List.drop_eq_getElem_cons h2, e1, e2] at hd
  obtain ⟨x1, x2⟩ := x
  obtain ⟨y1, y2⟩ := y
  exact ⟨hd.2.1, hd.2.2.1⟩

theorem draws_rise {β : Type} {F : Int → β} {xs : List (Int × β)} {a : Int} (h : Draws F a xs) : ∀ (d i : Nat) (x y : Int × β), xs[i]? = some x → xs[i + d]? = some y → x.1 ≤ y.1
  | 0, i, x, y, hx, hy => by
    rw [Nat.add_zero, hx] at hy
    injection hy with e
    rw [e]; exact Int.le_refl _
  | d + 1, i, x, y, hx, hy => by
    have hl := (List.getElem?_eq_some_iff.1 hy).1
    obtain ⟨z, hz⟩ : ∃ z, xs[i + d]? = some z := ⟨_, List.getElem?_eq_getElem (by omega)⟩
    have h1 := draws_rise h d i x z hx hz
    have h2 := (draws_pair h hz (by rw [← hy]; rfl)).1
    omega

/-- The last item has what all rows from it on have. -/
theorem draws_last {β : Type} {F : Int → β} : ∀ (xs : List (Int × β)) (a : Int) (x : Int × β), Draws F a xs → xs[xs.length - 1]? = some x → ∀ y, x.1 ≤ y → F y = x.2
  | [], _, _, h, _ => h.elim
  | [(t, b)], a, x, h, hx => by
    have e : (t, b) = x := by simpa using hx
    subst e
    intro y hy
    exact h.2 y (by have := h.1; dsimp only at hy; omega)
  | (t, b) :: (t2, b2) :: r, a, x, h, hx => by
    refine draws_last ((t2, b2) :: r) t2 x h.2.2.2.2 ?_
    have e : ((t, b) :: (t2, b2) :: r).length - 1 = (((t2, b2) :: r).length - 1) + 1 := by simp
    rw [e, List.getElem?_cons_succ] at hx
    exact hx

theorem shelvesD_head (fs : List Fl) : (shelvesD fs)[0]? = some (-far, (-far, far)) := rfl
theorem shelvesD_pos (fs : List Fl) : 0 < (shelvesD fs).length := by unfold shelvesD; simp

theorem shelvesD_pair {fs : List Fl} (hn : Near fs) {i : Nat} {x y : Int × (Int × Int)} (hx : (shelvesD fs)[i]? = some x) (hy : (shelvesD fs)[i + 1]? = some y) : x.1 < y.1 ∧ x.2 ≠ y.2 := draws_pair (shelvesD_draws hn) hx hy

/-- A row below all floats. -/
def lowF (fs : List Fl) : Int := fs.foldl (fun v f => max v f.b) 0
theorem lowF_le : ∀ (fs : List Fl) (v0 : Int), v0 ≤ fs.foldl (fun v f => max v f.b) v0 ∧ ∀ f ∈ fs, f.b ≤ fs.foldl (fun v f => max v f.b) v0
  | [], v0 => ⟨Int.le_refl _, fun f hf => by cases hf⟩
  | f :: fs, v0 => by
    rw [List.foldl_cons]
    obtain ⟨h1, h2⟩ := lowF_le fs (max v0 f.b)
    refine ⟨by omega, fun g hg => ?_⟩
    rcases List.mem_cons.1 hg with e | e
    · subst e; omega
    · exact h2 g e

theorem shelvesD_last {fs : List Fl} (hn : Near fs) {x : Int × (Int × Int)} (hx : (shelvesD fs)[(shelvesD fs).length - 1]? = some x) : x.2 = (-far, far) := by
  have h := draws_last _ _ x (shelvesD_draws hn) hx (max x.1 (lowF fs)) (by omega)
  rw [← h]
  refine bnd_free fun f hf _ => .inr ?_
  have := (lowF_le fs 0).2 f hf
  unfold lowF
  omega

/-- Behind each shelf the next one's top is the first one below. -/
theorem first_below {fs : List Fl} (hn : Near fs) {i : Nat} {x y : Int × (Int × Int)} (hx : (shelvesD fs)[i]? = some x) (hy : (shelvesD fs)[i + 1]? = some y) : (shelvesD fs).find? (fun z => decide (x.1 < z.1)) = some y := by
  have hd := shelvesD_draws hn
  have hp := shelvesD_pair hn hx hy
  have hi := (List.getElem?_eq_some_iff.1 hy).1
  generalize shelvesD fs = ss at hx hy hd hi
  have e : ss = ss.take (i + 1) ++ y :: ss.drop (i + 2) := by
    have hk := (List.getElem?_eq_some_iff.1 hy)
    obtain ⟨hk1, hk2⟩ := hk
    rw [← hk2, ← List.drop_eq_getElem_cons hk1, List.take_append_drop]
  have hno : (ss.take (i + 1)).find? (fun z => decide (x.1 < z.1)) = none := by
    rw [List.find?_eq_none]
    intro z hz
    obtain ⟨j, hj⟩ := List.getElem?_of_mem hz
    rw [List.getElem?_take] at hj
    split at hj
    · rename_i hji
      have := draws_rise hd (i - j) j z x hj (by rw [show j + (i - j) = i by omega]; exact hx)
      simp; omega
    · cases hj
  rw [e, List.find?_append, hno]
  simp [hp.1]

/-- The shelves of one float. -/
theorem bnd_one (f : Fl) (y : Int) : bndF [f] y = ((if hitF 1 y (y + 1) f then max (-far) f.r else -far), (if hitF 2 y (y + 1) f then min far f.l else far)) := rfl

theorem one_none {f : Fl} (hn : Near [f]) (h : cntF f = false) : shelvesD [f] = [(-far, (-far, far))] := by
  refine (shelves_one hn ?_).symm
  refine ⟨rfl, fun y _ => ?_⟩
  exact bnd_free fun g hg hc => by
    rw [List.mem_singleton.1 hg, h] at hc
    cases hc

theorem one_left {f : Fl} (hn : Near [f]) (h : cntF f = true) (h1 : f.s = 1) (hr : -far < f.r) : shelvesD [f] = [(-far, (-far, far)), (f.t, (f.r, far)), (f.b, (-far, far))] := by
  obtain ⟨c1, c2, c3⟩ := cntF_iff.1 h
  have ht := (hn f (by simp)).1
  refine (shelves_one hn ?_).symm
  have free : ∀ y, (y < f.t ∨ f.b ≤ y) → bndF [f] y = (-far, far) := fun y hy => bnd_free fun g hg _ => by rw [List.mem_singleton.1 hg]; exact hy
  have held : ∀ y, f.t ≤ y → y < f.b → bndF [f] y = (f.r, far) := fun y hy1 hy2 => by
    rw [bnd_one, if_pos (hitF_iff.2 ⟨h, h1, by omega, hy2, by omega⟩), if_neg (fun hh => by have := (hitF_iff.1 hh).2.1; omega)]
    rw [Int.max_eq_right (by omega)]
  refine ⟨rfl, by unfold far; omega, fun e => ?_, fun y _ hy => free y (.inl hy), rfl, c2, fun e => ?_, held, rfl, fun y hy => free y (.inr hy)⟩
  · have e1 := congrArg Prod.fst e; dsimp only at e1; omega
  · have e1 := congrArg Prod.fst e; dsimp only at e1; omega

theorem one_right {f : Fl} (hn : Near [f]) (h : cntF f = true) (h1 : f.s = 2) (hl : f.l < far) : shelvesD [f] = [(-far, (-far, far)), (f.t, (-far, f.l)), (f.b, (-far, far))] := by
  obtain ⟨c1, c2, c3⟩ := cntF_iff.1 h
  have ht := (hn f (by simp)).1
  refine (shelves_one hn ?_).symm
  have free : ∀ y, (y < f.t ∨ f.b ≤ y) → bndF [f] y = (-far, far) := fun y hy => bnd_free fun g hg _ => by rw [List.mem_singleton.1 hg]; exact hy
  have held : ∀ y, f.t ≤ y → y < f.b → bndF [f] y = (-far, f.l) := fun y hy1 hy2 => by
    rw [bnd_one, if_neg (fun hh => by have := (hitF_iff.1 hh).2.1; omega), if_pos (hitF_iff.2 ⟨h, h1, by omega, hy2, by omega⟩)]
    rw [Int.min_eq_right (by omega)]
  refine ⟨rfl, by unfold far; omega, fun e => ?_, fun y _ hy => free y (.inl hy), rfl, c2, fun e => ?_, held, rfl, fun y hy => free y (.inr hy)⟩
  · have e1 := congrArg Prod.snd e; dsimp only at e1; omega
  · have e1 := congrArg Prod.snd e; dsimp only at e1; omega

/-! The same floats, in another order, and more often. -/

theorem turned_mem (fs : List Fl) (k : Nat) (f : Fl) : f ∈ fs ↔ f ∈ fs.drop k ++ fs.take k ++ fs.take k := by
  constructor
  · intro h
    rw [← List.take_append_drop k fs] at h
    simp only [List.mem_append] at h ⊢
    rcases h with h | h
    · exact .inl (.inr h)
    · exact .inl (.inl h)
  · intro h
    simp only [List.mem_append] at h
    rcases h with (h | h) | h
    · exact List.mem_of_mem_drop h
    · exact List.mem_of_mem_take h
    · exact List.mem_of_mem_take h

end Go.Proofs.Ytpfcefflcmeobaa.Shelf
