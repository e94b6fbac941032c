/- How many boxes stand in the boxes of a tree, which is the first and which the last of them; no program is in it. -/
import Derived.Test.YtnmfgcdenngpfaaTreeSpec
namespace Go.Proofs.Ytnmfgcdenngpfaa.Tree
open Go.Proofs.Ytnmfgcdenngpfaa.Record Go.Proofs.Ytnmfgcdenngpfaa.Script

theorem filter_range_cut (q : Nat → Bool) (e : Nat) : ∀ f, (∀ c, e ≤ c → c < e + f → q c = false) → (List.range (e + f)).filter q = (List.range e).filter q
  | 0, _ => rfl
  | f + 1, h => by
    rw [show e + (f + 1) = (e + f) + 1 by omega, List.range_succ, List.filter_append, filter_range_cut q e f (fun c a b => h c a (by omega))]
    have : q (e + f) = false := h _ (by omega) (by omega)
    simp [this]

theorem Shape.kids_eq {d : Nat → Int} {n : Nat} (h : Shape d n) (i : Nat) (hi : i < n) : kids d n i = (List.range n).filter fun c => decide (par d c = (i : Int)) := by
  obtain ⟨e1, e2, -, -⟩ := en_spec d n i hi
  obtain ⟨f, hf⟩ : ∃ f, n = en d n i + f := ⟨n - en d n i, by omega⟩
  have hcut : (List.range n).filter (fun c => decide (par d c = (i : Int))) = (List.range (en d n i)).filter (fun c => decide (par d c = (i : Int))) := by
    have := filter_range_cut (fun c => decide (par d c = (i : Int))) (en d n i) f (fun c a b => by
      rw [decide_eq_false_iff_not]
      intro hp
      have hk := (h.kid_iff i c hi (by omega)).2 hp
      rw [mem_kids] at hk
      omega)
    rw [← hf] at this
    exact this
  rw [hcut]
  unfold kids kidsTo
  refine List.filter_congr fun c hc => ?_
  have hc' : c < en d n i := List.mem_range.1 hc
  have hk := h.kid_iff i c hi (by omega)
  rw [mem_kids] at hk
  rw [Bool.eq_iff_iff]
  simp only [Bool.and_eq_true, decide_eq_true_eq]
  rw [← hk]
  constructor
  · rintro ⟨a, b⟩; exact ⟨hc', a, b⟩
  · rintro ⟨_, a, b⟩; exact ⟨a, b⟩

theorem countP_two {p q r : Nat → Bool} : ∀ l : List Nat, (∀ c, r c = (p c || q c)) → (∀ c, p c = true → q c = false) → l.countP r = l.countP p + l.countP q
  | [], _, _ => rfl
  | c :: l, h, g => by
    rw [List.countP_cons, List.countP_cons, List.countP_cons, countP_two l h g, h c]
    cases hp : p c <;> cases hq : q c
    · simp
    · simp; omega
    · simp; omega
    · rw [g c hp] at hq; cases hq

/-- How many boxes stand in the first k boxes. -/
def below (d : Nat → Int) (n k : Nat) : Nat := (List.range n).countP fun c => decide (0 ≤ par d c) && decide (par d c < (k : Int))

theorem below_zero (d : Nat → Int) (n : Nat) : below d n 0 = 0 := by
  unfold below
  rw [List.countP_eq_zero]
  intro c _
  simp only [Bool.and_eq_true, decide_eq_true_eq]
  omega

theorem Shape.below_next {d : Nat → Int} {n : Nat} (h : Shape d n) (k : Nat) (hk : k < n) : below d n (k + 1) = below d n k + (kids d n k).length := by
  rw [h.kids_eq k hk, ← List.countP_eq_length_filter]
  unfold below
  refine countP_two _ (fun c => ?_) (fun c hp => ?_)
  · rw [Bool.eq_iff_iff]
    simp only [Bool.and_eq_true, Bool.or_eq_true, decide_eq_true_eq]
    omega
  · simp only [Bool.and_eq_true, decide_eq_true_eq] at hp
    rw [decide_eq_false_iff_not]
    omega

theorem countP_pos : ∀ n, (List.range (n + 1)).countP (fun c => decide (0 < c)) = n
  | 0 => rfl
  | n + 1 => by
    rw [List.range_succ, List.countP_append, countP_pos n]
    simp

theorem Shape.below_all {d : Nat → Int} {n : Nat} (h : Shape d n) : below d n n = n - 1 := by
  have h0 := h.pos
  obtain ⟨m, rfl⟩ : ∃ m, n = m + 1 := ⟨n - 1, by omega⟩
  rw [show m + 1 - 1 = m by omega]
  refine Eq.trans ?_ (countP_pos m)
  unfold below
  refine List.countP_congr fun c hc => ?_
  have hc' := List.mem_range.1 hc
  simp only [Bool.and_eq_true, decide_eq_true_eq]
  have hb := par_bounds d c
  constructor
  · intro hp
    rcases Nat.eq_zero_or_pos c with e | e
    · subst e; rw [par_zero] at hp; omega
    · exact e
  · intro hc0
    obtain ⟨p, hp, -⟩ := h.parent c hc0 hc'
    omega

theorem Shape.below_le {d : Nat → Int} {n : Nat} (_h : Shape d n) (k : Nat) : below d n k ≤ n := by
  unfold below
  refine Nat.le_trans List.countP_le_length ?_
  rw [List.length_range]
  exact Nat.le_refl _

theorem Shape.en_zero {d : Nat → Int} {n : Nat} (h : Shape d n) : en d n 0 = n := by
  refine en_here d n 0 n h.pos (Nat.le_refl _) (fun m a b => ?_) (.inl rfl)
  have := h.step m a b
  rw [h.zero]; omega

theorem Shape.next_kid {d : Nat → Int} {n : Nat} (h : Shape d n) (i : Nat) (hi : i < n) (he : i + 1 < en d n i) : i + 1 ∈ kids d n i := by
  obtain ⟨e1, e2, e3, -⟩ := en_spec d n i hi
  rw [mem_kids]
  have h1 := e3 (i + 1) (by omega) he
  have h2 := h.step (i + 1) (by omega) (by omega)
  simp only [Nat.add_sub_cancel] at h2
  exact ⟨he, by omega, by omega⟩

theorem Shape.kids_nil {d : Nat → Int} {n : Nat} (h : Shape d n) (i : Nat) (hi : i < n) (hk : kids d n i = []) : en d n i = i + 1 := by
  obtain ⟨e1, -, -, -⟩ := en_spec d n i hi
  by_cases he : i + 1 < en d n i
  · have := h.next_kid i hi he
    rw [hk] at this
    cases this
  · omega

theorem Shape.kids_head {d : Nat → Int} {n : Nat} (h : Shape d n) (i : Nat) (hi : i < n) (hk : 0 < (kids d n i).length) : (kids d n i)[0]? = some (i + 1) := by
  have hs : (kids d n i).Pairwise (· < ·) := kids_sorted d i _
  cases hl : kids d n i with
  | nil => rw [hl] at hk; simp at hk
  | cons x l =>
    have hx : x ∈ kids d n i := by rw [hl]; simp
    rw [mem_kids] at hx
    have hn := h.next_kid i hi (by omega)
    rw [hl] at hn hs
    rw [List.mem_cons] at hn
    simp only [List.getElem?_cons_zero, Option.some.injEq]
    rcases hn with e | e
    · exact e.symm
    · have := (List.pairwise_cons.1 hs).1 _ e
      omega

theorem Shape.kids_last {d : Nat → Int} {n : Nat} (_h : Shape d n) (i c : Nat) (hi : i < n) (hk : (kids d n i)[(kids d n i).length - 1]? = some c) : c < n ∧ en d n c = en d n i := by
  have hs : (kids d n i).Pairwise (· < ·) := kids_sorted d i _
  have hx : c ∈ kids d n i := List.mem_of_getElem? hk
  rw [mem_kids] at hx
  obtain ⟨e1, e2, e3, e4⟩ := en_spec d n i hi
  have hcn : c < n := by omega
  obtain ⟨g1, g2, g3, g4⟩ := en_spec d n c hcn
  refine ⟨hcn, ?_⟩
  have hle := en_nest d n i c hi hx.2.1 hx.1
  rcases Nat.lt_or_ge (en d n c) (en d n i) with hlt | hge
  · have h1 := e3 (en d n c) (by omega) hlt
    rcases g4 with g4 | g4
    · omega
    · have hm : en d n c ∈ kids d n i := by rw [mem_kids]; exact ⟨hlt, by omega, by omega⟩
      obtain ⟨j, hj, hje⟩ := List.getElem_of_mem hm
      obtain ⟨hl, hle2⟩ := List.getElem?_eq_some_iff.1 hk
      have hjl : j ≤ (kids d n i).length - 1 := by omega
      rcases Nat.lt_or_ge j ((kids d n i).length - 1) with a | a
      · have := List.pairwise_iff_getElem.1 hs j _ hj hl a
        omega
      · have : j = (kids d n i).length - 1 := by omega
        subst this
        omega
  · omega

end Go.Proofs.Ytnmfgcdenngpfaa.Tree
