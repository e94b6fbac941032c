/- Trees, by the depths of boxes in a list: where each one stands, where it ends, what stands in it, and whose context it belongs to. No program is in it. -/
import Derived.Test.YtnmfgcdenngpfaaScriptBoxes
namespace Go.Proofs.Ytnmfgcdenngpfaa.Tree
open Go.Proofs.Ytnmfgcdenngpfaa.Record Go.Proofs.Ytnmfgcdenngpfaa.Script

/-- The last place below k that lies one less deep than x; -1: there is none. -/
def parD (d : Nat → Int) (x : Int) : Nat → Int
  | 0 => -1
  | k + 1 => if d k = x - 1 then (k : Int) else parD d x k

def par (d : Nat → Int) (i : Nat) : Int := parD d (d i) i

/-- From k on, how far all lies deeper than x. -/
def endD (d : Nat → Int) (x : Int) : Nat → Nat → Nat
  | 0, k => k
  | f + 1, k => if x < d k then endD d x f (k + 1) else k

def en (d : Nat → Int) (n i : Nat) : Nat := endD d (d i) (n - (i + 1)) (i + 1)

/-- The places below m that stand in i, if m is no farther than i's end. -/
def kidsTo (d : Nat → Int) (i m : Nat) : List Nat := (List.range m).filter fun c => decide (i < c) && decide (d c = d i + 1)

def kids (d : Nat → Int) (n i : Nat) : List Nat := kidsTo d i (en d n i)

theorem parD_neg (d : Nat → Int) (x : Int) : ∀ k, -1 ≤ parD d x k ∧ parD d x k < k
  | 0 => by simp [parD]
  | k + 1 => by
    have h := parD_neg d x k
    unfold parD
    split <;> omega

theorem par_bounds (d : Nat → Int) (i : Nat) : -1 ≤ par d i ∧ par d i < i := parD_neg d (d i) i

theorem parD_some (d : Nat → Int) (x : Int) : ∀ k (j : Nat), parD d x k = j → j < k ∧ d j = x - 1 ∧ ∀ m, j < m → m < k → d m ≠ x - 1
  | 0, j, h => by simp [parD] at h
  | k + 1, j, h => by
    unfold parD at h
    split at h
    · rename_i e
      have : k = j := by omega
      subst this
      exact ⟨by omega, e, fun m h1 h2 => by omega⟩
    · rename_i e
      obtain ⟨h1, h2, h3⟩ := parD_some d x k j h
      refine ⟨by omega, h2, fun m a b => ?_⟩
      by_cases hm : m = k
      · subst hm; exact e
      · exact h3 m a (by omega)

theorem parD_none (d : Nat → Int) (x : Int) : ∀ k, parD d x k = -1 → ∀ m, m < k → d m ≠ x - 1
  | 0, _, m, hm => by omega
  | k + 1, h, m, hm => by
    unfold parD at h
    split at h
    · omega
    · rename_i e
      by_cases hk : m = k
      · subst hk; exact e
      · exact parD_none d x k h m (by omega)

theorem parD_here (d : Nat → Int) (x : Int) (j k : Nat) (hj : j < k) (h : d j = x - 1) (hm : ∀ m, j < m → m < k → d m ≠ x - 1) : parD d x k = j := by
  induction k with
  | zero => omega
  | succ k ih =>
    unfold parD
    by_cases e : j = k
    · subst e; rw [if_pos h]
    · rw [if_neg (hm k (by omega) (by omega))]
      exact ih (by omega) (fun m a b => hm m a (by omega))

/-- Boxes that begin at 0, and go down by one at a time. -/
structure Shape (d : Nat → Int) (n : Nat) : Prop where
  pos : 0 < n
  zero : d 0 = 0
  step : ∀ k, 0 < k → k < n → 1 ≤ d k ∧ d k ≤ d (k - 1) + 1

theorem Shape.front {d : Nat → Int} {n m : Nat} (h : Shape d n) (h0 : 0 < m) (hm : m ≤ n) : Shape d m :=
  ⟨h0, h.zero, fun k a b => h.step k a (by omega)⟩

theorem Shape.nonneg {d : Nat → Int} {n : Nat} (h : Shape d n) (k : Nat) (hk : k < n) : 0 ≤ d k := by
  rcases Nat.eq_zero_or_pos k with e | e
  · subst e; rw [h.zero]; omega
  · have := h.step k e hk; omega

/-- Where none of the places from j on below i lies just one less deep, all lie as deep as i. -/
theorem Shape.deep {d : Nat → Int} {n : Nat} (h : Shape d n) (i j : Nat) (hi : i < n) (hm : ∀ m, j ≤ m → m < i → d m ≠ d i - 1) : ∀ f m, m + f + 1 = i → j ≤ m → d i ≤ d m := by
  intro f
  induction f with
  | zero =>
    intro m e hj
    have h1 := h.step i (by omega) hi
    have h2 := hm m hj (by omega)
    have e2 : i - 1 = m := by omega
    rw [e2] at h1
    omega
  | succ f ih =>
    intro m e hj
    have h1 := h.step (m + 1) (by omega) (by omega)
    have h2 := hm m hj (by omega)
    have h3 := ih (m + 1) (by omega) (by omega)
    simp only [Nat.add_sub_cancel] at h1
    omega

theorem Shape.deep' {d : Nat → Int} {n : Nat} (h : Shape d n) (i j : Nat) (hi : i < n) (hm : ∀ m, j ≤ m → m < i → d m ≠ d i - 1) (m : Nat) (h1 : j ≤ m) (h2 : m < i) : d i ≤ d m :=
  h.deep i j hi hm (i - m - 1) m (by omega) h1

theorem par_zero (d : Nat → Int) : par d 0 = -1 := rfl

theorem Shape.parent {d : Nat → Int} {n : Nat} (h : Shape d n) (i : Nat) (h0 : 0 < i) (hi : i < n) : ∃ p : Nat, par d i = p ∧ p < i ∧ d p = d i - 1 ∧ ∀ m, p < m → m < i → d i ≤ d m := by
  have hb := par_bounds d i
  by_cases e : par d i = -1
  · have h1 := parD_none d (d i) i e
    have h2 := h.deep' i 0 hi (fun m _ hm => h1 m hm) 0 (by omega) h0
    have h3 := h.step i h0 hi
    rw [h.zero] at h2
    omega
  · obtain ⟨p, hp⟩ : ∃ p : Nat, par d i = p := ⟨(par d i).toNat, by omega⟩
    obtain ⟨h1, h2, h3⟩ := parD_some d (d i) i p hp
    exact ⟨p, hp, h1, h2, fun m a b => h.deep' i (p + 1) hi (fun m a b => h3 m (by omega) b) m (by omega) b⟩

theorem endD_spec (d : Nat → Int) (x : Int) : ∀ f k, k ≤ endD d x f k ∧ endD d x f k ≤ k + f ∧ (∀ m, k ≤ m → m < endD d x f k → x < d m) ∧ (endD d x f k = k + f ∨ d (endD d x f k) ≤ x)
  | 0, k => by simp [endD]; intro m a b; omega
  | f + 1, k => by
    unfold endD
    split
    · rename_i h
      obtain ⟨h1, h2, h3, h4⟩ := endD_spec d x f (k + 1)
      refine ⟨by omega, by omega, fun m a b => ?_, ?_⟩
      · by_cases e : m = k
        · subst e; exact h
        · exact h3 m (by omega) b
      · rcases h4 with h4 | h4
        · exact .inl (by omega)
        · exact .inr h4
    · exact ⟨by omega, by omega, fun m a b => by omega, .inr (by omega)⟩

theorem en_spec (d : Nat → Int) (n i : Nat) (hi : i < n) : i < en d n i ∧ en d n i ≤ n ∧ (∀ m, i < m → m < en d n i → d i < d m) ∧ (en d n i = n ∨ d (en d n i) ≤ d i) := by
  obtain ⟨h1, h2, h3, h4⟩ := endD_spec d (d i) (n - (i + 1)) (i + 1)
  unfold en
  refine ⟨by omega, by omega, fun m a b => h3 m (by omega) b, ?_⟩
  rcases h4 with h4 | h4
  · exact .inl (by omega)
  · exact .inr h4

theorem en_here (d : Nat → Int) (n i e : Nat) (h1 : i < e) (h2 : e ≤ n) (h3 : ∀ m, i < m → m < e → d i < d m) (h4 : e = n ∨ d e ≤ d i) : en d n i = e := by
  obtain ⟨g1, g2, g3, g4⟩ := en_spec d n i (by omega)
  rcases Nat.lt_trichotomy (en d n i) e with h | h | h
  · have := h3 _ g1 h
    rcases g4 with g4 | g4 <;> omega
  · exact h
  · rcases h4 with h4 | h4
    · omega
    · have := g3 e h1 h; omega

theorem mem_kidsTo (d : Nat → Int) (i m c : Nat) : c ∈ kidsTo d i m ↔ c < m ∧ i < c ∧ d c = d i + 1 := by
  simp [kidsTo]

theorem kidsTo_next (d : Nat → Int) (i m : Nat) : kidsTo d i (m + 1) = kidsTo d i m ++ (if i < m ∧ d m = d i + 1 then [m] else []) := by
  unfold kidsTo
  rw [List.range_succ, List.filter_append]
  congr 1
  by_cases h : i < m ∧ d m = d i + 1
  · rw [if_pos h]; simp [h.1, h.2]
  · rw [if_neg h]
    simp only [List.filter_cons, List.filter_nil]
    rw [if_neg]
    simp only [Bool.and_eq_true, decide_eq_true_eq]
    exact h

theorem kidsTo_start (d : Nat → Int) (i : Nat) : kidsTo d i (i + 1) = [] := by
  unfold kidsTo
  rw [List.filter_eq_nil_iff]
  intro c hc
  simp at hc
  simp; omega

theorem mem_kids (d : Nat → Int) (n i c : Nat) : c ∈ kids d n i ↔ c < en d n i ∧ i < c ∧ d c = d i + 1 := mem_kidsTo d i _ c

/-- A box stands in another one just if that is its parent. -/
theorem Shape.kid_iff {d : Nat → Int} {n : Nat} (h : Shape d n) (i c : Nat) (hi : i < n) (hc : c < n) : c ∈ kids d n i ↔ par d c = i := by
  rw [mem_kids]
  obtain ⟨e1, e2, e3, e4⟩ := en_spec d n i hi
  constructor
  · rintro ⟨h1, h2, h3⟩
    exact parD_here d (d c) i c h2 (by omega) (fun m a b => by have := e3 m a (by omega); omega)
  · intro hp
    obtain ⟨h1, h2, h3⟩ := parD_some d (d c) c i hp
    refine ⟨?_, h1, by omega⟩
    obtain ⟨p, q1, q2, q3, q4⟩ := h.parent c (by omega) hc
    have : p = i := by rw [hp] at q1; omega
    subst this
    rcases Nat.lt_or_ge c (en d n p) with g | g
    · exact g
    · rcases e4 with e4 | e4
      · omega
      · by_cases hx : en d n p = c
        · rw [hx] at e4; omega
        · have := q4 (en d n p) e1 (by omega); omega

theorem kids_sorted (d : Nat → Int) (i m : Nat) : (kidsTo d i m).Pairwise (· < ·) := List.Pairwise.filter _ List.pairwise_lt_range

/-- What stands in a box ends no later than that. -/
theorem en_nest (d : Nat → Int) (n i c : Nat) (hi : i < n) (h1 : i < c) (h2 : c < en d n i) : en d n c ≤ en d n i := by
  obtain ⟨e1, e2, e3, e4⟩ := en_spec d n i hi
  obtain ⟨g1, g2, g3, g4⟩ := en_spec d n c (by omega)
  rcases Nat.lt_or_ge (en d n i) (en d n c) with h | h
  · have := e3 c h1 h2
    rcases e4 with e4 | e4
    · omega
    · have := g3 (en d n i) h2 h; omega
  · exact h

/-- The next one whose context is its own, from p on towards the first box. -/
def ctxN (d : Nat → Int) (o : Nat → Bool) (p : Nat) : Nat :=
  if _h : p = 0 then 0 else if o p then p else ctxN d o (par d p).toNat
termination_by p
decreasing_by have := par_bounds d p; omega

def ctx (d : Nat → Int) (o : Nat → Bool) (i : Nat) : Nat := ctxN d o (par d i).toNat

theorem ctxN_zero (d : Nat → Int) (o : Nat → Bool) : ctxN d o 0 = 0 := by rw [ctxN]; simp

theorem ctxN_open (d : Nat → Int) (o : Nat → Bool) (p : Nat) (h : o p = true) : ctxN d o p = p := by
  rw [ctxN]
  by_cases hp : p = 0
  · simp [hp]
  · simp [hp, h]

theorem ctxN_next (d : Nat → Int) (o : Nat → Bool) (p : Nat) (h : o p = false) : ctxN d o p = ctxN d o (par d p).toNat := by
  by_cases hp : p = 0
  · subst hp; rw [par_zero]; rfl
  · rw [ctxN]; simp [hp, h]

theorem ctxN_le (d : Nat → Int) (o : Nat → Bool) (p : Nat) : ctxN d o p ≤ p := by
  induction p using Nat.strongRecOn with
  | _ p ih =>
    by_cases hp : p = 0
    · subst hp; rw [ctxN_zero]; omega
    · by_cases h : o p = true
      · rw [ctxN_open d o p h]; omega
      · have hb := par_bounds d p
        rw [ctxN_next d o p (by simpa using h)]
        have := ih (par d p).toNat (by omega)
        omega

theorem ctx_lt (d : Nat → Int) (o : Nat → Bool) (i : Nat) (hi : 0 < i) : ctx d o i < i := by
  have := ctxN_le d o (par d i).toNat
  have := par_bounds d i
  unfold ctx; omega

theorem ctx_zero (d : Nat → Int) (o : Nat → Bool) : ctx d o 0 = 0 := by
  unfold ctx; rw [par_zero]; exact ctxN_zero d o

/-- A box ends no later than the one whose context it belongs to. -/
theorem Shape.ctxN_en {d : Nat → Int} {n : Nat} (h : Shape d n) (o : Nat → Bool) (p : Nat) (hp : p < n) : en d n p ≤ en d n (ctxN d o p) := by
  induction p using Nat.strongRecOn with
  | _ p ih =>
    by_cases h0 : p = 0
    · subst h0; rw [ctxN_zero]; exact Nat.le_refl _
    · by_cases ho : o p = true
      · rw [ctxN_open d o p ho]; exact Nat.le_refl _
      · obtain ⟨q, q1, q2, q3, q4⟩ := h.parent p (by omega) hp
        rw [ctxN_next d o p (by simpa using ho), q1]
        have hk := (h.kid_iff q p (by omega) hp).2 q1
        rw [mem_kids] at hk
        have h1 := en_nest d n q p (by omega) hk.2.1 hk.1
        have h2 := ih q q2 (by omega)
        simp only [Int.toNat_natCast]
        omega

theorem Shape.ctx_en {d : Nat → Int} {n : Nat} (h : Shape d n) (o : Nat → Bool) (i : Nat) (hi : i < n) : en d n i ≤ en d n (ctx d o i) := by
  by_cases h0 : i = 0
  · subst h0; rw [ctx_zero]; exact Nat.le_refl _
  · obtain ⟨q, q1, q2, q3, q4⟩ := h.parent i (by omega) hi
    have hk := (h.kid_iff q i (by omega) hi).2 q1
    rw [mem_kids] at hk
    have h1 := en_nest d n q i (by omega) hk.2.1 hk.1
    have h2 := h.ctxN_en o q (by omega)
    unfold ctx
    rw [q1]
    simp only [Int.toNat_natCast]
    omega

end Go.Proofs.Ytnmfgcdenngpfaa.Tree
