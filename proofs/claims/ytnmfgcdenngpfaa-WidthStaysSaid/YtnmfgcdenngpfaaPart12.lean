/- Texts of this proof that follow each other, in one file. -/
import Derived.Test.YtnmfgcdenngpfaaPart2
import Derived.Test.YtnmfgcdenngpfaaPart8
import Derived.Test.YtnmfgcdenngpfaaPart9
import Derived.Test.YtnmfgcdenngpfaaPart10
import Derived.Test.YtnmfgcdenngpfaaPart1
/-! How many boxes stand in the boxes of a tree, which is the first and which the last of them; no program is in it. -/
namespace Go.Proofs.Ytnmfgcdenngpfaa.Tree
open Go.Proofs.Ytnmfgcdenngpfaa.Record Go.Proofs.Ytnmfgcdenngpfaa.Script

theorem filter_range_cut (q : Nat → Bool) (e : Nat) : ∀ f, (∀ c, e ≤ c → c < e + f → q c = false) → (List.range (e + f)).filter q = (List.range e).filter q
  | 0, _ => rfl
  | f + 1, h => by
    rw [show e + (f + 1) = (e + f) + 1 by omega, List.range_succ, List.filter_append, filter_range_cut q e f (fun c a b => h c a (by omega))]
    have : q (e + f) = false := h _ (by omega) (by omega)
    simp [this]

theorem Shape.kids_eq {d : Nat → Int} {n : Nat} (h : Shape d n) (i : Nat) (hi : i < n) : kids d n i = (List.range n).filter fun c => decide (par d c = (i : Int)) := by
  obtain ⟨e1, e2, -, -⟩ := en_spec d n i hi
  obtain ⟨f, hf⟩ : ∃ f, n = en d n i + f := ⟨n - en d n i, by omega⟩
  have hcut : (List.range n).filter (fun c => decide (par d c = (i : Int))) = (List.range (en d n i)).filter (fun c => decide (par d c = (i : Int))) := by
    have := filter_range_cut (fun c => decide (par d c = (i : Int))) (en d n i) f (fun c a b => by
      rw [decide_eq_false_iff_not]
      intro hp
      have hk := (h.kid_iff i c hi (by omega)).2 hp
      rw [mem_kids] at hk
      omega)
    rw [← hf] at this
    exact this
  rw [hcut]
  unfold kids kidsTo
  refine List.filter_congr fun c hc => ?_
  have hc' : c < en d n i := List.mem_range.1 hc
  have hk := h.kid_iff i c hi (by omega)
  rw [mem_kids] at hk
  rw [Bool.eq_iff_iff]
  simp only [Bool.and_eq_true, decide_eq_true_eq]
  rw [← hk]
  constructor
  · rintro ⟨a, b⟩; exact ⟨hc', a, b⟩
  · rintro ⟨_, a, b⟩; exact ⟨a, b⟩

theorem countP_two {p q r : Nat → Bool} : ∀ l : List Nat, (∀ c, r c = (p c || q c)) → (∀ c, p c = true → q c = false) → l.countP r = l.countP p + l.countP q
  | [], _, _ => rfl
  | c :: l, h, g => by
    rw [List.countP_cons, List.countP_cons, List.countP_cons, countP_two l h g, h c]
    cases hp : p c <;> cases hq : q c
    · simp
    · simp; omega
    · simp; omega
    · rw [g c hp] at hq; cases hq

/-- How many boxes stand in the first k boxes. -/
def below (d : Nat → Int) (n k : Nat) : Nat := (List.range n).countP fun c => decide (0 ≤ par d c) && decide (par d c < (k : Int))

theorem below_zero (d : Nat → Int) (n : Nat) : below d n 0 = 0 := by
  unfold below
  rw [List.countP_eq_zero]
  intro c _
  simp only [Bool.and_eq_true, decide_eq_true_eq]
  omega

theorem Shape.below_next {d : Nat → Int} {n : Nat} (h : Shape d n) (k : Nat) (hk : k < n) : below d n (k + 1) = below d n k + (kids d n k).length := by
  rw [h.kids_eq k hk, ← List.countP_eq_length_filter]
  unfold below
  refine countP_two _ (fun c => ?_) (fun c hp => ?_)
  · rw [Bool.eq_iff_iff]
    simp only [Bool.and_eq_true, Bool.or_eq_true, decide_eq_true_eq]
    omega
  · simp only [Bool.and_eq_true, decide_eq_true_eq] at hp
    rw [decide_eq_false_iff_not]
    omega

theorem countP_pos : ∀ n, (List.range (n + 1)).countP (fun c => decide (0 < c)) = n
  | 0 => rfl
  | n + 1 => by
    rw [List.range_succ, List.countP_append, countP_pos n]
    simp

theorem Shape.below_all {d : Nat → Int} {n : Nat} (h : Shape d n) : below d n n = n - 1 := by
  have h0 := h.pos
  obtain ⟨m, rfl⟩ : ∃ m, n = m + 1 := ⟨n - 1, by omega⟩
  rw [show m + 1 - 1 = m by omega]
  refine Eq.trans ?_ (countP_pos m)
  unfold below
  refine List.countP_congr fun c hc => ?_
  have hc' := List.mem_range.1 hc
  simp only [Bool.and_eq_true, decide_eq_true_eq]
  have hb := par_bounds d c
  constructor
  · intro hp
    rcases Nat.eq_zero_or_pos c with e | e
    · subst e; rw [par_zero] at hp; omega
    · exact e
  · intro hc0
    obtain ⟨p, hp, -⟩ := h.parent c hc0 hc'
    omega

theorem Shape.below_le {d : Nat → Int} {n : Nat} (_h : Shape d n) (k : Nat) : below d n k ≤ n := by
  unfold below
  refine Nat.le_trans List.countP_le_length ?_
  rw [List.length_range]
  exact Nat.le_refl _

theorem Shape.en_zero {d : Nat → Int} {n : Nat} (h : Shape d n) : en d n 0 = n := by
  refine en_here d n 0 n h.pos (Nat.le_refl _) (fun m a b => ?_) (.inl rfl)
  have := h.step m a b
  rw [h.zero]; omega

theorem Shape.next_kid {d : Nat → Int} {n : Nat} (h : Shape d n) (i : Nat) (hi : i < n) (he : i + 1 < en d n i) : i + 1 ∈ kids d n i := by
  obtain ⟨e1, e2, e3, -⟩ := en_spec d n i hi
  rw [mem_kids]
  have h1 := e3 (i + 1) (by omega) he
  have h2 := h.step (i + 1) (by omega) (by omega)
  simp only [Nat.add_sub_cancel] at h2
  exact ⟨he, by omega, by omega⟩

theorem Shape.kids_nil {d : Nat → Int} {n : Nat} (h : Shape d n) (i : Nat) (hi : i < n) (hk : kids d n i = []) : en d n i = i + 1 := by
  obtain ⟨e1, -, -, -⟩ := en_spec d n i hi
  by_cases he : i + 1 < en d n i
  · have := h.next_kid i hi he
    rw [hk] at this
    cases this
  · omega

theorem Shape.kids_head {d : Nat → Int} {n : Nat} (h : Shape d n) (i : Nat) (hi : i < n) (hk : 0 < (kids d n i).length) : (kids d n i)[0]? = some (i + 1) := by
  have hs : (kids d n i).Pairwise (· < ·) := kids_sorted d i _
  cases hl : kids d n i with
  | nil => rw [hl] at hk; simp at hk
  | cons x l =>
    have hx : x ∈ kids d n i := by rw [hl]; simp
    rw [mem_kids] at hx
    have hn := h.next_kid i hi (by omega)
    rw [hl] at hn hs
    rw [List.mem_cons] at hn
    simp only [List.getElem?_cons_zero, Option.some.injEq]
    rcases hn with e | e
    · exact e.symm
    · have := (List.pairwise_cons.1 hs).1 _ e
      omega

theorem Shape.kids_last {d : Nat → Int} {n : Nat} (_h : Shape d n) (i c : Nat) (hi : i < n) (hk : (kids d n i)[(kids d n i).length - 1]? = some c) : c < n ∧ en d n c = en d n i := by
  have hs : (kids d n i).Pairwise (· < ·) := kids_sorted d i _
  have hx : c ∈ kids d n i := List.mem_of_getElem? hk
  rw [mem_kids] at hx
  obtain ⟨e1, e2, e3, e4⟩ := en_spec d n i hi
  have hcn : c < n := by omega
  obtain ⟨g1, g2, g3, g4⟩ := en_spec d n c hcn
  refine ⟨hcn, ?_⟩
  have hle := en_nest d n i c hi hx.2.1 hx.1
  rcases Nat.lt_or_ge (en d n c) (en d n i) with hlt | hge
  · have h1 := e3 (en d n c) (by omega) hlt
    rcases g4 with g4 | g4
    · omega
    · have hm : en d n c ∈ kids d n i := by rw [mem_kids]; exact ⟨hlt, by omega, by omega⟩
      obtain ⟨j, hj, hje⟩ := List.getElem_of_mem hm
      obtain ⟨hl, hle2⟩ := List.getElem?_eq_some_iff.1 hk
      have hjl : j ≤ (kids d n i).length - 1 := by omega
      rcases Nat.lt_or_ge j ((kids d n i).length - 1) with a | a
      · have := List.pairwise_iff_getElem.1 hs j _ hj hl a
        omega
      · have : j = (kids d n i).length - 1 := by omega
        subst this
        omega
  · omega

end Go.Proofs.Ytnmfgcdenngpfaa.Tree

/-! The front of a list of boxes: what stands where in it; no program is in it. -/
namespace Go.Proofs.Ytnmfgcdenngpfaa.Tree
open Go.Proofs.Ytnmfgcdenngpfaa.Record Go.Proofs.Ytnmfgcdenngpfaa.Script

theorem parD_congr {d d' : Nat → Int} (x : Int) : ∀ k, (∀ j, j < k → d j = d' j) → parD d x k = parD d' x k
  | 0, _ => rfl
  | k + 1, h => by
    unfold parD
    rw [h k (by omega), parD_congr x k (fun j hj => h j (by omega))]

theorem par_congr {d d' : Nat → Int} (i : Nat) (h : ∀ j, j ≤ i → d j = d' j) : par d i = par d' i := by
  unfold par
  rw [h i (Nat.le_refl _)]
  exact parD_congr _ i (fun j hj => h j (by omega))

theorem ctxN_congr {d d' : Nat → Int} {o o' : Nat → Bool} (p : Nat) (h : ∀ j, j ≤ p → d j = d' j) (g : ∀ j, j ≤ p → o j = o' j) : ctxN d o p = ctxN d' o' p := by
  induction p using Nat.strongRecOn with
  | _ p ih =>
    by_cases h0 : p = 0
    · subst h0; rw [ctxN_zero, ctxN_zero]
    · have hb := par_bounds d p
      cases ho : o p
      · rw [ctxN_next d o p ho, ctxN_next d' o' p (by rw [← g p (Nat.le_refl _)]; exact ho), ← par_congr p h]
        exact ih _ (by omega) (fun j hj => h j (by omega)) (fun j hj => g j (by omega))
      · rw [ctxN_open d o p ho, ctxN_open d' o' p (by rw [← g p (Nat.le_refl _)]; exact ho)]

theorem ctx_congr {d d' : Nat → Int} {o o' : Nat → Bool} (i : Nat) (h : ∀ j, j ≤ i → d j = d' j) (g : ∀ j, j ≤ i → o j = o' j) : ctx d o i = ctx d' o' i := by
  have hb := par_bounds d i
  unfold ctx
  rw [← par_congr i h]
  exact ctxN_congr _ (fun j hj => h j (by omega)) (fun j hj => g j (by omega))

theorem en_congr {d d' : Nat → Int} (n i : Nat) (hi : i < n) (h : ∀ j, j < n → d j = d' j) : en d n i = en d' n i := by
  obtain ⟨h1, h2, h3, h4⟩ := en_spec d' n i hi
  refine en_here d n i _ h1 h2 (fun m a b => by rw [h i hi, h m (by omega)]; exact h3 m a b) ?_
  rcases h4 with h4 | h4
  · exact .inl h4
  · by_cases e : en d' n i = n
    · exact .inl e
    · exact .inr (by rw [h i hi, h _ (by omega)]; exact h4)

theorem en_front (d : Nat → Int) (n m i : Nat) (hi : i < m) (hm : m ≤ n) : en d m i = min (en d n i) m := by
  obtain ⟨h1, h2, h3, h4⟩ := en_spec d n i (by omega)
  refine en_here d m i _ (by omega) (by omega) (fun k a b => h3 k a (by omega)) ?_
  by_cases e : m ≤ en d n i
  · exact .inl (by omega)
  · have e2 : min (en d n i) m = en d n i := by omega
    rw [e2]
    rcases h4 with h4 | h4
    · omega
    · exact .inr h4

theorem getD_take {bs : List Bx} {m k : Nat} (hk : k < m) : (bs.take m).getD k noB = bs.getD k noB := by
  simp only [List.getD, List.getElem?_take, if_pos hk]

theorem dOf_take {bs : List Bx} {m k : Nat} (hk : k < m) : dOf (bs.take m) k = dOf bs k := by
  unfold dOf; rw [getD_take hk]
theorem kOf_take {bs : List Bx} {m k : Nat} (hk : k < m) : kOf (bs.take m) k = kOf bs k := by
  unfold kOf; rw [getD_take hk]
theorem oOf_take {bs : List Bx} {m k : Nat} (hk : k < m) : oOf (bs.take m) k = oOf bs k := by
  unfold oOf; rw [getD_take hk]

theorem badAt_take {bs : List Bx} {m j : Nat} (hj : j < m) : badAt (bs.take m) j = badAt bs j := by
  have hb := par_bounds (dOf bs) j
  have hp : par (dOf (bs.take m)) j = par (dOf bs) j := par_congr j (fun k hk => dOf_take (by omega))
  unfold badAt
  rw [hp, getD_take hj, dOf_take hj, dOf_take (show j - 1 < m by omega), kOf_take hj, kOf_take (show (par (dOf bs) j).toNat < m by omega)]

theorem Fine.take {bs : List Bx} {n m : Nat} (h : Fine bs n) (hm : m ≤ n) : Fine (bs.take m) m := fun j hj => by
  rw [badAt_take hj]; exact h j (by omega)

theorem Boxes.take {w : Go.World} {B : Nat} {A : Option Go.Addr} {bs : List Bx} (h : Boxes w B A bs) (m : Nat) : Boxes w B A (bs.take m) := fun k hk => by
  rw [List.length_take] at hk
  rw [getD_take (by omega)]
  exact h k (by omega)

end Go.Proofs.Ytnmfgcdenngpfaa.Tree

/-! Lists of boxes that are alike but for what lies at the top and the bottom, or for the first one's width. No program is in it but the cells of a list of one's own. -/
namespace Go.Proofs.Ytnmfgcdenngpfaa.Width
open Go.RowKit Go.Proofs.Ytnmfgcdenngpfaa.Record Go.Proofs.Ytnmfgcdenngpfaa.Script Go.Proofs.Ytnmfgcdenngpfaa.Tree Go.Proofs.Ytnmfgcdenngpfaa.More

/-- Alike, but for the width, and for what lies at the top and the bottom. -/
structure Alike (b c : Bx) : Prop where
  d : c.d = b.d
  k : c.k = b.k
  m1 : c.m1 = b.m1
  m3 : c.m3 = b.m3
  e1 : c.e1 = b.e1
  e3 : c.e3 = b.e3

def AlikeL (bs cs : List Bx) (n : Nat) : Prop := ∀ j, j < n → Alike (bs.getD j noB) (cs.getD j noB)

section
variable {bs cs : List Bx} {n : Nat}

theorem alike_par (h : AlikeL bs cs n) {i : Nat} (hi : i < n) : par (dOf cs) i = par (dOf bs) i := par_congr i (fun j hj => (h j (by omega)).d)

theorem fine_alike (h : AlikeL bs cs n) (hg : ∀ j, j < n → pickN (brokenOf (cs.getD j noB)) = 0) (hr : rootB (cs.getD 0 noB) = true) (hf : Fine bs n) : Fine cs n := fun j hj => by
  have h1 := hf j hj
  have hc := hf.check hj
  have e1 : dOf cs j = dOf bs j := (h j hj).d
  have e2 : dOf cs (j - 1) = dOf bs (j - 1) := (h (j - 1) (by omega)).d
  have hb := par_bounds (dOf bs) j
  have e4 : kOf cs j = kOf bs j := (h j hj).k
  have e5 : kOf cs (par (dOf bs) j).toNat = kOf bs (par (dOf bs) j).toNat := (h _ (by omega)).k
  unfold badAt at h1 ⊢
  rw [hg j hj, if_neg (by simp)]
  rw [hc, if_neg (by simp)] at h1
  by_cases h0 : j = 0
  · rw [if_pos h0, h0, hr]; rfl
  · rw [if_neg h0] at h1 ⊢
    rw [alike_par h hj, e1, e2, e4, e5]
    exact h1

theorem left_alike (h : AlikeL bs cs n) : ∀ m i, i < m → i < n → lefD cs i = lefD bs i := by
  intro m
  induction m with
  | zero => intro i h; omega
  | succ m ih =>
    intro i hm hi
    have ha := h i hi
    have hb := par_bounds (dOf bs) i
    have hs : selfB (cs.getD i noB) = selfB (bs.getD i noB) := by unfold selfB; rw [ha.k]
    cases hv : selfB (bs.getD i noB)
    · by_cases hp : 0 ≤ par (dOf bs) i
      · obtain ⟨p, hp1⟩ : ∃ p : Nat, par (dOf bs) i = (p : Int) := ⟨(par (dOf bs) i).toNat, by omega⟩
        rw [lefD_in hv hp1, lefD_in (hs.trans hv) ((alike_par h hi).trans hp1), ih p (by omega) (by omega), ha.m3, ha.e3]
      · have hp' : ¬ 0 ≤ par (dOf cs) i := by rw [alike_par h hi]; exact hp
        rw [lefD_none hv (by omega), lefD_none (hs.trans hv) (by omega)]
    · rw [lefD_self hv, lefD_self (hs.trans hv)]

theorem side_alike {b c : Bx} (h : Alike b c) : sideZ c = sideZ b := by unfold sideZ; rw [h.m1, h.m3, h.e1, h.e3]
theorem con_alike {b c : Bx} (h : Alike b c) (hw : c.w = b.w) (x : Int) : conZ c x = conZ b x := by unfold conZ; rw [side_alike h, hw]
theorem con_mono (b : Bx) {x y : Int} (h : x ≤ y) : conZ b x ≤ conZ b y := by
  unfold conZ
  split
  · omega
  · split <;> split <;> omega

theorem wid_alike (h : AlikeL bs cs n) (hw : ∀ j, j < n → (cs.getD j noB).w = (bs.getD j noB).w) : ∀ m i, i < m → i < n → widD cs i = widD bs i := by
  intro m
  induction m with
  | zero => intro i h; omega
  | succ m ih =>
    intro i hm hi
    have hb := par_bounds (dOf bs) i
    by_cases hp : 0 ≤ par (dOf bs) i
    · obtain ⟨p, hp1⟩ : ∃ p : Nat, par (dOf bs) i = (p : Int) := ⟨(par (dOf bs) i).toNat, by omega⟩
      rw [widD_in hp1, widD_in ((alike_par h hi).trans hp1), ih p (by omega) (by omega), con_alike (h i hi) (hw i hi)]
    · rw [widD_top (show par (dOf bs) i < 0 by omega), widD_top (show par (dOf cs) i < 0 by rw [alike_par h hi]; omega), hw i hi]

theorem wid_more (hs : Shape (dOf bs) n) (h : AlikeL bs cs n) (h0 : (bs.getD 0 noB).w ≤ (cs.getD 0 noB).w) (hw : ∀ j, 0 < j → j < n → (cs.getD j noB).w = (bs.getD j noB).w) : ∀ m i, i < m → i < n → widD bs i ≤ widD cs i := by
  intro m
  induction m with
  | zero => intro i h; omega
  | succ m ih =>
    intro i hm hi
    have hb := par_bounds (dOf bs) i
    rcases Nat.eq_zero_or_pos i with hi0 | hi0
    · subst hi0
      have hb2 := par_bounds (dOf cs) 0
      rw [widD_top (show par (dOf bs) 0 < 0 by omega), widD_top (show par (dOf cs) 0 < 0 by omega)]
      exact h0
    · obtain ⟨p, hp1, hpi, -, -⟩ := hs.parent i hi0 hi
      have hp : par (dOf bs) i = (p : Int) := hp1
      rw [widD_in hp, widD_in ((alike_par h hi).trans hp), con_alike (h i hi) (hw i hi0 hi)]
      exact con_mono _ (ih p (by omega) (by omega))

theorem sps_alike (h : AlikeL bs cs bs.length) (hw : ∀ j, j < bs.length → (cs.getD j noB).w = (bs.getD j noB).w) {i : Nat} (hi : i < bs.length) : lefD cs i = lefD bs i ∧ widD cs i = widD bs i :=
  ⟨left_alike h (i + 1) i (by omega) hi, wid_alike h hw (i + 1) i (by omega) hi⟩
end

/-- Another height, and other margins at the top and the bottom (but of the first one, and of an Atom). -/
def heiB (v : Int) (j : Nat) (b : Bx) : Bx := if 0 < j ∧ b.k ≠ 5 then { b with h := v, m0 := v, m2 := -v } else { b with h := v }

/-- The first k boxes have been turned. -/
def partH (bs : List Bx) (v : Int) (k : Nat) : List Bx := (List.range bs.length).map fun j => if j < k then heiB v j (bs.getD j noB) else bs.getD j noB

theorem partH_len (bs : List Bx) (v : Int) (k : Nat) : (partH bs v k).length = bs.length := by simp [partH]
theorem partH_at {bs : List Bx} {v : Int} {k j : Nat} (hj : j < bs.length) : (partH bs v k)[j]? = some (if j < k then heiB v j (bs.getD j noB) else bs.getD j noB) := by
  simp [partH, hj]
theorem partH_getD {bs : List Bx} {v : Int} {k j : Nat} (hj : j < bs.length) : (partH bs v k).getD j noB = if j < k then heiB v j (bs.getD j noB) else bs.getD j noB := by
  rw [List.getD_eq_getElem?_getD, partH_at hj]; rfl
theorem partH_zero (bs : List Bx) (v : Int) : partH bs v 0 = bs := by
  refine List.ext_getElem? fun j => ?_
  by_cases hj : j < bs.length
  · rw [partH_at hj, if_neg (by omega), List.getElem?_eq_getElem hj, List.getD_eq_getElem?_getD, List.getElem?_eq_getElem hj]; rfl
  · rw [List.getElem?_eq_none (by rw [partH_len]; omega), List.getElem?_eq_none (by omega)]
theorem partH_step {bs : List Bx} {v : Int} {k : Nat} (hk : k < bs.length) : partH bs v (k + 1) = (partH bs v k).set k (heiB v k (bs.getD k noB)) := by
  refine List.ext_getElem? fun j => ?_
  by_cases hj : j < bs.length
  · rw [partH_at hj]
    by_cases e : j = k
    · subst e
      rw [if_pos (by omega), List.getElem?_set_self (by rw [partH_len]; exact hj)]
    · rw [List.getElem?_set_ne (fun h => e h.symm), partH_at hj]
      by_cases h2 : j < k
      · rw [if_pos (by omega), if_pos h2]
      · rw [if_neg (by omega), if_neg h2]
  · rw [List.getElem?_eq_none (by rw [partH_len]; omega), List.getElem?_eq_none (by rw [List.length_set, partH_len]; omega)]

theorem hei_alike (v : Int) (j : Nat) (b : Bx) : Alike b (heiB v j b) ∧ (heiB v j b).w = b.w := by
  unfold heiB
  split <;> exact ⟨⟨rfl, rfl, rfl, rfl, rfl, rfl⟩, rfl⟩

theorem big_no {x : Int} (h1 : -268435456 ≤ x) (h2 : x ≤ 268435456) : bigB x = false := bey_no.2 ⟨h1, h2⟩

theorem hei_good {v : Int} (hv : 0 ≤ v ∧ v ≤ 255) (j : Nat) {b : Bx} (h : pickN (brokenOf b) = 0) : pickN (brokenOf (heiB v j b)) = 0 := by
  have g := (good_iff b).1 h
  have hbv : bigB v = false := big_no (by omega) (by omega)
  have hbn : bigB (-v) = false := big_no (by omega) (by omega)
  have hz : sizeB b.k b.w v = false := by
    have h1 := g.z
    unfold sizeB at h1 ⊢
    simp only [Bool.or_eq_false_iff, decide_eq_false_iff_not] at h1 ⊢
    refine ⟨⟨⟨h1.1.1.1, by omega⟩, h1.1.2⟩, ?_⟩
    have : (v == -1) = false := by rw [beq_eq_false_iff_ne]; omega
    rw [this]; rfl
  have hw : (bigB b.w || bigB v) = false := by
    have h1 := g.wh
    simp only [Bool.or_eq_false_iff] at h1 ⊢
    exact ⟨h1.1, hbv⟩
  refine (good_iff _).2 ?_
  unfold heiB
  split
  · rename_i hc
    have hk5 : (b.k == 5) = false := by rw [beq_eq_false_iff_ne]; exact hc.2
    refine ⟨g.k, hw, ?_, g.e, g.s, g.c, g.c5, hz, ?_, g.be, g.d⟩
    · have h1 := g.m
      simp only [List.any_cons, List.any_nil, Bool.or_false, Bool.or_eq_false_iff] at h1 ⊢
      exact ⟨hbv, h1.2.1, hbn, h1.2.2.2⟩
    · show [v, b.m1, -v, b.m3].any (badM (b.k == 5)) = false
      rw [hk5]
      simp [badM]
  · exact ⟨g.k, hw, g.m, g.e, g.s, g.c, g.c5, hz, g.bm, g.be, g.d⟩

theorem hei_root {v : Int} {b : Bx} (h : rootB b = true) : rootB (heiB v 0 b) = true := by
  unfold heiB
  rw [if_neg (by omega)]
  exact h

theorem hei_ok {v : Int} (hv : 0 ≤ v ∧ v ≤ 255) (j : Nat) {b : Bx} (h : OkB b) : OkB (heiB v j b) := by
  unfold heiB
  split
  all_goals
    intro x hx
    simp only [List.mem_cons, List.not_mem_nil, or_false] at hx
    rcases hx with hx | hx | hx | hx | hx | hx | hx | hx | hx | hx | hx | hx | hx | hx
    all_goals first
      | (refine h x ?_; rw [hx]; simp; done)
      | (subst hx; refine WalkArith.wf_i64 ?_; omega)

theorem wide_ok {v : Int} (hv : 0 ≤ v ∧ v ≤ 268435456) {b : Bx} (h : OkB b) : OkB { b with w := v } := by
  intro x hx
  simp only [List.mem_cons, List.not_mem_nil, or_false] at hx
  rcases hx with hx | hx | hx | hx | hx | hx | hx | hx | hx | hx | hx | hx | hx | hx
  all_goals first
    | (refine h x ?_; rw [hx]; simp; done)
    | (subst hx; refine WalkArith.wf_i64 ?_; omega)

theorem getD_mem {bs : List Bx} {j : Nat} (hj : j < bs.length) : bs.getD j noB ∈ bs := by
  simp only [List.getD, List.getElem?_eq_getElem hj, Option.getD_some]
  exact List.getElem_mem hj

theorem partH_ok {bs : List Bx} (h : ∀ b ∈ bs, OkB b) {v : Int} (hv : 0 ≤ v ∧ v ≤ 255) (k : Nat) : ∀ b ∈ partH bs v k, OkB b := by
  intro b hb
  unfold partH at hb
  rw [List.mem_map] at hb
  obtain ⟨j, hj, rfl⟩ := hb
  have ho := h _ (getD_mem (List.mem_range.1 hj))
  split
  · exact hei_ok hv j ho
  · exact ho

/-- What the turned list is. -/
theorem partH_all {bs : List Bx} {v : Int} (hv : 0 ≤ v ∧ v ≤ 255) (h0 : 0 < bs.length) (hf : Fine bs bs.length) :
    AlikeL bs (partH bs v bs.length) bs.length ∧ (∀ j, j < bs.length → ((partH bs v bs.length).getD j noB).w = (bs.getD j noB).w) ∧ Fine (partH bs v bs.length) bs.length := by
  have hg : ∀ j, j < bs.length → (partH bs v bs.length).getD j noB = heiB v j (bs.getD j noB) := fun j hj => by rw [partH_getD hj, if_pos hj]
  have h1 : AlikeL bs (partH bs v bs.length) bs.length := fun j hj => by rw [hg j hj]; exact (hei_alike v j _).1
  refine ⟨h1, fun j hj => by rw [hg j hj]; exact (hei_alike v j _).2, fine_alike h1 (fun j hj => by rw [hg j hj]; exact hei_good hv j (hf.check hj)) ?_ hf⟩
  rw [hg 0 h0]
  exact hei_root (hf.root h0)

/-- A first box that is wider. -/
def wideL (bs : List Bx) (v : Int) : List Bx := bs.set 0 { bs.getD 0 noB with w := v }

theorem wideL_len (bs : List Bx) (v : Int) : (wideL bs v).length = bs.length := by simp [wideL]
theorem wideL_zero {bs : List Bx} {v : Int} (h : 0 < bs.length) : (wideL bs v).getD 0 noB = { bs.getD 0 noB with w := v } := by
  unfold wideL
  rw [List.getD_eq_getElem?_getD, List.getElem?_set_self h]; rfl
theorem wideL_pos {bs : List Bx} {v : Int} {j : Nat} (h : 0 < j) : (wideL bs v).getD j noB = bs.getD j noB := by
  unfold wideL
  rw [List.getD_eq_getElem?_getD, List.getElem?_set_ne (by omega), ← List.getD_eq_getElem?_getD]

theorem wide_good {b : Bx} {v : Int} (h : pickN (brokenOf b) = 0) (hv : 0 ≤ v ∧ v ≤ 268435456) : pickN (brokenOf { b with w := v }) = 0 := by
  have g := (good_iff b).1 h
  refine (good_iff _).2 ⟨g.k, ?_, g.m, g.e, g.s, g.c, g.c5, ?_, g.bm, g.be, g.d⟩
  · have h1 := g.wh
    simp only [Bool.or_eq_false_iff] at h1 ⊢
    exact ⟨big_no (by omega) hv.2, h1.2⟩
  · have h1 := g.z
    unfold sizeB at h1 ⊢
    simp only [Bool.or_eq_false_iff, decide_eq_false_iff_not] at h1 ⊢
    refine ⟨⟨⟨by omega, h1.1.1.2⟩, ?_⟩, h1.2⟩
    have : (v == -1) = false := by rw [beq_eq_false_iff_ne]; omega
    rw [this]; rfl

theorem wideL_ok {bs : List Bx} (h : ∀ b ∈ bs, OkB b) {v : Int} (hv : 0 ≤ v ∧ v ≤ 268435456) (h0 : 0 < bs.length) : ∀ b ∈ wideL bs v, OkB b := by
  intro b hb
  unfold wideL at hb
  rcases List.mem_or_eq_of_mem_set hb with hb | rfl
  · exact h b hb
  · exact wide_ok hv (h _ (getD_mem h0))

theorem wideL_all {bs : List Bx} {v : Int} (hv : 0 ≤ v ∧ v ≤ 268435456) (h0 : 0 < bs.length) (hf : Fine bs bs.length) :
    AlikeL bs (wideL bs v) bs.length ∧ (∀ j, 0 < j → j < bs.length → ((wideL bs v).getD j noB).w = (bs.getD j noB).w) ∧ ((wideL bs v).getD 0 noB).w = v ∧ Fine (wideL bs v) bs.length := by
  have h1 : AlikeL bs (wideL bs v) bs.length := fun j hj => by
    rcases Nat.eq_zero_or_pos j with h | h
    · subst h; rw [wideL_zero h0]; exact ⟨rfl, rfl, rfl, rfl, rfl, rfl⟩
    · rw [wideL_pos h]; exact ⟨rfl, rfl, rfl, rfl, rfl, rfl⟩
  refine ⟨h1, fun j hj _ => by rw [wideL_pos hj], by rw [wideL_zero h0], fine_alike h1 (fun j hj => ?_) ?_ hf⟩
  · rcases Nat.eq_zero_or_pos j with h | h
    · subst h; rw [wideL_zero h0]; exact wide_good (hf.check h0) hv
    · rw [wideL_pos h]; exact hf.check hj
  · rw [wideL_zero h0]
    have hr := hf.root h0
    unfold rootB at hr ⊢
    simp only [Bool.and_eq_true, Bool.not_eq_true', decide_eq_false_iff_not] at hr ⊢
    exact ⟨⟨⟨hr.1.1.1, by omega⟩, hr.1.2⟩, hr.2⟩

def encBx : Enc Bx := ⟨14, cellsOfB, fun _ => rfl, fun x u h => flat_cells [x] u (by simpa using h), by omega⟩

/-- A number of a box in a list of one's own, turned. -/
theorem mineB_turn {T : TypeId} {w : World} {B g n c k j : Nat} {bs : List Bx} (h : MineB T w B (some ⟨g, 0, none⟩) n c bs) (b b' : Bx) (hb : bs[k]? = some b) (hj : j < 14) (u : Value) (hc : cellsOfB b' = (cellsOfB b).set j u) :
    MineB T (w.setCell ⟨g, k * 14 + j, none⟩ u) B (some ⟨g, 0, none⟩) n c (bs.set k b') :=
  (MineE.stored (E := encBx) h k b b' hb j hj u hc).1

end Go.Proofs.Ytnmfgcdenngpfaa.Width

/-! A law on regions that draw their order, over any program: operations that look at no memory, and one store among them, in whichever order, ahead of a forced tail. -/
namespace Go.Proofs.Ytnmfgcdenngpfaa.More
open Go.RowKit Go.Sort Go.Proofs.Ytnmfgcdenngpfaa.More.Hold

namespace HoldS

structure HeadOkS (l : List Oper) (n st size : Nat) : Prop where
  dst : ∀ i o, i < n → i ≠ st → l[i]? = some o → ∃ d, o.dst = some d ∧ d < size
  non : ∀ o, st < n → l[st]? = some o → o.dst = none
  back : ∀ i o, i < n → l[i]? = some o → ∀ e ∈ o.after, Region.binds .any e = true → e.on < i
  apart : ∀ i j o p d, i < n → j < n → l[i]? = some o → l[j]? = some p → i ≠ j → o.dst = some d → p.dst ≠ some d
  looks : ∀ i j o p d, i < n → j < n → l[i]? = some o → l[j]? = some p → p.dst = some d → d ∈ o.looksAt l.toArray → ∃ e ∈ o.after, Region.binds .any e = true ∧ e.on = j
  there : ∀ i, i < n → ∃ o, l[i]? = some o ∧ o.guard = none

def headS (l : List Oper) (n st size : Nat) : Bool :=
  (List.range n).all fun i => match l[i]? with
    | none => false
    | some o => o.guard.isNone && (match o.dst with | none => i == st | some d => i != st && decide (d < size)) && (o.after.all fun e => !Region.binds .any e || decide (e.on < i)) &&
      (List.range n).all fun j => match l[j]? with
        | none => false
        | some p => (decide (i = j) || (match o.dst with | none => true | some d => p.dst != some d)) &&
          (match p.dst with | none => true | some d => !(o.looksAt l.toArray).contains d || o.after.any (fun e => Region.binds .any e && e.on == j))

theorem headOkS {l : List Oper} {n st size : Nat} (h : headS l n st size = true) : HeadOkS l n st size := by
  have key : ∀ i, i < n → ∃ o, l[i]? = some o ∧ o.guard = none ∧ (i ≠ st → ∃ d, o.dst = some d ∧ d < size) ∧ (i = st → o.dst = none) ∧ (∀ e ∈ o.after, Region.binds .any e = true → e.on < i) ∧
      ∀ j, j < n → ∃ p, l[j]? = some p ∧ (i ≠ j → ∀ d, o.dst = some d → p.dst ≠ some d) ∧ ∀ d, p.dst = some d → d ∈ o.looksAt l.toArray → ∃ e ∈ o.after, Region.binds .any e = true ∧ e.on = j := by
    intro i hi
    have h1 := List.all_eq_true.1 h i (List.mem_range.2 hi)
    cases ho : l[i]? with
    | none => rw [ho] at h1; cases h1
    | some o =>
      rw [ho] at h1
      simp only [Bool.and_eq_true] at h1
      obtain ⟨⟨⟨hg, hd⟩, ha⟩, hj⟩ := h1
      refine ⟨o, rfl, by simpa using hg, ?_, ?_, ?_, ?_⟩
      · intro hne
        cases hdd : o.dst with
        | none => rw [hdd] at hd; exact absurd (by simpa using hd) hne
        | some d => rw [hdd] at hd; exact ⟨d, rfl, by simpa using (by simpa using hd : _ ∧ _).2⟩
      · intro he
        cases hdd : o.dst with
        | none => rfl
        | some d => rw [hdd] at hd; simp [he] at hd
      · intro e he hb
        have := Array.all_eq_true'.1 ha e he
        rw [hb] at this
        simpa using this
      · intro j hjn
        have h2 := List.all_eq_true.1 hj j (List.mem_range.2 hjn)
        cases hp : l[j]? with
        | none => rw [hp] at h2; cases h2
        | some p =>
          rw [hp] at h2
          simp only [Bool.and_eq_true] at h2
          obtain ⟨h3, h4⟩ := h2
          refine ⟨p, rfl, fun hne d hdd => ?_, fun d hpd hm => ?_⟩
          · rw [hdd] at h3
            rcases Bool.or_eq_true_iff.1 h3 with h5 | h5
            · exact absurd (by simpa using h5) hne
            · simpa using h5
          · rw [hpd] at h4
            rcases Bool.or_eq_true_iff.1 h4 with h5 | h5
            · have : (o.looksAt l.toArray).contains d = true := by simpa using hm
              rw [this] at h5; cases h5
            · obtain ⟨e, he, he2⟩ := Array.any_eq_true'.1 h5
              simp only [Bool.and_eq_true, beq_iff_eq] at he2
              exact ⟨e, he, he2⟩
  refine ⟨?_, ?_, ?_, ?_, ?_, ?_⟩
  · intro i o hi hne ho; obtain ⟨o', ho', _, h2, _⟩ := key i hi; rw [ho] at ho'; cases ho'; exact h2 hne
  · intro o hi ho; obtain ⟨o', ho', _, _, h2, _⟩ := key st hi; rw [ho] at ho'; cases ho'; exact h2 rfl
  · intro i o hi ho; obtain ⟨o', ho', _, _, _, h2, _⟩ := key i hi; rw [ho] at ho'; cases ho'; exact h2
  · intro i j o p d hi hj ho hp hne hd; obtain ⟨o', ho', _, _, _, _, h2⟩ := key i hi; rw [ho] at ho'; cases ho'
    obtain ⟨p', hp', h3, _⟩ := h2 j hj; rw [hp] at hp'; cases hp'; exact h3 hne d hd
  · intro i j o p d hi hj ho hp hd hm; obtain ⟨o', ho', _, _, _, _, h2⟩ := key i hi; rw [ho] at ho'; cases ho'
    obtain ⟨p', hp', _, h3⟩ := h2 j hj; rw [hp] at hp'; cases hp'; exact h3 d hd hm
  · intro i hi; obtain ⟨o', ho', h2, _⟩ := key i hi; exact ⟨o', ho', h2⟩

/-- What an operation leaves: one that looks at no memory, or the store. -/
def leavesS (P : Program) (o : Oper) (a : Act) (W : World) (f : World → World) : Leave → Prop
  | .val v => ∀ w, (execOp a.eval o).run P w = .ok (.value v) w
  | .some _ => False
  | .skip => ∀ w, Below W.heap.size W w → (execOp a.eval o).run P w = .ok .skip (f w)

def allLeaveS (P : Program) (a : Act) (W : World) (f : World → World) : List Oper → List Leave → Prop
  | o :: os, y :: ys => leavesS P o a W f y ∧ allLeaveS P a W f os ys
  | _, _ => True

theorem allLeaveS_at {P : Program} {a : Act} {W : World} {f : World → World} : ∀ {os : List Oper} {ys : List Leave} {i : Nat} {o : Oper} {y : Leave}, allLeaveS P a W f os ys → os[i]? = some o → ys[i]? = some y → leavesS P o a W f y
  | o :: os, y :: ys, 0, _, _, h, h1, h2 => by
    simp only [List.getElem?_cons_zero, Option.some.injEq] at h1 h2; subst h1 h2; exact h.1
  | o :: os, y :: ys, i + 1, _, _, h, h1, h2 => by
    simp only [List.getElem?_cons_succ] at h1 h2; exact allLeaveS_at h.2 h1 h2
  | [], _, _, _, _, _, h1, _ => by simp at h1
  | _ :: _, [], _, _, _, _, _, h2 => by simp at h2

structure TellS (l : List Oper) (ys : List Leave) (st : Nat) (a0 : Act) (W : World) (f : World → World) (listed : Array Bool) (a : Act) (w : World) : Prop where
  size : a.tmps.size = a0.tmps.size
  defers : a.defers = a0.defers
  world : if listed.getD st false then ∃ w0, Below W.heap.size W w0 ∧ w = f w0 else Below W.heap.size W w
  other : ∀ t, (∀ i o, i < ys.length → l[i]? = some o → listed.getD i false = true → o.dst ≠ some t) → a.tmps.getD t undef = a0.tmps.getD t undef
  slot : ∀ i o y d, l[i]? = some o → ys[i]? = some y → listed.getD i false = true → o.dst = some d → a.tmps.getD d undef = y.value undef

section
variable {P : Program} {l : List Oper} {ys : List Leave} {st : Nat} {a0 : Act} {W : World} {f : World → World}

theorem TellS.same {listed : Array Bool} {a : Act} {w : World} (ok : HeadOkS l ys.length st a0.tmps.size) (h : TellS l ys st a0 W f listed a w) (hs : Region.noSelect l.toArray = true) {i : Nat} {o : Oper} (hi : i < ys.length) (ho : l[i]? = some o)
    (hd : ∀ e ∈ o.after, Region.binds .any e = true → listed.getD e.on false = true) : execOp a.eval o = execOp (fill (fun _ => undef) 0 l ys a0).eval o := by
  have hsel : ∀ cs b, o.op ≠ .select cs b := fun cs b => Region.noSelect_spec hs i o cs b (by simpa using ho)
  refine execOp_congr o hsel fun x hx => ?_
  cases x with
  | tmp t =>
    have hm : t ∈ o.looksAt l.toArray := List.mem_append_left _ (List.mem_filterMap.2 ⟨.tmp t, by simpa using hx, rfl⟩)
    rw [eval_tmp, eval_tmp]
    by_cases hex : ∃ j p, j < ys.length ∧ l[j]? = some p ∧ p.dst = some t
    · obtain ⟨j, p, hj, hp, hpt⟩ := hex
      obtain ⟨e, he, hb, hon⟩ := ok.looks i j o p t hi hj ho hp hpt hm
      have hlj : listed.getD j false = true := by rw [← hon]; exact hd e he hb
      have hy : ys[j]? = some ys[j] := by simp [hj]
      have hjs : j ≠ st := fun e => by subst e; rw [ok.non p hj hp] at hpt; cases hpt
      obtain ⟨d, hd1, hd2⟩ := ok.dst j p hj hjs hp
      have htd : t = d := by rw [hd1] at hpt; exact (Option.some.inj hpt).symm
      rw [h.slot j p _ t hp hy hlj hpt, fill_slot (fun _ => undef) t 0 l ys a0 j p _ (by rw [htd]; exact hd2) hp hy hpt (fun k q hk hkj hq e => ok.apart j k p q t hj hk hp hq (Ne.symm hkj) hpt e)]
    · rw [h.other t (fun j p hj hp _ e => hex ⟨j, p, hj, hp, e⟩), fill_other (fun _ => undef) t 0 l ys a0 (fun j p hj hp e => hex ⟨j, p, hj, hp, e⟩)]
  | _ => rfl

theorem TellS.more {listed : Array Bool} {a : Act} {w w' : World} {i : Nat} {o : Oper} {y : Leave} {v : Value} (ok : HeadOkS l ys.length st a0.tmps.size) (h : TellS l ys st a0 W f listed a w) (hi : i < ys.length) (ho : l[i]? = some o) (hy : ys[i]? = some y)
    (hin : i < listed.size) (hun : listed.getD i false = false) (hv : i ≠ st → v = y.value undef) (hw : if (listed.setIfInBounds i true).getD st false then ∃ w0, Below W.heap.size W w0 ∧ w' = f w0 else Below W.heap.size W w') :
    TellS l ys st a0 W f (listed.setIfInBounds i true) (a.put o.dst v) w' := by
  have hset : (listed.setIfInBounds i true).getD i false = true := by simp [hin]
  refine ⟨by rw [put_size, h.size], by rw [put_defers, h.defers], hw, ?_, ?_⟩
  · intro t ht
    rw [put_other _ _ _ _ (ht i o hi ho hset)]
    refine h.other t fun j p hj hp hl => ht j p hj hp ?_
    by_cases hij : i = j
    · subst hij; rw [hun] at hl; cases hl
    · rw [getD_set_ne false hij]; exact hl
  · intro j p z t hp hyj hl ht
    have hj : j < ys.length := (List.getElem?_eq_some_iff.1 hyj).1
    by_cases hij : j = i
    · subst hij
      rw [ho] at hp; cases hp
      rw [hy] at hyj; cases hyj
      have hjs : j ≠ st := fun e => by subst e; rw [ok.non o hj ho] at ht; cases ht
      obtain ⟨d, hd1, hd2⟩ := ok.dst j o hj hjs ho
      rw [hd1] at ht; cases ht
      rw [hd1, put_slot _ _ _ (by rw [h.size]; exact hd2), hv hjs]
    · rcases getD_set_cases hl with e | hl'
      · exact absurd e hij
      · rw [put_other _ _ _ _ (fun e => ok.apart j i p o t hj hi hp ho hij ht e), h.slot j p z t hp hyj hl' ht]

theorem TellS.step {listed : Array Bool} {a : Act} {w : World} {Q : Exit → Act → World → Prop} (ok : HeadOkS l ys.length st a0.tmps.size) (h : TellS l ys st a0 W f listed a w) (hs : Region.noSelect l.toArray = true) (hst : ∀ i y, ys[i]? = some y → (y = .skip ↔ i = st))
    (hall : allLeaveS P (fill (fun _ => undef) 0 l ys a0) W f l ys) (hsz : listed.size = l.toArray.size) {i : Nat} (hi : i < ys.length) (hr : i ∈ Region.ready .any l.toArray listed) :
    wpOp P l.toArray Q i (fun a' w' => TellS l ys st a0 W f (listed.setIfInBounds i true) a' w') a w := by
  obtain ⟨hun, o, ho, hdep⟩ := mem_ready.1 hr
  have ho' : l[i]? = some o := by simpa using ho
  have hy : ys[i]? = some ys[i] := by simp [hi]
  have hsame := h.same ok hs hi ho' hdep
  have hY := allLeaveS_at hall ho' hy
  have hun' : listed.getD i false = false := getD_both hun
  have hin : i < listed.size := by
    rw [hsz]; simpa using (List.getElem?_eq_some_iff.1 ho').1
  have hg : o.guard = none := by
    obtain ⟨o2, h2, h3⟩ := ok.there i hi
    rw [ho'] at h2; cases h2; exact h3
  have hw : Region.wanted o (yielded l.toArray a.tmps) = true := by simp [Region.wanted, hg]
  have hsk := hst i _ hy
  unfold wpOp
  simp only [ho, hw, if_true]
  left
  unfold Oper.wp
  rw [hsame]
  revert hY
  generalize hyi : ys[i] = y at *
  have hW := h.world
  cases y with
  | val v =>
    intro hY
    have hne : i ≠ st := fun e => by have := hsk.2 e; cases this
    rw [hY w]
    simp only [Oper.upon]
    refine h.more ok hi ho' hy hin hun' (fun _ => rfl) ?_
    rw [getD_set_ne false hne]
    exact hW
  | some R => intro hY; exact hY.elim
  | skip =>
    intro hY
    have he := hsk.1 rfl
    subst he
    rw [hun'] at hW
    rw [hY w hW]
    simp only [Oper.upon]
    have hl : (listed.setIfInBounds i true).getD i false = true := by simp [hin]
    have hm := h.more (v := undef) (w' := f w) ok hi ho' hy hin hun' (fun e => absurd rfl e) (by rw [hl]; exact ⟨w, hW, rfl⟩)
    exact hm

theorem TellS.full {listed : Array Bool} {a : Act} {w : World} (ok : HeadOkS l ys.length st a0.tmps.size) (h : TellS l ys st a0 W f listed a w) (hl : ∀ i, i < ys.length → listed.getD i false = true) : a = fill (fun _ => undef) 0 l ys a0 := by
  have hsz : a.tmps.size = (fill (fun _ => undef) 0 l ys a0).tmps.size := by rw [fill_size, h.size]
  have hslot : ∀ t, a.tmps.getD t undef = (fill (fun _ => undef) 0 l ys a0).tmps.getD t undef := by
    intro t
    by_cases hex : ∃ j p, j < ys.length ∧ l[j]? = some p ∧ p.dst = some t
    · obtain ⟨j, p, hj, hp, hpt⟩ := hex
      have hy : ys[j]? = some ys[j] := by simp [hj]
      have hjs : j ≠ st := fun e => by subst e; rw [ok.non p hj hp] at hpt; cases hpt
      obtain ⟨d, hd1, hd2⟩ := ok.dst j p hj hjs hp
      have htd : t = d := by rw [hd1] at hpt; exact (Option.some.inj hpt).symm
      rw [h.slot j p _ t hp hy (hl j hj) hpt, fill_slot (fun _ => undef) t 0 l ys a0 j p _ (by rw [htd]; exact hd2) hp hy hpt (fun k q hk hkj hq e => ok.apart j k p q t hj hk hp hq (Ne.symm hkj) hpt e)]
    · rw [h.other t (fun j p hj hp _ e => hex ⟨j, p, hj, hp, e⟩), fill_other (fun _ => undef) t 0 l ys a0 (fun j p hj hp e => hex ⟨j, p, hj, hp, e⟩)]
  have ht : a.tmps = (fill (fun _ => undef) 0 l ys a0).tmps := by
    refine Array.ext hsz fun t h1 h2 => ?_
    have := hslot t
    simpa [h1, h2] using this
  have hdf : a.defers = (fill (fun _ => undef) 0 l ys a0).defers := by rw [fill_defers, h.defers]
  generalize fill (fun _ => undef) 0 l ys a0 = F at *
  cases a; cases F
  simp only at ht hdf
  subst ht hdf
  rfl

/-- A region that draws its order: one store among operations that look at no memory; then its tail, one by one. -/
theorem wp_region_store {id : Nat} {Q : Exit → Act → World → Prop} (ys : List Leave) (st : Nat) (f : World → World) (hm : P.follows .mixedOrders = true)
    (hB : (Region.noSelect l.toArray && decide (ys.length < l.toArray.size) && Region.sinkB .any l.toArray ys.length && Region.chainB .any l.toArray ys.length &&
      Region.seqB .any l.toArray (l.toArray.size - ys.length) ys.length ((List.replicate ys.length true ++ List.replicate (l.toArray.size - ys.length) false).toArray) && headS l ys.length st a0.tmps.size && decide (st < ys.length)) = true)
    (hst : ∀ i y, ys[i]? = some y → (y = .skip ↔ i = st))
    (hall : allLeaveS P (fill (fun _ => undef) 0 l ys a0) W f l ys)
    (hend : ∀ (w' : World), Below W.heap.size W w' → wpList P l.toArray Q (l.drop ys.length) (fill (fun _ => undef) 0 l ys a0) (f w')) :
    (Code.region id l.toArray true).wp P Q a0 W := by
  simp only [Bool.and_eq_true, decide_eq_true_eq] at hB
  obtain ⟨⟨⟨⟨⟨⟨hsel, hn⟩, hs⟩, hc⟩, hseq⟩, hhead⟩, hstn⟩ := hB
  have ok := headOkS hhead
  have hn' : ys.length < l.length := by simpa using hn
  have hdl : (l.drop ys.length).length = l.toArray.size - ys.length := by simp
  refine wp_region_any hm ?_
  have key : ∀ (q : Nat) (listed : Array Bool) (a : Act) (w : World), HeadInv .any l.toArray ys.length listed → unlisted listed = q + (l.toArray.size - ys.length) → TellS l ys st a0 W f listed a w →
      wpAny P .any l.toArray Q (q + (l.toArray.size - ys.length)) listed a w := by
    intro q
    induction q with
    | zero =>
      intro listed a w inv hu hb
      have hls : listed.size = l.length := by have := inv.size; simpa using this
      -- all of the head has come up
      have hcount : listed.toList.countP (fun b => !b) = l.length - ys.length := by
        unfold unlisted at hu; simpa using hu
      have htail : listed.toList.drop ys.length = List.replicate (l.length - ys.length) false := by
        refine List.ext_getElem (by simp [hls]) fun k h1 h2 => ?_
        have hk : ys.length + k < listed.size := by simp at h1; omega
        have := inv.tail (ys.length + k) (by omega) (by rw [← inv.size]; exact hk)
        simpa [hk] using this
      have hsplit : listed.toList = listed.toList.take ys.length ++ List.replicate (l.length - ys.length) false := by rw [← htail, List.take_append_drop]
      have hh : (listed.toList.take ys.length).countP (fun b => !b) = 0 := by
        rw [hsplit, List.countP_append] at hcount
        have hr : (List.replicate (l.length - ys.length) false).countP (fun b => !b) = l.length - ys.length := by rw [List.countP_replicate]; simp
        rw [hr] at hcount
        omega
      have hhead : listed.toList.take ys.length = List.replicate ys.length true := by
        have hlen : (listed.toList.take ys.length).length = ys.length := by simp [hls]; omega
        rw [List.eq_replicate_iff]
        refine ⟨hlen, fun b hb => ?_⟩
        have := List.countP_eq_zero.1 hh b hb
        simpa using this
      have hlisted : listed = (List.replicate ys.length true ++ List.replicate (l.toArray.size - ys.length) false).toArray := by
        have h1 : listed = listed.toList.toArray := by simp
        rw [h1, hsplit, hhead]
        simp
      have hall' : ∀ i, i < ys.length → listed.getD i false = true := by
        intro i hi
        rw [hlisted, Array.getD_eq_getD_getElem?, List.getElem?_toArray, List.getElem?_append_left (by simpa using hi)]
        simp [hi]
      have hfull := hb.full ok hall'
      have := wpAny_of_seq (P := P) (ops := l.toArray) (md := .any) (Q' := Q) (l.drop ys.length) ys.length listed a w (fun j => by simp [List.getElem?_drop]) (by rw [hdl, hlisted]; exact hseq) (by
        rw [hfull]
        have hW := hb.world
        rw [hall' st hstn] at hW
        obtain ⟨w0, hb0, rfl⟩ := hW
        exact hend w0 hb0)
      rwa [hdl, ← Nat.zero_add (l.toArray.size - ys.length)] at this
    | succ q ih =>
      intro listed a w inv hu hb
      -- the first one of the head that has not come up
      have hex : ∃ i, i < ys.length ∧ listed.getD i false = false := by
        refine Classical.byContradiction fun hno => ?_
        have hno' : ∀ i, i < ys.length → listed.getD i false = true := fun i hi => by
          cases h : listed.getD i false with
          | true => rfl
          | false => exact absurd ⟨i, hi, h⟩ hno
        have hls : listed.size = l.length := by have := inv.size; simpa using this
        have h0 : (listed.toList.take ys.length).countP (fun b => !b) = 0 := by
          rw [List.countP_eq_zero]
          intro b hb'
          obtain ⟨k, hk, rfl⟩ := List.getElem_of_mem hb'
          have hk1 : k < ys.length := by simp at hk; omega
          have hk2 : k < listed.size := by omega
          have := hno' k hk1
          simpa [hk2] using this
        have h1 := List.countP_le_length (p := fun b => !b) (l := listed.toList.drop ys.length)
        have h2 : unlisted listed = (listed.toList.take ys.length).countP (fun b => !b) + (listed.toList.drop ys.length).countP (fun b => !b) := by
          unfold unlisted; rw [← List.countP_append, List.take_append_drop]
        simp only [List.length_drop, Array.length_toList, hls] at h1
        have h3 : l.toArray.size = l.length := by simp
        omega
      have hleast : ∀ m : Nat, (∃ i, i < m ∧ i < ys.length ∧ listed.getD i false = false) → ∃ i, i < ys.length ∧ listed.getD i false = false ∧ ∀ j, j < i → listed.getD j false = true := by
        intro m
        induction m with
        | zero => rintro ⟨i, hi, _⟩; omega
        | succ m ih2 =>
          rintro ⟨i, hi, hiy, hil⟩
          by_cases hsm : ∃ j, j < m ∧ j < ys.length ∧ listed.getD j false = false
          · exact ih2 hsm
          · refine ⟨i, hiy, hil, fun j hj => ?_⟩
            cases h : listed.getD j false with
            | true => rfl
            | false => exact absurd ⟨j, by omega, by omega, h⟩ hsm
      obtain ⟨i, hi, hil, hlt⟩ := hleast ys.length (by obtain ⟨i, h1, h2⟩ := hex; exact ⟨i, h1, h1, h2⟩)
      have hsize : ∀ k, k < ys.length → k < listed.size := fun k hk => by rw [inv.size]; omega
      have hready : i ∈ Region.ready .any l.toArray listed := by
        obtain ⟨o, ho, -⟩ := ok.there i hi
        exact mem_ready.2 ⟨getD_in (hsize i hi) hil, o, by simpa using ho, fun e he hbd => hlt _ (ok.back i o hi ho e he hbd)⟩
      rw [show q + 1 + (l.toArray.size - ys.length) = (q + (l.toArray.size - ys.length)) + 1 by omega]
      refine ⟨fun h0 => (by rw [h0] at hready; cases hready), fun j hj => ?_⟩
      have hjn : j < ys.length := by
        rcases Nat.lt_or_ge j ys.length with h | h
        · exact h
        · exact absurd hj (tail_waits hs hc hn inv _ i rfl hi (getD_in (hsize i hi) hil) j h)
      refine wpOp_mono (fun a' w' hb' => ih _ a' w' (inv.set hj hjn) ?_ hb') (hb.step ok hsel hst hall inv.size hjn hj)
      have := unlisted_set (mem_ready.1 hj).1
      omega
  have inv0 : HeadInv .any l.toArray ys.length (Array.replicate l.toArray.size false) :=
    ⟨by simp, fun j oj _ hl => (by rw [getD_replicate_false] at hl; cases hl), fun t _ ht => getD_in (by simpa using ht) (getD_replicate_false _ _)⟩
  have hu : unlisted (Array.replicate l.toArray.size false) = ys.length + (l.toArray.size - ys.length) := by
    unfold unlisted
    rw [Array.toList_replicate, List.countP_replicate]
    simp
    omega
  have := key ys.length _ a0 { W with drawn := W.drawn + 1 } inv0 hu
    ⟨rfl, rfl, by rw [getD_replicate_false]; exact ⟨rfl, rfl, rfl, Nat.le_refl _, fun _ _ => rfl⟩, fun _ _ => rfl, fun i o y d _ _ hl => (by rw [getD_replicate_false] at hl; cases hl)⟩
  rwa [show ys.length + (l.toArray.size - ys.length) = l.toArray.size by omega] at this
end

end HoldS

end Go.Proofs.Ytnmfgcdenngpfaa.More

/-! The contract of the document's Same, of lists that are the same. -/
namespace Go.Proofs.Ytnmfgcdenngpfaa.Tree
open Go.RowKit Go.Sort Go.Proofs.Ytnmfgcdenngpfaa.Record Go.Proofs.Ytnmfgcdenngpfaa.Script

end Go.Proofs.Ytnmfgcdenngpfaa.Tree
