/- How wide boxes are, and where their contents begin, by the boxes around. No program is in it. -/
import Derived.Test.YtnmfgcdenngpfaaTreeChk
namespace Go.Proofs.Ytnmfgcdenngpfaa.Width
open Go.Proofs.Ytnmfgcdenngpfaa.Record Go.Proofs.Ytnmfgcdenngpfaa.Script Go.Proofs.Ytnmfgcdenngpfaa.Tree

def sideZ (b : Bx) : Int := b.m1 + b.m3 + b.e1 + b.e3
/-- The content width in a content that is x wide. -/
def conZ (b : Bx) (x : Int) : Int := if 0 ≤ b.w then b.w else if x - sideZ b < 0 then 0 else x - sideZ b
def borZ (b : Bx) (x : Int) : Int := x + b.e1 + b.e3
def marZ (b : Bx) (x : Int) : Int := x + sideZ b

/-- How wide a box's content is in a list. -/
def widD (bs : List Bx) (i : Nat) : Int :=
  if _h : 0 ≤ par (dOf bs) i then conZ (bs.getD i noB) (widD bs (par (dOf bs) i).toNat) else (bs.getD i noB).w
termination_by i
decreasing_by have := par_bounds (dOf bs) i; omega

/-- Does a box's content begin at 0? -/
def selfB (b : Bx) : Bool := decide (b.k = 5) || openB b.k

/-- Where a box's content begins. -/
def lefD (bs : List Bx) (i : Nat) : Int :=
  if selfB (bs.getD i noB) then 0
  else if _h : 0 ≤ par (dOf bs) i then lefD bs (par (dOf bs) i).toNat + (bs.getD i noB).m3 + (bs.getD i noB).e3 else 0
termination_by i
decreasing_by have := par_bounds (dOf bs) i; omega

theorem widD_top {bs : List Bx} {i : Nat} (h : par (dOf bs) i < 0) : widD bs i = (bs.getD i noB).w := by
  rw [widD, dif_neg (by omega)]
theorem widD_in {bs : List Bx} {i p : Nat} (h : par (dOf bs) i = (p : Int)) : widD bs i = conZ (bs.getD i noB) (widD bs p) := by
  rw [widD, dif_pos (by omega)]
  rw [h, Int.toNat_natCast]
theorem lefD_self {bs : List Bx} {i : Nat} (h : selfB (bs.getD i noB) = true) : lefD bs i = 0 := by
  rw [lefD, if_pos h]
theorem lefD_in {bs : List Bx} {i p : Nat} (h : selfB (bs.getD i noB) = false) (hp : par (dOf bs) i = (p : Int)) : lefD bs i = lefD bs p + (bs.getD i noB).m3 + (bs.getD i noB).e3 := by
  rw [lefD, if_neg (by rw [h]; exact Bool.false_ne_true), dif_pos (by omega)]
  rw [hp, Int.toNat_natCast]

theorem lefD_none {bs : List Bx} {i : Nat} (h : selfB (bs.getD i noB) = false) (hp : par (dOf bs) i < 0) : lefD bs i = 0 := by
  rw [lefD, if_neg (by rw [h]; exact Bool.false_ne_true), dif_neg (by omega)]

/-- Margins and edges of a box that may be. -/
structure Small (b : Bx) : Prop where
  w : -268435456 ≤ b.w ∧ b.w ≤ 268435456
  m1 : -268435456 ≤ b.m1 ∧ b.m1 ≤ 268435456
  m3 : -268435456 ≤ b.m3 ∧ b.m3 ≤ 268435456
  e1 : -268435456 ≤ b.e1 ∧ b.e1 ≤ 268435456
  e3 : -268435456 ≤ b.e3 ∧ b.e3 ≤ 268435456

theorem small_of {b : Bx} (h : pickN (brokenOf b) = 0) : Small b := by
  have hg := (good_iff b).1 h
  have h1 := hg.wh
  have h2 := hg.m
  have h3 := hg.e
  simp only [List.any_cons, List.any_nil, Bool.or_false, Bool.or_eq_false_iff] at h1 h2 h3
  unfold bigB at h1 h2 h3
  exact ⟨bey_no.1 h1.1, bey_no.1 h2.2.1, bey_no.1 h2.2.2.2, bey_no.1 h3.2.1, bey_no.1 h3.2.2.2⟩

theorem sideZ_bound {b : Bx} (h : Small b) : -1073741824 ≤ sideZ b ∧ sideZ b ≤ 1073741824 := by
  have h1 := h.m1
  have h2 := h.m3
  have h3 := h.e1
  have h4 := h.e3
  unfold sideZ
  omega

theorem conZ_bound {b : Bx} (h : Small b) {x m : Int} (h1 : 268435456 ≤ m) (h0 : x ≤ m) : 0 ≤ conZ b x ∧ conZ b x ≤ m + 1073741824 := by
  have h2 := h.w
  have h3 := sideZ_bound h
  unfold conZ
  split
  · omega
  · split <;> omega

theorem fine_root {bs : List Bx} {m : Nat} (h : Fine bs m) (hm : 0 < m) : (bs.getD 0 noB).k = 3 ∧ 0 ≤ (bs.getD 0 noB).w := by
  have h0 := h 0 hm
  have hc := h.check hm
  have hb := badAt_root (v := rootB (bs.getD 0 noB)) rfl hc rfl
  rw [h0] at hb
  have hr : rootB (bs.getD 0 noB) = true := by
    cases hv : rootB (bs.getD 0 noB)
    · rw [hv] at hb; simp at hb
    · rfl
  unfold rootB at hr
  simp only [Bool.and_eq_true, beq_iff_eq, Bool.not_eq_true', decide_eq_false_iff_not] at hr
  exact ⟨hr.1.1.1.2, by omega⟩

/-- Of a fine list: what is wide, and where it begins, are numbers that aren't great. -/
theorem wide_bound {bs : List Bx} {n : Nat} (hs : Shape (dOf bs) n) (hf : Fine bs n) : ∀ m i, i < m → i < n → 0 ≤ widD bs i ∧ widD bs i ≤ ((i : Int) + 1) * 1073741824 := by
  intro m
  induction m with
  | zero => intro i h; omega
  | succ m ih =>
    intro i h hi
    have hsm := small_of (hf.check hi)
    rcases Nat.eq_zero_or_pos i with h0 | h0
    · subst h0
      have hp := par_bounds (dOf bs) 0
      rw [widD_top (by omega)]
      have := hsm.w
      have := (fine_root hf hi).2
      omega
    · obtain ⟨p, hp0, hp, -, -⟩ := hs.parent i h0 hi
      have hpi : par (dOf bs) i = (p : Int) := hp0
      have := ih p (by omega) (by omega)
      rw [widD_in hpi]
      have h5 := conZ_bound hsm (x := widD bs p) (m := ((p : Int) + 1) * 1073741824) (by omega) this.2
      omega

theorem left_bound {bs : List Bx} {n : Nat} (hs : Shape (dOf bs) n) (hf : Fine bs n) : ∀ m i, i < m → i < n → -(((i : Int) + 1) * 1073741824) ≤ lefD bs i ∧ lefD bs i ≤ ((i : Int) + 1) * 1073741824 := by
  intro m
  induction m with
  | zero => intro i h; omega
  | succ m ih =>
    intro i h hi
    have hsm := small_of (hf.check hi)
    cases hv : selfB (bs.getD i noB)
    · rcases Nat.eq_zero_or_pos i with h0 | h0
      · subst h0
        unfold selfB openB at hv
        rw [(fine_root hf hi).1] at hv
        exact absurd hv (by decide)
      · obtain ⟨p, hp0, hp, -, -⟩ := hs.parent i h0 hi
        have hpi : par (dOf bs) i = (p : Int) := hp0
        have := ih p (by omega) (by omega)
        rw [lefD_in hv hpi]
        have h2 := hsm.m3
        have h3 := hsm.e3
        omega
    · rw [lefD_self hv]; omega

end Go.Proofs.Ytnmfgcdenngpfaa.Width
