/- Bands, shelf by shelf. No program is in it. -/
import Derived.Test.YtpfcefflcmeobaaShelfSList
namespace Go.Proofs.Ytpfcefflcmeobaa.Shelf
set_option linter.unusedVariables false

theorem band_const {fs : List Fl} {l r : Int} : ∀ (d : Nat) (lo hi : Int), (hi - lo).toNat = d + 1 → (∀ y, lo ≤ y → y < hi → bndF fs y = (l, r)) → bandL fs lo hi = l ∧ bandR fs lo hi = r
  | 0, lo, hi, hd, h => by
    obtain rfl : hi = lo + 1 := by omega
    have := h lo (Int.le_refl _) (by omega)
    unfold bndF at this
    injection this with h1 h2
    exact ⟨h1, h2⟩
  | d + 1, lo, hi, hd, h => by
    obtain ⟨h1, h2⟩ := band_const d (lo + 1) hi (by omega) (fun y hy1 hy2 => h y (by omega) hy2)
    have h0 := h lo (Int.le_refl _) (by omega)
    unfold bndF at h0
    injection h0 with h3 h4
    rw [bandL_split fs (show lo ≤ lo + 1 by omega) (show lo + 1 ≤ hi by omega), bandR_split fs (show lo ≤ lo + 1 by omega) (show lo + 1 ≤ hi by omega), h1, h2, h3, h4]
    omega

theorem dw_same {β : Type} {F : Int → β} {xs : List (Int × β)} {a y : Int} {i : Nat} {x : Int × β} (h : DW F a xs) (hx : xs[i]? = some x) (hy : x.1 ≤ y) (hn : ∀ z, xs[i + 1]? = some z → y < z.1) : F y = x.2 := by
  have e := at_split hx
  rw [e] at h
  have h1 := ((dw_split _ a x _).1 h).2
  have hd : ∀ z r, xs.drop (i + 1) = z :: r → y < z.1 := fun z r e2 => hn z (by
    have := List.getElem?_drop (xs := xs) (i := i + 1) (j := 0)
    rw [e2] at this
    simpa using this.symm)
  obtain ⟨t, b⟩ := x
  cases hr : xs.drop (i + 1) with
  | nil => rw [hr] at h1; exact h1.2 y hy
  | cons z r =>
    obtain ⟨z1, z2⟩ := z
    have h3 := hd _ _ hr
    rw [hr] at h1
    exact h1.2.2.1 y hy h3

/-- Where the rows from a up to z that the shelves ahead of a place have end. -/
def eB (xs : List (Int × (Int × Int))) (a z : Int) (i : Nat) : Int := match xs[i]? with
  | none => z
  | some x => max a (min z x.1)

section
variable {fs : List Fl} {xs : List (Int × (Int × Int))} {a z : Int} {o1 o2 : Nat}

theorem thr_above {y : Int} {k i : Nat} {x : Int × (Int × Int)} (h : Thr xs y k) (hx : xs[i]? = some x) (hi : k ≤ i) : y < x.1 := by
  have := h.2 i x hx
  rw [show decide (k ≤ i) = true by simp [hi]] at this
  exact of_decide_eq_true this
theorem thr_under {y : Int} {k i : Nat} {x : Int × (Int × Int)} (h : Thr xs y k) (hx : xs[i]? = some x) (hi : i < k) : x.1 ≤ y := by
  have := h.2 i x hx
  rw [show decide (k ≤ i) = false by simp; omega] at this
  have := of_decide_eq_false this
  omega

theorem thr_mono (hd : DW (bndF fs) (-far) xs) (h1 : Thr xs a (o1 + 1)) (h2 : Thr xs (z - 1) (o2 + 1)) (haz : a < z) : o1 ≤ o2 := by
  rcases Nat.lt_or_ge o2 o1 with e | e
  · obtain ⟨x, hx⟩ : ∃ x, xs[o1]? = some x := ⟨_, List.getElem?_eq_getElem (by have := h1.1; omega)⟩
    have := thr_under h1 hx (by omega)
    have := thr_above h2 hx (by omega)
    omega
  · exact e

theorem eB_start (hd : DW (bndF fs) (-far) xs) (h1 : Thr xs a (o1 + 1)) (haz : a < z) : eB xs a z o1 = a := by
  obtain ⟨x, hx⟩ : ∃ x, xs[o1]? = some x := ⟨_, List.getElem?_eq_getElem (by have := h1.1; omega)⟩
  have := thr_under h1 hx (by omega)
  unfold eB
  rw [hx]
  dsimp only
  omega

theorem eB_end (h2 : Thr xs (z - 1) (o2 + 1)) (haz : a < z) : eB xs a z (o2 + 1) = z := by
  unfold eB
  cases hx : xs[o2 + 1]? with
  | none => rfl
  | some x =>
    have := thr_above h2 hx (Nat.le_refl _)
    dsimp only
    omega

/-- One shelf more. -/
theorem eB_step (hd : DW (bndF fs) (-far) xs) (h1 : Thr xs a (o1 + 1)) (h2 : Thr xs (z - 1) (o2 + 1)) (haz : a < z) {i : Nat} (hi1 : o1 ≤ i) (hi2 : i ≤ o2) {x : Int × (Int × Int)} (hx : xs[i]? = some x) :
    bandL fs a (eB xs a z (i + 1)) = max (bandL fs a (eB xs a z i)) x.2.1 ∧ bandR fs a (eB xs a z (i + 1)) = min (bandR fs a (eB xs a z i)) x.2.2 := by
  have hxz := thr_under h2 hx (by omega)
  have e0 : eB xs a z i = max a x.1 := by
    unfold eB; rw [hx]; dsimp only; omega
  have e1 : max a x.1 < eB xs a z (i + 1) ∧ ∀ y, y < eB xs a z (i + 1) → ∀ x', xs[i + 1]? = some x' → y < x'.1 := by
    unfold eB
    cases hx' : xs[i + 1]? with
    | none => exact ⟨by dsimp only; omega, fun y _ x' e => by cases e⟩
    | some x' =>
      have ha := thr_above h1 hx' (by omega)
      have hr : x.1 < x'.1 := by
        have e := at_split hx
        have hd' := hd
        rw [e] at hd'
        have h3 := ((dw_split _ _ x _).1 hd').2
        have h4 : xs.drop (i + 1) = x' :: xs.drop (i + 2) := by
          obtain ⟨q1, q2⟩ := List.getElem?_eq_some_iff.1 hx'
          rw [List.drop_eq_getElem_cons q1, q2]
        rw [h4] at h3
        obtain ⟨t, b⟩ := x
        obtain ⟨t', b'⟩ := x'
        exact h3.2.1
      refine ⟨by dsimp only; omega, fun y hy x'' e => ?_⟩
      injection e with e
      subst e
      dsimp only at hy
      omega
  have hc := band_const (fs := fs) (l := x.2.1) (r := x.2.2) ((eB xs a z (i + 1) - eB xs a z i).toNat - 1) (eB xs a z i) (eB xs a z (i + 1)) (by rw [e0]; omega) (fun y hy1 hy2 => by
    have := dw_same hd hx (y := y) (by rw [e0] at hy1; omega) (fun z' hz' => e1.2 y hy2 z' hz')
    rw [this])
  rw [bandL_split fs (show a ≤ eB xs a z i by rw [e0]; omega) (show eB xs a z i ≤ eB xs a z (i + 1) by rw [e0]; omega), bandR_split fs (show a ≤ eB xs a z i by rw [e0]; omega) (show eB xs a z i ≤ eB xs a z (i + 1) by rw [e0]; omega), hc.1, hc.2]
  exact ⟨rfl, rfl⟩

end

end Go.Proofs.Ytpfcefflcmeobaa.Shelf
