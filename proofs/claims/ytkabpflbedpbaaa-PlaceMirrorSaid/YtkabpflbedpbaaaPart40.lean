/- What a mirror shows of floats, and of a want. No program is in it. -/
import Derived.Test.YtkabpflbedpbaaaPart13
namespace Go.Proofs.Ytkabpflbedpbaaa.Place
open Go.Proofs.Ytkabpflbedpbaaa.Shelf Go.Proofs.Ytkabpflbedpbaaa.Space
set_option linter.unusedVariables false

def mirF (f : Fl) : Fl := ⟨3 - f.s, -f.r, f.t, -f.l, f.b⟩
def mirC (c : Int) : Int := if c = 1 ∨ c = 2 then 3 - c else c
def mirW (x : Wt) : Wt := ⟨3 - x.s, mirC x.c, -x.t, -x.f, x.wd, x.ht, x.y⟩

theorem mir_near {f : Fl} (h : near49 f = true) : near49 (mirF f) = true := by
  rw [near49_iff] at *
  obtain ⟨a1, a2, b1, b2, c1, c2, d1, d2, g⟩ := h
  unfold mirF
  exact ⟨by simp only; omega, by simp only; omega, b1, b2, by simp only; omega, by simp only; omega, d1, d2, by simp only; omega⟩
theorem mir_all {fs : List Fl} (h : fs.all near49 = true) : (fs.map mirF).all near49 = true := by
  rw [List.all_eq_true] at *
  intro g hg
  obtain ⟨f, hf, rfl⟩ := List.mem_map.1 hg
  exact mir_near (h f hf)
theorem mir_right {x : Wt} (h : RightW x) : RightW (mirW x) := by
  obtain ⟨f1, f2, t1, t2, wd1, wd2, ht1, ht2, y1, y2, sd, cl, ft⟩ := h
  unfold mirW mirC
  exact ⟨by simp only; omega, by simp only; omega, by simp only; omega, by simp only; omega, wd1, wd2, ht1, ht2, y1, y2, by simp only; omega, by simp only; split <;> omega, by simp only; omega⟩

theorem mir_hit (s a z : Int) (f : Fl) (hs : s = 1 ∨ s = 2) : hitF s a z (mirF f) = hitF (3 - s) a z f := by
  rw [Bool.eq_iff_iff, hitF_iff, hitF_iff, cntF_iff, cntF_iff]
  unfold mirF
  simp only
  omega

theorem mir_bandL (fs : List Fl) (a z : Int) : bandL (fs.map mirF) a z = -bandR fs a z := by
  have key : ∀ v, bandL (fs.map mirF) a z ≤ v ↔ -v ≤ bandR fs a z := fun v => by
    rw [bandL_le, le_bandR]
    constructor
    · rintro ⟨h1, h2⟩
      refine ⟨by omega, fun f hf hh => ?_⟩
      have := h2 (mirF f) (List.mem_map.2 ⟨f, hf, rfl⟩) (by rw [mir_hit 1 a z f (.inl rfl)]; exact hh)
      unfold mirF at this
      simp only at this
      omega
    · rintro ⟨h1, h2⟩
      refine ⟨by omega, fun g hg hh => ?_⟩
      obtain ⟨f, hf, rfl⟩ := List.mem_map.1 hg
      have := h2 f hf (by rw [mir_hit 1 a z f (.inl rfl)] at hh; exact hh)
      unfold mirF
      simp only
      omega
  have h1 := (key (-bandR fs a z)).2 (by omega)
  have h2 := (key (bandL (fs.map mirF) a z)).1 (Int.le_refl _)
  omega
theorem mir_bandR (fs : List Fl) (a z : Int) : bandR (fs.map mirF) a z = -bandL fs a z := by
  have key : ∀ v, v ≤ bandR (fs.map mirF) a z ↔ bandL fs a z ≤ -v := fun v => by
    rw [bandL_le, le_bandR]
    constructor
    · rintro ⟨h1, h2⟩
      refine ⟨by omega, fun f hf hh => ?_⟩
      have := h2 (mirF f) (List.mem_map.2 ⟨f, hf, rfl⟩) (by rw [mir_hit 2 a z f (.inr rfl)]; exact hh)
      unfold mirF at this
      simp only at this
      omega
    · rintro ⟨h1, h2⟩
      refine ⟨by omega, fun g hg hh => ?_⟩
      obtain ⟨f, hf, rfl⟩ := List.mem_map.1 hg
      have := h2 f hf (by rw [mir_hit 2 a z f (.inr rfl)] at hh; exact hh)
      unfold mirF
      simp only
      omega
  have h1 := (key (-bandL fs a z)).2 (by omega)
  have h2 := (key (bandR (fs.map mirF) a z)).1 (Int.le_refl _)
  omega

theorem mir_last (fs : List Fl) : lastD (fs.map mirF) = lastD fs := by
  cases fs with
  | nil => rfl
  | cons f fs =>
    show (fs.map mirF).foldl (fun m g => max m g.t) f.t = fs.foldl (fun m g => max m g.t) f.t
    rw [List.foldl_map]
    rfl

theorem mir_bot (c : Int) (hc : 0 ≤ c ∧ c ≤ 3) : ∀ (fs : List Fl) (s : Int × Bool), (∀ f ∈ fs, f.s = 1 ∨ f.s = 2) → (fs.map mirF).foldl (botStep (mirC c)) s = fs.foldl (botStep c) s
  | [], s, _ => rfl
  | f :: fs, s, h => by
    rw [List.map_cons, List.foldl_cons, List.foldl_cons]
    have e : botStep (mirC c) s (mirF f) = botStep c s f := by
      unfold botStep
      have hk : clrB (mirC c) (mirF f).s = clrB c f.s := by
        unfold clrB mirC mirF
        simp only
        have hs := h f (List.mem_cons_self ..)
        rcases (show c = 0 ∨ c = 1 ∨ c = 2 ∨ c = 3 by omega) with rfl | rfl | rfl | rfl <;> rcases hs with e | e <;> rw [e] <;> rfl
      rw [hk]
      rfl
    rw [e]
    exact mir_bot c hc fs _ fun g hg => h g (List.mem_cons_of_mem _ hg)

theorem mir_start {fs : List Fl} {x : Wt} (h49 : fs.all near49 = true) (hr : RightW x) : startQ (fs.map mirF) (mirW x) = startQ fs x := by
  have hb : ∀ y, clearS (fs.map mirF) (mirC x.c) y = clearS fs x.c y := fun y => by
    unfold clearS botS
    rw [mir_bot x.c hr.cl fs _ fun f hf => (near49_all h49 f hf).sd]
  unfold startQ
  show (if decide (0 < (fs.map mirF).length) && decide (clearS (fs.map mirF) (mirC x.c) x.y < lastD (fs.map mirF)) then lastD (fs.map mirF) else clearS (fs.map mirF) (mirC x.c) x.y) = _
  rw [hb, mir_last, List.length_map]

theorem mir_okN {x : Wt} (hr : RightW x) (L R : Int) : okN (mirW x) (-R) (-L) = okN x L R := by
  rw [Bool.eq_iff_iff, okN_iff, okN_iff]
  unfold mirW
  simp only
  have e1 : min (-x.f) (-L) = -max x.f L := by omega
  have e2 : max (-x.t) (-R) = -min x.t R := by omega
  rw [e1, e2]
  rcases hr.sd with e | e
  · rw [e]; omega
  · rw [e]; omega
theorem mir_edgeN {x : Wt} (hr : RightW x) (L R : Int) : edgeN (mirW x) (-R) (-L) = -(edgeN x L R + x.wd) := by
  unfold edgeN mirW
  simp only
  have e1 : min (-x.f) (-L) = -max x.f L := by omega
  have e2 : max (-x.t) (-R) = -min x.t R := by omega
  rw [e1, e2]
  rcases hr.sd with e | e
  · rw [e, if_neg (by omega), if_pos rfl]; omega
  · rw [e, if_pos (by omega), if_neg (by omega)]; omega

theorem mir_ok {fs : List Fl} {x : Wt} (hr : RightW x) (y : Int) : okQ (fs.map mirF) (mirW x) y = okQ fs x y := by
  unfold okQ
  rw [mir_bandL, mir_bandR]
  exact mir_okN hr _ _

theorem mir_findY {fs : List Fl} {x : Wt} (h49 : fs.all near49 = true) (hr : RightW x) : findY (fs.map mirF) (mirW x) = findY fs x := by
  refine finds_one (find_is (mir_all h49) (mir_right hr)) ?_
  obtain ⟨h1, h2, h3⟩ := find_is h49 hr
  exact ⟨by rw [mir_start h49 hr]; exact h1, by rw [mir_ok hr]; exact h2, fun z q1 q2 => by rw [mir_ok hr]; rw [mir_start h49 hr] at q1; exact h3 z q1 q2⟩
theorem mir_findX {fs : List Fl} {x : Wt} (h49 : fs.all near49 = true) (hr : RightW x) : findX (fs.map mirF) (mirW x) = -(findX fs x + x.wd) := by
  rw [findX_is (mir_all h49) (mir_right hr), findX_is h49 hr, mir_findY h49 hr]
  unfold edgeQ
  rw [mir_bandL, mir_bandR]
  exact mir_edgeN hr _ _

end Go.Proofs.Ytkabpflbedpbaaa.Place
