/- Floats that are placed one behind the other, in numbers. No program is in it. -/
import Derived.Test.YtkabpflbedpbaaaPart13
namespace Go.Proofs.Ytkabpflbedpbaaa.Place
open Go.Proofs.Ytkabpflbedpbaaa.Shelf Go.Proofs.Ytkabpflbedpbaaa.Space
set_option linter.unusedVariables false

/-- So many floats have been placed. -/
def Low (k : Nat) (fs : List Fl) : Prop := ∀ f ∈ fs, near49 f = true ∧ -1099511627776 ≤ f.t ∧ f.t ≤ f.b ∧ f.b ≤ 1099511627776 * ((k : Int) + 1)

theorem low_near {k : Nat} {fs : List Fl} (h : Low k fs) : fs.all near49 = true := List.all_eq_true.2 fun f hf => (h f hf).1

theorem low_next {k : Nat} {fs : List Fl} {x : Wt} (h : Low k fs) (hk : k ≤ 30) (hr : RightW x) (hy1 : -1099511627776 ≤ x.y) (hy2 : x.y ≤ 1099511627776) (hh1 : 0 ≤ x.ht) (hh2 : x.ht ≤ 1099511627776) : Low (k + 1) (fs ++ [placed fs x]) := by
  have h49 := low_near h
  have hf := find_is h49 hr
  have hx := find_49 h49 hr
  have hst := startQ_ge fs x
  have hs : startQ fs x ≤ 1099511627776 * ((k : Int) + 1) := by
    rcases startQ_is fs x with e | ⟨f, hf, e | e⟩
    · omega
    · have := h f hf; omega
    · have := h f hf; omega
  have hle : findY fs x ≤ 1099511627776 * ((k : Int) + 1) := finds_le hf hs (by
    rw [ok_flat hs]
    exact ok_free hr (bnd_free fun f hf _ => .inr (h f hf).2.2.2))
  have hge := hf.1
  intro f hm
  rcases List.mem_append.1 hm with e | e
  · obtain ⟨a, b, c, d⟩ := h f e
    exact ⟨a, b, c, by omega⟩
  · rw [List.mem_singleton.1 e]
    refine ⟨near49_iff.2 ⟨?_, ?_, ?_, ?_, ?_, ?_, ?_, ?_, hr.sd⟩, ?_, ?_, ?_⟩ <;> (show _ ≤ _; unfold placed; simp only; omega)

/-- What meets none. -/
theorem apart_meet {fs : List Fl} {x : Wt} (h49 : fs.all near49 = true) (hr : RightW x) {o : Fl} (ho : o ∈ fs) {fx fy : Int} (hfx : findX fs x = fx) (hfy : findY fs x = fy) :
    (decide (max o.l fx < min o.r (fx + x.wd)) && decide (max o.t fy < min o.b (fy + x.ht))) = false := by
  have hf := find_is h49 hr
  have hX := findX_is h49 hr
  have hlast := Int.le_trans (startQ_last (w := x) ho) hf.1
  rw [hfy] at hf hX hlast
  rw [hfx] at hX
  obtain ⟨-, hok, -⟩ := hf
  unfold okQ at hok
  unfold edgeQ at hX
  have hz := highZ_pos x.ht
  have hsd := (near49_all h49 o ho).sd
  rw [← Bool.not_eq_true, Bool.and_eq_true, decide_eq_true_eq, decide_eq_true_eq]
  rintro ⟨m1, m2⟩
  have a1 : o.l < o.r := by omega
  have a2 : o.t < o.b := by omega
  have a3 : fy < o.b := by omega
  have b1 : o.l < fx + x.wd := by omega
  have b2 : fx < o.r := by omega
  have b3 : 0 < x.wd := by omega
  have hhit : ∀ s, o.s = s → hitF s fy (fy + highZ x.ht) o = true := fun s e => hitF_iff.2 ⟨cntF_iff.2 ⟨a1, a2, hsd⟩, e, by omega, a3, by omega⟩
  have hL : o.s = 1 → o.r ≤ bandL fs fy (fy + highZ x.ht) := fun e => (bandL_le.1 (Int.le_refl _)).2 o ho (hhit 1 e)
  have hR : o.s = 2 → bandR fs fy (fy + highZ x.ht) ≤ o.l := fun e => (le_bandR.1 (Int.le_refl _)).2 o ho (hhit 2 e)
  generalize bandL fs fy (fy + highZ x.ht) = P at *
  generalize bandR fs fy (fy + highZ x.ht) = Q at *
  rw [okN_iff] at hok
  unfold edgeN at hX
  clear m1 m2 hhit
  by_cases e : x.s = 1
  · rw [if_pos e] at hX
    have c1 : P ≤ fx := by omega
    have c2 : fx + x.wd ≤ Q := by
      rcases hok with h | ⟨-, ⟨-, g1, g2⟩ | ⟨g0, -⟩⟩
      · omega
      · rw [show max x.f P = x.f by omega] at hX; omega
      · exact absurd e g0
    rcases hsd with q | q
    · have := hL q; omega
    · have := hR q; omega
  · rw [if_neg e] at hX
    have c2 : fx + x.wd ≤ Q := by omega
    have c1 : P ≤ fx := by
      rcases hok with h | ⟨-, ⟨g0, -⟩ | ⟨-, g1, g2⟩⟩
      · omega
      · exact absurd g0 e
      · rw [show min x.t Q = x.t by omega] at hX; omega
    rcases hsd with q | q
    · have := hL q; omega
    · have := hR q; omega

theorem apart_left {fs : List Fl} {x : Wt} (h49 : fs.all near49 = true) (hr : RightW x) (hs : x.s = 1) : x.f ≤ findX fs x := by
  rw [findX_is h49 hr]
  unfold edgeQ edgeN
  rw [if_pos hs]
  omega
theorem apart_right {fs : List Fl} {x : Wt} (h49 : fs.all near49 = true) (hr : RightW x) (hs : x.s ≠ 1) : findX fs x + x.wd ≤ x.t := by
  rw [findX_is h49 hr]
  unfold edgeQ edgeN
  rw [if_neg hs]
  omega
theorem apart_clear {fs : List Fl} {x : Wt} (h49 : fs.all near49 = true) (hr : RightW x) (h : (botS fs x.c).2 = true) : (botS fs x.c).1 ≤ findY fs x := by
  have h1 := (find_is h49 hr).1
  have h2 := startQ_clear fs x
  have h3 : (botS fs x.c).1 ≤ clearS fs x.c x.y := by
    unfold clearS
    rw [h, Bool.true_and]
    split
    · exact Int.le_refl _
    · next g => simp at g; exact g
  omega

end Go.Proofs.Ytkabpflbedpbaaa.Place
