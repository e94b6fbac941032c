/- Where something is first so: between the tops it cannot become so. -/
import Derived.Test.YtfomhdhiibcdfaaGreatPart28
import Derived.Test.YtfomhdhiibcdfaaGreatPart47
namespace Go.Proofs.YtfomhdhiibcdfaaGreat.Space
open Go.Proofs.YtfomhdhiibcdfaaGreat.Shelf

theorem bnd_between {fs : List Fl} (hn : Near fs) {z0 x : Int} (h0 : -far ≤ z0) (hno : ∀ s ∈ shelvesD fs, z0 < s.1 → x < s.1) (r : Int) (h1 : z0 ≤ r) (h2 : r ≤ x) : bndF fs r = bndF fs z0 := by
  have hd := (draws_dw _ _ (shelvesD_draws hn)).1
  obtain ⟨k, hk⟩ := thr_of hd z0
  have hp := thr_pos hd h0 hk
  obtain ⟨o, rfl⟩ : ∃ o, k = o + 1 := ⟨k - 1, by omega⟩
  obtain ⟨s, hs⟩ : ∃ s, (shelvesD fs)[o]? = some s := ⟨_, List.getElem?_eq_getElem (by have := hk.1; omega)⟩
  have hle := thr_under hk hs (Nat.lt_succ_self o)
  have key : ∀ q, z0 ≤ q → q ≤ x → bndF fs q = s.2 := fun q q1 q2 => dw_same hd hs (by omega) (fun z hz => by
    have h3 := thr_above hk hz (Nat.le_refl _)
    have h4 := hno z (List.mem_of_getElem? hz) h3
    omega)
  rw [key r h1 h2, key z0 (Int.le_refl _) (by omega)]

theorem band_covers {fs : List Fl} {z0 x h : Int} (hc : ∀ r, z0 ≤ r → r ≤ x → bndF fs r = bndF fs z0) (hzx : z0 ≤ x) (hh : 1 ≤ h) : bandL fs z0 (z0 + h) ≤ bandL fs x (x + h) ∧ bandR fs x (x + h) ≤ bandR fs z0 (z0 + h) := by
  obtain ⟨l, r, hlr⟩ : ∃ l r, bndF fs z0 = (l, r) := ⟨_, _, rfl⟩
  have hx := hc x hzx (Int.le_refl _)
  rw [hlr] at hx
  have hxl : bandL fs x (x + 1) = l := congrArg Prod.fst hx
  have hxr : bandR fs x (x + 1) = r := congrArg Prod.snd hx
  by_cases hcase : z0 + h ≤ x
  · obtain ⟨e1, e2⟩ := band_const (fs := fs) (l := l) (r := r) (h - 1).toNat z0 (z0 + h) (by omega) (fun q q1 q2 => by rw [hc q q1 (by omega), hlr])
    rw [e1, e2, bandL_split fs (a := x) (m := x + 1) (z := x + h) (by omega) (by omega), bandR_split fs (a := x) (m := x + 1) (z := x + h) (by omega) (by omega), hxl, hxr]
    omega
  · have s1 := bandL_split fs (a := z0) (m := x) (z := z0 + h) hzx (by omega)
    have s2 := bandR_split fs (a := z0) (m := x) (z := z0 + h) hzx (by omega)
    have s3 := bandL_split fs (a := x) (m := z0 + h) (z := x + h) (by omega) (by omega)
    have s4 := bandR_split fs (a := x) (m := z0 + h) (z := x + h) (by omega) (by omega)
    have s5 := bandL_split fs (a := x) (m := x + 1) (z := z0 + h) (by omega) (by omega)
    have s6 := bandR_split fs (a := x) (m := x + 1) (z := z0 + h) (by omega) (by omega)
    by_cases he : z0 = x
    · subst he; omega
    · obtain ⟨e1, e2⟩ := band_const (fs := fs) (l := l) (r := r) (x - z0 - 1).toNat z0 x (by omega) (fun q q1 q2 => by rw [hc q q1 (by omega), hlr])
      rw [e1] at s1
      rw [e2] at s2
      rw [hxl] at s5
      rw [hxr] at s6
      omega

theorem shelves_rise {fs : List Fl} (hn : Near fs) : ((shelvesD fs).map (·.1)).Pairwise (· < ·) := by
  rw [List.pairwise_iff_getElem]
  intro i j hi hj hij
  rw [List.length_map] at hi hj
  rw [List.getElem_map, List.getElem_map]
  have h1 := (shelvesD_pair hn (List.getElem?_eq_getElem hi) (List.getElem?_eq_getElem (show i + 1 < (shelvesD fs).length by omega))).1
  have h2 := draws_rise (shelvesD_draws hn) (j - (i + 1)) (i + 1) _ _ (List.getElem?_eq_getElem (show i + 1 < (shelvesD fs).length by omega)) (by rw [show i + 1 + (j - (i + 1)) = j by omega]; exact List.getElem?_eq_getElem hj)
  omega

theorem tops_filter (fs : List Fl) (y : Int) : ((shelvesD fs).filter (fun x => decide (y < x.1))).map (·.1) = ((shelvesD fs).map (·.1)).filter (fun e => decide (y < e)) := by
  rw [List.filter_map]
  rfl

theorem tops_rise {fs : List Fl} (hn : Near fs) (y : Int) : (topsD fs y).Pairwise (· < ·) := by
  unfold topsD
  rw [tops_filter, List.pairwise_cons]
  refine ⟨fun e he => by simpa using (List.mem_filter.1 he).2, (shelves_rise hn).filter _⟩

theorem tops_has {fs : List Fl} {y : Int} {s : Int × (Int × Int)} (hs : s ∈ shelvesD fs) (h : y < s.1) : s.1 ∈ topsD fs y := by
  unfold topsD
  exact List.mem_cons_of_mem _ (List.mem_map.2 ⟨s, List.mem_filter.2 ⟨hs, by simpa using h⟩, rfl⟩)

/-- In a list that rises, a number between the first one and another one lies between two neighbours. -/
theorem between (ts : List Int) (x : Int) : ∀ (N : Nat) (a b : Int), ts[0]? = some a → ts[N]? = some b → a ≤ x → x < b → ∃ i z0 z1, i < N ∧ ts[i]? = some z0 ∧ ts[i + 1]? = some z1 ∧ z0 ≤ x ∧ x < z1
  | 0, a, b, ha, hb, h1, h2 => by rw [ha] at hb; injection hb with e; omega
  | N + 1, a, b, ha, hb, h1, h2 => by
    obtain ⟨c, hc⟩ : ∃ c, ts[N]? = some c := by
      have := (List.getElem?_eq_some_iff.1 hb).1
      exact ⟨_, List.getElem?_eq_getElem (by omega)⟩
    by_cases h : c ≤ x
    · exact ⟨N, c, b, Nat.lt_succ_self _, hc, hb, h, h2⟩
    · obtain ⟨i, z0, z1, q1, q2⟩ := between ts x N a c ha hc h1 (by omega)
      exact ⟨i, z0, z1, by omega, q2⟩

theorem rise_at {ts : List Int} (h : ts.Pairwise (· < ·)) {i j : Nat} {a b : Int} (ha : ts[i]? = some a) (hb : ts[j]? = some b) (hij : i < j) : a < b := by
  obtain ⟨h1, e1⟩ := List.getElem?_eq_some_iff.1 ha
  obtain ⟨h2, e2⟩ := List.getElem?_eq_some_iff.1 hb
  rw [← e1, ← e2]
  exact (List.pairwise_iff_getElem.1 h) i j h1 h2 hij

/-- What is so somewhere on a shelf is so higher up on it: then between two tops nothing becomes so. -/
theorem first_none {fs : List Fl} (hn : Near fs) {y : Int} (hy : -far ≤ y) (q : Int → Bool)
    (hq : ∀ z0 x, z0 ≤ x → (∀ r, z0 ≤ r → r ≤ x → bndF fs r = bndF fs z0) → q x = true → q z0 = true) (x : Int) (h1 : y ≤ x) (h2 : x < atD q (topsD fs y)) : q x = false := by
  have hr := tops_rise hn y
  have hlt := stopN_lt q (topsD fs y) (by unfold topsD; simp)
  have hat : (topsD fs y)[stopN q (topsD fs y)]? = some (atD q (topsD fs y)) := by
    unfold atD
    rw [List.getD_eq_getElem?_getD, List.getElem?_eq_getElem hlt]
    rfl
  obtain ⟨i, z0, z1, g1, g2, g3, g4, g5⟩ := between (topsD fs y) x _ y _ rfl hat h1 h2
  have hz := stopN_not q _ i z0 g1 g2
  have hyz : y ≤ z0 := by
    rcases Nat.eq_zero_or_pos i with e | e
    · subst e; rw [show (topsD fs y)[0]? = some y from rfl] at g2; injection g2 with e; omega
    · exact Int.le_of_lt (rise_at hr (show (topsD fs y)[0]? = some y from rfl) g2 e)
  cases hx : q x with
  | false => rfl
  | true =>
    have := hq z0 x g4 (bnd_between hn (by omega) (fun s hs hlt => by
      obtain ⟨j, hj⟩ := List.getElem?_of_mem (tops_has hs (show y < s.1 by omega))
      rcases Nat.lt_trichotomy j (i + 1) with e | e | e
      · rcases Nat.lt_or_ge j i with e2 | e2
        · have := rise_at hr hj g2 e2; omega
        · obtain rfl : j = i := by omega
          rw [g2] at hj; injection hj with e3; omega
      · subst e; rw [g3] at hj; injection hj with e3; omega
      · have := rise_at hr g3 hj e; omega)) hx
    rw [hz] at this
    cases this

end Go.Proofs.YtfomhdhiibcdfaaGreat.Space
