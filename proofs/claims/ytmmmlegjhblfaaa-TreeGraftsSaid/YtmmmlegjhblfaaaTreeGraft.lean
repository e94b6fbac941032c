/- What stands in a box, as a list by itself; no program is in it. -/
import Derived.Test.YtmmmlegjhblfaaaTreeFront
namespace Go.Proofs.Ytmmmlegjhblfaaa.Tree
open Go.Proofs.Ytmmmlegjhblfaaa.Record Go.Proofs.Ytmmmlegjhblfaaa.Script

def rootBx : Bx := ⟨0, 3, 0, 0, 0, 0, 0, 0, 0, 0, 0, 0, 0, 0⟩

/-- What stands in box i, up to m boxes, of which the first j are laid anew. -/
def partL (bs : List Bx) (i m j : Nat) : List Bx := (List.range m).map fun k => if k = 0 then rootBx else if k < j then { bs.getD (i + k) noB with d := dOf bs (i + k) - dOf bs i } else bs.getD (i + k) noB

theorem partL_len (bs : List Bx) (i m j : Nat) : (partL bs i m j).length = m := by simp [partL]

theorem partL_get {bs : List Bx} {i m j k : Nat} (hk : k < m) : (partL bs i m j).getD k noB = if k = 0 then rootBx else if k < j then { bs.getD (i + k) noB with d := dOf bs (i + k) - dOf bs i } else bs.getD (i + k) noB := by
  simp [partL, List.getD, hk]

theorem partL_set {bs : List Bx} {i m j : Nat} (h0 : 0 < j) : (partL bs i m j).set j { bs.getD (i + j) noB with d := dOf bs (i + j) - dOf bs i } = partL bs i m (j + 1) := by
  refine List.ext_getElem (by simp [partL]) fun k h1 h2 => ?_
  have hk : k < m := by simpa [partL] using h2
  rw [List.getElem_set]
  by_cases e : j = k
  · subst e
    have e1 : ¬ j = 0 := by omega
    simp [partL, e1]
  · rw [if_neg e]
    by_cases e0 : k = 0
    · simp [partL, e0]
    · by_cases e1 : k < j
      · have e2 : k < j + 1 := by omega
        simp [partL, e0, e1, e2]
      · have e2 : ¬ k < j + 1 := by omega
        simp [partL, e0, e1, e2]

/-- The boxes as they stood. -/
theorem raw_eq {bs : List Bx} {i m : Nat} (h : i + m ≤ bs.length) : (bs.drop i).take m = (List.range m).map fun k => bs.getD (i + k) noB := by
  refine List.ext_getElem (by simp; omega) fun k h1 h2 => ?_
  have hk : k < m := by simpa using h2
  have hb : i + k < bs.length := by omega
  simp [List.getD, hb]

theorem raw_set {bs : List Bx} {i m : Nat} : ((List.range m).map fun k => bs.getD (i + k) noB).set 0 rootBx = partL bs i m 1 := by
  refine List.ext_getElem (by simp [partL]) fun k h1 h2 => ?_
  have hk : k < m := by simpa [partL] using h2
  rw [List.getElem_set]
  by_cases e : 0 = k
  · subst e; simp [partL]
  · have e0 : ¬ k = 0 := by omega
    rw [if_neg e]
    simp [partL, e0]

section
variable {bs : List Bx} {n i m : Nat}

theorem dOf_part {k : Nat} (hk : k < m) : dOf (partL bs i m m) k = dOf bs (i + k) - dOf bs i := by
  unfold dOf
  rw [partL_get hk]
  by_cases e : k = 0
  · subst e; rw [if_pos rfl]; simp [rootBx]
  · rw [if_neg e, if_pos hk]
    rfl

theorem par_part (hs : Shape (dOf bs) n) (hi : i < n) (hm : en (dOf bs) n i = i + m) {k : Nat} (h0 : 0 < k) (hk : k < m) :
    ∃ q : Nat, par (dOf (partL bs i m m)) k = q ∧ par (dOf bs) (i + k) = (i + q : Nat) ∧ q < k := by
  obtain ⟨e1, e2, e3, -⟩ := en_spec (dOf bs) n i hi
  obtain ⟨p, p1, p2, p3, p4⟩ := hs.parent (i + k) (by omega) (by omega)
  have hpi : i ≤ p := by
    rcases Nat.lt_or_ge p i with h | h
    · have h1 := p4 i h (by omega)
      have h2 := e3 (i + k) (by omega) (by omega)
      omega
    · exact h
  obtain ⟨q, rfl⟩ : ∃ q, p = i + q := ⟨p - i, by omega⟩
  refine ⟨q, ?_, p1, by omega⟩
  refine parD_here _ _ q k (by omega) ?_ (fun j a b => ?_)
  · rw [dOf_part (k := q) (by omega), dOf_part hk]; omega
  · rw [dOf_part (k := j) (by omega), dOf_part hk]
    have := p4 (i + j) (by omega) (by omega)
    omega

theorem en_part (hi : i < n) (hm : en (dOf bs) n i = i + m) {k : Nat} (h0 : 0 < k) (hk : k < m) : en (dOf bs) n (i + k) = i + en (dOf (partL bs i m m)) m k := by
  obtain ⟨e1, e2, e3, e4⟩ := en_spec (dOf bs) n i hi
  obtain ⟨g1, g2, g3, g4⟩ := en_spec (dOf bs) n (i + k) (by omega)
  have hn := en_nest (dOf bs) n i (i + k) hi (by omega) (by omega)
  have : en (dOf (partL bs i m m)) m k = en (dOf bs) n (i + k) - i := by
    refine en_here _ m k _ (by omega) (by omega) (fun j a b => ?_) ?_
    · rw [dOf_part (k := j) (by omega), dOf_part hk]
      have := g3 (i + j) (by omega) (by omega)
      omega
    · by_cases e : en (dOf bs) n (i + k) = i + m
      · exact .inl (by omega)
      · right
        rw [dOf_part (k := en (dOf bs) n (i + k) - i) (by omega), dOf_part hk, show i + (en (dOf bs) n (i + k) - i) = en (dOf bs) n (i + k) by omega]
        rcases g4 with g4 | g4 <;> omega
  omega

theorem shape_part (hs : Shape (dOf bs) n) (hi : i < n) (hm : en (dOf bs) n i = i + m) : Shape (dOf (partL bs i m m)) m := by
  obtain ⟨e1, e2, e3, -⟩ := en_spec (dOf bs) n i hi
  refine ⟨by omega, ?_, fun k a b => ?_⟩
  · rw [dOf_part (k := 0) (by omega)]; simp
  · rw [dOf_part b, dOf_part (k := k - 1) (by omega)]
    have h1 := e3 (i + k) (by omega) (by omega)
    have h2 := hs.step (i + k) (by omega) (by omega)
    rw [show i + k - 1 = i + (k - 1) by omega] at h2
    omega

theorem countP_shift (P : Nat → Bool) (i : Nat) : ∀ m, (List.range (i + m)).countP P = (List.range i).countP P + (List.range m).countP (fun k => P (i + k))
  | 0 => by simp
  | m + 1 => by
    rw [← Nat.add_assoc, List.range_succ, List.range_succ, List.countP_append, List.countP_append, countP_shift P i m]
    simp [List.countP_cons]
    omega

theorem kids_part (hs : Shape (dOf bs) n) (hi : i < n) (hm : en (dOf bs) n i = i + m) : (kids (dOf (partL bs i m m)) m 0).length = (kids (dOf bs) n i).length := by
  have h0 := (shape_part hs hi hm).en_zero
  unfold kids kidsTo
  rw [h0, hm, ← List.countP_eq_length_filter, ← List.countP_eq_length_filter, countP_shift]
  have hz : (List.range i).countP (fun c => decide (i < c) && decide (dOf bs c = dOf bs i + 1)) = 0 := by
    rw [List.countP_eq_zero]
    intro c hc
    have := List.mem_range.1 hc
    simp; omega
  rw [hz, Nat.zero_add]
  refine List.countP_congr fun c hc => ?_
  have hc' := List.mem_range.1 hc
  rw [dOf_part hc', dOf_part (k := 0) (by omega)]
  simp only [Bool.and_eq_true, decide_eq_true_eq]
  rw [show i + 0 = i by omega]
  omega

theorem fits_same {p c : Int} (hp : p = 1 ∨ p = 2 ∨ p = 3) : fitsB 3 c = fitsB p c := by
  rcases hp with rfl | rfl | rfl <;> simp [fitsB, holdsB, openB]

theorem fine_part (hf : Fine bs n) (hi : i < n) (hm : en (dOf bs) n i = i + m) (hk : ¬ (kOf bs i = 4 ∨ kOf bs i = 5)) : Fine (partL bs i m m) m := fun k hkm => by
  have h0n : 0 < n := by omega
  have hs := hf.shape h0n
  have hsp := shape_part hs hi hm
  obtain ⟨e1, e2, e3, -⟩ := en_spec (dOf bs) n i hi
  rcases Nat.eq_zero_or_pos k with e | hk0
  · subst e
    have hg : (partL bs i m m).getD 0 noB = rootBx := by rw [partL_get hkm, if_pos rfl]
    rw [badAt_root hg (by decide) (show rootB rootBx = true by decide)]
    rfl
  · have hg : (partL bs i m m).getD k noB = { bs.getD (i + k) noB with d := dOf bs (i + k) - dOf bs i } := by rw [partL_get hkm, if_neg (by omega), if_pos hkm]
    have hd := hsp.step k hk0 hkm
    have hdk := hf.depth (show i + k < n by omega)
    have hdi := hf.depth hi
    have hD := dOf_part (bs := bs) (i := i) hkm
    have hgood : pickN (brokenOf ({ bs.getD (i + k) noB with d := dOf bs (i + k) - dOf bs i } : Bx)) = 0 := by
      obtain ⟨h1, h2, h3, h4, h5, h6, h7, h8, h9, h10, h11⟩ := (good_iff _).1 (hf.check (show i + k < n by omega))
      refine (good_iff _).2 ⟨h1, h2, h3, h4, h5, h6, h7, h8, h9, h10, ?_⟩
      show 0 ≤ dOf bs (i + k) - dOf bs i ∧ dOf bs (i + k) - dOf bs i ≤ 256
      omega
    obtain ⟨q, q1, q2, q3⟩ := par_part hs hi hm hk0 hkm
    have hfit : fitsB (kOf bs (i + q)) (bs.getD (i + k) noB).k = true := by
      have hb := hf (i + k) (by omega)
      have hbd : ¬ ((bs.getD (i + k) noB).d = 0 ∨ dOf bs (i + k - 1) + 1 < (bs.getD (i + k) noB).d) := by
        have := hs.step (i + k) (by omega) (by omega)
        unfold dOf at this ⊢
        omega
      cases hv : fitsB (kOf bs (i + q)) (bs.getD (i + k) noB).k
      · rw [badAt_fits (v := false) rfl (hf.check (by omega)) (by omega) hbd (by rw [q2, Int.toNat_natCast]; exact hv)] at hb
        simp at hb
      · rfl
    refine (badAt_fits (v := true) hg hgood hk0 ?_ ?_).trans rfl
    · show ¬ (dOf bs (i + k) - dOf bs i = 0 ∨ dOf (partL bs i m m) (k - 1) + 1 < dOf bs (i + k) - dOf bs i)
      rw [← hD]
      omega
    · rw [q1, Int.toNat_natCast]
      show fitsB (kOf (partL bs i m m) q) (bs.getD (i + k) noB).k = true
      rw [← hfit]
      by_cases eq : q = 0
      · subst eq
        have : kOf (partL bs i m m) 0 = 3 := by unfold kOf; rw [partL_get (by omega), if_pos rfl]; rfl
        rw [this]
        have hki := ((good_iff _).1 (hf.check hi)).1
        refine fits_same ?_
        rw [show i + 0 = i by omega]
        unfold kOf at hk ⊢
        omega
      · have : kOf (partL bs i m m) q = kOf bs (i + q) := by unfold kOf; rw [partL_get (by omega), if_neg eq, if_pos (by omega)]
        rw [this]
end

end Go.Proofs.Ytmmmlegjhblfaaa.Tree
