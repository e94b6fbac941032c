/- Texts of this proof that follow each other, in one file. -/
import Derived.Test.YtdibdfalahjmbaaPart26
/-! Who lays items: the first ones of many are laid as all of them are, as far as the lines go that are ended. No program is in it. -/
namespace Go.Proofs.Ytdibdfalahjmbaa.Text
open Go.Proofs.Ytdibdfalahjmbaa.Shelf Go.Proofs.Ytdibdfalahjmbaa.Space Go.Proofs.Ytdibdfalahjmbaa.Place Go.Proofs.Ytdibdfalahjmbaa.Line
set_option linter.unusedVariables false

theorem itAt_take {its : List It} {n i : Nat} (h : i < n) : itAt (its.take n) i = itAt its i := by
  unfold itAt
  rw [List.getD_eq_getElem?_getD, List.getD_eq_getElem?_getD, List.getElem?_take_of_lt h]

theorem step_out (its : List It) (s : Ly) (k : Nat) : ∃ more, (s.step its k).out = s.out ++ more := by
  unfold Ly.step
  split
  · unfold Ly.atom
    split
    · exact ⟨[], (List.append_nil _).symm⟩
    · show ∃ more, s.outs = s.out ++ more
      unfold Ly.outs
      split
      · exact ⟨[], (List.append_nil _).symm⟩
      · exact ⟨_, rfl⟩
  · unfold Ly.float
    split
    · exact ⟨[], (List.append_nil _).symm⟩
    · split
      · split <;> exact ⟨[], (List.append_nil _).symm⟩
      · exact ⟨[], (List.append_nil _).symm⟩
theorem layK_out (fs : List Fl) (f t y : Int) (its : List It) (k d : Nat) : ∃ more, (layK fs f t y its (k + d)).out = (layK fs f t y its k).out ++ more := by
  induction d with
  | zero => exact ⟨[], (List.append_nil _).symm⟩
  | succ d ih =>
    obtain ⟨a, ha⟩ := ih
    obtain ⟨b, hb⟩ := step_out its (layK fs f t y its (k + d)) (k + d)
    exact ⟨a ++ b, by rw [← List.append_assoc, ← ha]; exact hb⟩
theorem outs_is (s : Ly) : s.outs = s.out ∨ s.outs = s.out ++ [(s.m, s.row)] := by
  unfold Ly.outs
  split
  · exact .inl rfl
  · exact .inr rfl

theorem outs_core {s s' : Ly} (h : s.core = s'.core) : s.outs = s'.outs := by
  have h1 : s.m = s'.m := congrArg Core.m h
  have h2 : s.row = s'.row := congrArg Core.row h
  have h4 : s.out = s'.out := congrArg Core.out h
  unfold Ly.outs
  rw [h1, h2, h4]
theorem outs_len (s : Ly) : s.outs.length = s.out.length + if s.m.az = [] then 0 else 1 := by
  unfold Ly.outs
  split
  · rename_i q; rw [if_pos q]; rfl
  · rename_i q; rw [if_neg (by rw [q]; exact List.cons_ne_nil _ _)]; exact List.length_append
theorem beside_az (m : Mk) (w : Wt) : (m.beside w).1.az = m.az := by
  unfold Mk.beside
  split
  · rfl
  · dsimp only; split <;> rfl
theorem step_count (its : List It) (s : Ly) (k : Nat) : s.outs.length ≤ (s.step its k).outs.length := by
  unfold Ly.step
  split
  · unfold Ly.atom
    split
    · rename_i q
      rw [outs_len, outs_len]
      dsimp only
      rw [add_az q, if_neg (show ¬ s.m.az ++ [(itAt its k).z] = [] by simp)]
      split <;> omega
    · refine Nat.le_trans ?_ (Nat.le_of_eq (outs_len _).symm)
      exact Nat.le_add_right _ _
  · unfold Ly.float
    split
    · rw [outs_len, outs_len]
      exact Nat.le_refl _
    · split
      · split
        · rw [outs_len, outs_len]
          dsimp only
          rw [beside_az]
          exact Nat.le_refl _
        · exact Nat.le_refl _
      · exact Nat.le_refl _
theorem layK_count (fs : List Fl) (f t y : Int) (its : List It) (k d : Nat) : (layK fs f t y its k).outs.length ≤ (layK fs f t y its (k + d)).outs.length := by
  induction d with
  | zero => exact Nat.le_refl _
  | succ d ih => exact Nat.le_trans ih (step_count its (layK fs f t y its (k + d)) (k + d))

section
variable {fs : List Fl} {f t y Z : Int} {its : List It} (hr : ∀ x ∈ its, RightI x) (hz : Z + 2147483648 * (its.length : Int) ≤ 140737488355328 + 140000000000000) (h : Lo Z ⟨fs, f, t, y, 0, []⟩)
include hr hz h

theorem layK_take {n : Nat} (hn : n ≤ its.length) (k : Nat) (hk : k ≤ n) : (layK fs f t y (its.take n) k).core = (layK fs f t y its k).core := by
  induction k with
  | zero => rfl
  | succ k ih =>
    have h1 := ih (by omega)
    have hw : ∀ i ∈ (layK fs f t y its k).wait, i < k := fun i hi => ((layK_keep hr h hz k (by omega)).wt i hi).1
    have h3 : (layK fs f t y (its.take n) k).wait = (layK fs f t y its k).wait := congrArg Core.wait h1
    exact step_core h1 (fun i hi => itAt_take (by have := hw i (by rw [← h3]; exact hi); omega)) (itAt_take (by omega))

/-- All lines but the last one are lines of all. -/
theorem fronts_lines {n : Nat} (hn : n ≤ its.length) {i : Nat} (hi : i + 1 < (layD fs f t y (its.take n)).out.length) : i < (layD fs f t y its).out.length ∧ (layD fs f t y (its.take n)).out[i]? = (layD fs f t y its).out[i]? := by
  have hl : (its.take n).length = n := by rw [List.length_take]; omega
  have hc := layK_take hr hz h hn n (Nat.le_refl _)
  have e1 : (layD fs f t y (its.take n)).out = (layK fs f t y (its.take n) n).outs := by unfold layD; rw [hl]; rfl
  have e2 : (layD fs f t y its).out = (layK fs f t y its its.length).outs := rfl
  have eo : (layK fs f t y (its.take n) n).out = (layK fs f t y its n).out := congrArg Core.out hc
  obtain ⟨a, ha⟩ := layK_out fs f t y its n (its.length - n)
  rw [show n + (its.length - n) = its.length by omega] at ha
  have hi2 : i < (layK fs f t y its n).out.length := by
    rw [e1] at hi
    rcases outs_is (layK fs f t y (its.take n) n) with q | q
    · rw [q, eo] at hi; omega
    · rw [q, eo, List.length_append, List.length_singleton] at hi; omega
  have g1 : (layD fs f t y (its.take n)).out[i]? = (layK fs f t y its n).out[i]? := by
    rw [e1]
    rcases outs_is (layK fs f t y (its.take n) n) with q | q
    · rw [q, eo]
    · rw [q, eo, List.getElem?_append_left hi2]
  have g2 : (layD fs f t y its).out[i]? = (layK fs f t y its n).out[i]? := by
    rw [e2]
    have g3 : (layK fs f t y its its.length).out[i]? = (layK fs f t y its n).out[i]? := by rw [ha, List.getElem?_append_left hi2]
    have g4 : i < (layK fs f t y its its.length).out.length := by rw [ha, List.length_append]; omega
    rcases outs_is (layK fs f t y its its.length) with q | q
    · rw [q]; exact g3
    · rw [q, List.getElem?_append_left g4]; exact g3
  refine ⟨?_, g1.trans g2.symm⟩
  have : (layD fs f t y its).out[i]? = some (layK fs f t y its n).out[i] := by rw [g2]; exact List.getElem?_eq_getElem hi2
  exact (List.getElem?_eq_some_iff.1 this).1

/-- There are no more lines of the first ones. -/
theorem fronts_few {n : Nat} (hn : n ≤ its.length) : (layD fs f t y (its.take n)).out.length ≤ (layD fs f t y its).out.length := by
  have hl : (its.take n).length = n := by rw [List.length_take]; omega
  have hc := layK_take hr hz h hn n (Nat.le_refl _)
  have e1 : (layD fs f t y (its.take n)).out = (layK fs f t y (its.take n) n).outs := by unfold layD; rw [hl]; rfl
  have e2 : (layD fs f t y its).out = (layK fs f t y its its.length).outs := rfl
  have := layK_count fs f t y its n (its.length - n)
  rw [show n + (its.length - n) = its.length by omega] at this
  rw [e1, e2, outs_core hc]
  exact this
end

end Go.Proofs.Ytdibdfalahjmbaa.Text

/-! Who lays items: the order of what is laid. No program is in it. -/
namespace Go.Proofs.Ytdibdfalahjmbaa.Text
open Go.Proofs.Ytdibdfalahjmbaa.Shelf Go.Proofs.Ytdibdfalahjmbaa.Space Go.Proofs.Ytdibdfalahjmbaa.Place Go.Proofs.Ytdibdfalahjmbaa.Line
set_option linter.unusedVariables false

theorem atomsK_rise (its : List It) (k : Nat) : (atomsK its k).Pairwise (fun i j => i < j) := List.Pairwise.filter _ List.pairwise_lt_range
theorem floatsK_rise (its : List It) (k : Nat) : (floatsK its k).Pairwise (fun i j => i < j) := List.Pairwise.filter _ List.pairwise_lt_range
theorem pair_of {R : Nat → Nat → Prop} {l : List Nat} (h : l.Pairwise R) (k : l.Pairwise (fun i j => i < j)) {i j : Nat} (hi : i ∈ l) (hj : j ∈ l) (hij : i < j) : R i j := by
  induction l with
  | nil => cases hi
  | cons a l ih =>
    obtain ⟨h1, h2⟩ := List.pairwise_cons.1 h
    obtain ⟨k1, k2⟩ := List.pairwise_cons.1 k
    rcases List.mem_cons.1 hi with e | e
    · rcases List.mem_cons.1 hj with g | g
      · omega
      · rw [e]; exact h1 j g
    · rcases List.mem_cons.1 hj with g | g
      · have := k1 i e; omega
      · exact ih h2 k2 e g

theorem tops_pair {bs : List Bx} {es : List (Mk × List Nat)} : ∀ {y z : Int}, Chain y es z → (∀ e ∈ es, ∀ i ∈ e.2, (bxAt bs i).t = e.1.top) →
    (es.flatMap fun e => e.2).Pairwise (fun i j => (bxAt bs i).t ≤ (bxAt bs j).t) ∧ ∀ i ∈ es.flatMap (fun e => e.2), y ≤ (bxAt bs i).t := by
  induction es with
  | nil => intro y z _ _; exact ⟨List.Pairwise.nil, fun i hi => absurd hi List.not_mem_nil⟩
  | cons e es ih =>
    intro y z hc ht
    obtain ⟨h1, h2, h3, h4⟩ := hc
    obtain ⟨g1, g2⟩ := ih h4 fun a ha => ht a (List.mem_cons_of_mem _ ha)
    have te := ht e List.mem_cons_self
    rw [List.flatMap_cons]
    refine ⟨List.pairwise_append.2 ⟨?_, g1, fun i hi j hj => ?_⟩, fun i hi => ?_⟩
    · exact List.Pairwise.imp_of_mem (fun ha hb _ => by have := te _ ha; have := te _ hb; omega) (List.pairwise_of_forall (R := fun _ _ => True) fun _ _ => trivial)
    · have := te i hi; have := g2 j hj; omega
    · rcases List.mem_append.1 hi with q | q
      · have := te i q; omega
      · have := g2 i q; omega

section
variable {fs : List Fl} {f t y Z : Int} {its : List It} {s : Ly} {k : Nat}

theorem Told.top (T : Told fs f t y its k s) : ∀ e ∈ s.out, ∀ i ∈ e.2, (bxAt s.box i).t = e.1.top := by
  intro e he i hi
  obtain ⟨q, hq⟩ := List.getElem?_of_mem hi
  rw [T.bx e he q i hq]

/-- An atom stands no higher than one ahead, nor above the height. -/
theorem Told.atoms_rise (T : Told fs f t y its k s) (hrow : s.row = []) {i j : Nat} (hi : i ∈ atomsK its k) (hj : j ∈ atomsK its k) (hij : i < j) : (bxAt s.box i).t ≤ (bxAt s.box j).t := by
  have h := (tops_pair T.ch T.top).1
  have e := T.at'
  rw [hrow, List.append_nil] at e
  rw [← e] at h
  exact pair_of (R := fun i j => (bxAt s.box i).t ≤ (bxAt s.box j).t) h (atomsK_rise its k) hi hj hij
theorem Told.atoms_low (T : Told fs f t y its k s) (hrow : s.row = []) {i : Nat} (hi : i ∈ atomsK its k) : y ≤ (bxAt s.box i).t := by
  have h := (tops_pair T.ch T.top).2
  have e := T.at'
  rw [hrow, List.append_nil] at e
  rw [← e] at h
  exact h i hi

/-- So do floats. -/
theorem Told.floats_at (T : Told fs f t y its k s) (hw : s.wait = []) {p i : Nat} (h : (floatsK its k)[p]? = some i) : s.m.fs[fs.length + p]? = some (flAt its s.box i) := by
  obtain ⟨dn, d1, d2⟩ := T.ft
  rw [hw, List.append_nil] at d1
  rw [d1] at h
  rw [d2, List.getElem?_append_right (by omega), Nat.add_sub_cancel_left, List.getElem?_map, h]
  rfl
theorem Told.floats_low (T : Told fs f t y its k s) (hw : s.wait = []) {i : Nat} (hi : i ∈ floatsK its k) : y ≤ (bxAt s.box i).t := by
  obtain ⟨p, hp⟩ := List.getElem?_of_mem hi
  exact (T.ld _ _ (T.floats_at hw hp) (by omega)).1
theorem Told.floats_rise (T : Told fs f t y its k s) (hw : s.wait = []) {i j : Nat} (hi : i ∈ floatsK its k) (hj : j ∈ floatsK its k) (hij : i < j) : (bxAt s.box i).t ≤ (bxAt s.box j).t := by
  obtain ⟨p, hp⟩ := List.getElem?_of_mem hi
  obtain ⟨q, hq⟩ := List.getElem?_of_mem hj
  have hpq : p < q := by
    rcases Nat.lt_trichotomy p q with g | g | g
    · exact g
    · subst g; rw [hp] at hq; injection hq with e; omega
    · have h1 := List.getElem?_eq_some_iff.1 hp
      have h2 := List.getElem?_eq_some_iff.1 hq
      have := List.pairwise_iff_getElem.1 (floatsK_rise its k) q p h2.1 h1.1 g
      rw [h1.2, h2.2] at this
      omega
  exact ((T.ld _ _ (T.floats_at hw hq) (by omega)).2 _ _ (by omega) (T.floats_at hw hp)).1

/-- All floats: those of before, and these. -/
theorem Told.floats_all (T : Told fs f t y its k s) (hw : s.wait = []) : s.m.fs = fs ++ (floatsK its k).map (flAt its s.box) := by
  obtain ⟨dn, d1, d2⟩ := T.ft
  rw [hw, List.append_nil] at d1
  rw [d1]
  exact d2
end

end Go.Proofs.Ytdibdfalahjmbaa.Text

/-! Who lays items: a walk over the atoms, line by line. No program is in it. -/
namespace Go.Proofs.Ytdibdfalahjmbaa.Text
open Go.Proofs.Ytdibdfalahjmbaa.Shelf Go.Proofs.Ytdibdfalahjmbaa.Space Go.Proofs.Ytdibdfalahjmbaa.Place Go.Proofs.Ytdibdfalahjmbaa.Line
set_option linter.unusedVariables false

/-- After so many atoms, with so many lines begun, and so many atoms of the last of them left. -/
structure AtRow (out : List (Mk × List Nat)) (a n left : Nat) : Prop where
  len : ((out.take n).flatMap fun e => e.2).length = a + left
  le : n ≤ out.length
  last : 0 < left → ∃ e, 0 < n ∧ out[n - 1]? = some e ∧ left ≤ e.2.length

theorem flat_split {out : List (Mk × List Nat)} {n : Nat} {e : Mk × List Nat} (h : out[n]? = some e) : out.flatMap (fun e => e.2) = (out.take n).flatMap (fun e => e.2) ++ (e.2 ++ (out.drop (n + 1)).flatMap (fun e => e.2)) := by
  have h1 := List.getElem?_eq_some_iff.1 h
  have e1 : out = out.take n ++ e :: out.drop (n + 1) := by
    rw [← h1.2, ← List.drop_eq_getElem_cons h1.1, List.take_append_drop]
  conv => lhs; rw [e1]
  rw [List.flatMap_append, List.flatMap_cons]
theorem flat_at {out : List (Mk × List Nat)} {n q : Nat} {e : Mk × List Nat} (h : out[n]? = some e) (hq : q < e.2.length) : (out.flatMap fun e => e.2)[((out.take n).flatMap fun e => e.2).length + q]? = e.2[q]? := by
  rw [flat_split h, List.getElem?_append_right (by omega), Nat.add_sub_cancel_left, List.getElem?_append_left hq]
theorem flat_take {out : List (Mk × List Nat)} {n : Nat} {e : Mk × List Nat} (h : out[n]? = some e) : ((out.take (n + 1)).flatMap fun e => e.2).length = ((out.take n).flatMap fun e => e.2).length + e.2.length := by
  rw [List.take_add_one, h, List.flatMap_append, List.length_append]
  simp

theorem atRow_start (out : List (Mk × List Nat)) : AtRow out 0 0 0 := ⟨rfl, Nat.zero_le _, fun h => absurd h (Nat.lt_irrefl _)⟩
/-- A line begins. -/
theorem atRow_next {out : List (Mk × List Nat)} {a n : Nat} (h : AtRow out a n 0) (ha : a < (out.flatMap fun e => e.2).length) : ∃ e, out[n]? = some e ∧ AtRow out a (n + 1) e.2.length := by
  have hn : n < out.length := by
    rcases Nat.lt_or_ge n out.length with g | g
    · exact g
    · have := h.len
      rw [List.take_of_length_le g] at this
      omega
  have he := List.getElem?_eq_getElem hn
  refine ⟨out[n], he, ?_, by omega, fun _ => ⟨out[n], by omega, he, Nat.le_refl _⟩⟩
  rw [flat_take he, h.len]
  omega
/-- An atom of a line. -/
theorem atRow_atom {out : List (Mk × List Nat)} {a n l : Nat} (h : AtRow out a n (l + 1)) : ∃ e, 0 < n ∧ out[n - 1]? = some e ∧ l + 1 ≤ e.2.length ∧ (out.flatMap fun e => e.2)[a]? = e.2[e.2.length - (l + 1)]? ∧ AtRow out (a + 1) n l := by
  obtain ⟨e, h1, h2, h3⟩ := h.last (by omega)
  have ht := flat_take h2
  rw [show n - 1 + 1 = n by omega, h.len] at ht
  have hat := flat_at (q := e.2.length - (l + 1)) h2 (by omega)
  refine ⟨e, h1, h2, h3, ?_, ?_, h.le, fun _ => ⟨e, h1, h2, by omega⟩⟩
  · rw [← hat]
    congr 1
    omega
  · rw [h.len]; omega
theorem atRow_end {out : List (Mk × List Nat)} {n left : Nat} (h : AtRow out (out.flatMap fun e => e.2).length n left) (hne : ∀ e ∈ out, e.2 ≠ []) : left = 0 ∧ n = out.length := by
  have e1 : out.flatMap (fun e => e.2) = (out.take n).flatMap (fun e => e.2) ++ (out.drop n).flatMap (fun e => e.2) := by rw [← List.flatMap_append, List.take_append_drop]
  have e2 := congrArg List.length e1
  rw [List.length_append, h.len] at e2
  refine ⟨by omega, ?_⟩
  rcases Nat.lt_or_ge n out.length with g | g
  · exfalso
    have hd := List.drop_eq_getElem_cons g
    rw [hd, List.flatMap_cons, List.length_append] at e2
    have := List.length_pos_iff.2 (hne _ (List.getElem_mem g))
    omega
  · have := h.le; omega

theorem highL_ge {l : List Sz} {z : Sz} (h : z ∈ l) : z.ht ≤ highL l := by
  rw [← List.reverse_reverse l] at h ⊢
  generalize l.reverse = k at *
  induction k with
  | nil => cases h
  | cons a k ih =>
    rw [List.reverse_cons] at h ⊢
    rw [highL_snoc]
    rcases List.mem_append.1 h with g | g
    · have := ih g
      split <;> omega
    · rw [List.mem_singleton.1 g]
      split <;> omega

section
variable {fs : List Fl} {f t y : Int} {its : List It} {s : Ly} {k : Nat}
/-- What an atom's box tells: it stands in its line's rows; the first one at the line's left edge. -/
theorem Told.row (T : Told fs f t y its k s) {e : Mk × List Nat} (he : e ∈ s.out) {q i : Nat} (hq : e.2[q]? = some i) :
    (bxAt s.box i).t = e.1.top ∧ (bxAt s.box i).b ≤ e.1.b ∧ (q = 0 → (bxAt s.box i).l = e.1.l) ∧ (bxAt s.box i).r - (bxAt s.box i).l = (itAt its i).wd ∧ (bxAt s.box i).b - (bxAt s.box i).t = (itAt its i).ht := by
  have hb := T.bx e he q i hq
  have hz : (itAt its i).z ∈ e.1.az := by
    rw [(T.ln e he).1]
    exact List.mem_map_of_mem (List.mem_of_getElem? hq)
  have hh : (itAt its i).ht ≤ highL e.1.az := highL_ge hz
  rw [hb]
  refine ⟨rfl, ?_, fun e0 => ?_, ?_, ?_⟩
  · show e.1.top + (itAt its i).ht ≤ e.1.top + highL e.1.az
    omega
  · subst e0
    show e.1.l + 0 = e.1.l
    omega
  · dsimp only; omega
  · dsimp only; omega
/-- A float's box has its size. -/
theorem placed_size (fs : List Fl) (w : Wt) : (placed fs w).r - (placed fs w).l = w.wd ∧ (placed fs w).b - (placed fs w).t = w.ht := by
  unfold placed
  dsimp only
  omega
end

end Go.Proofs.Ytdibdfalahjmbaa.Text

/-! Who lays items: each float's box has its size. No program is in it. -/
namespace Go.Proofs.Ytdibdfalahjmbaa.Text
open Go.Proofs.Ytdibdfalahjmbaa.Shelf Go.Proofs.Ytdibdfalahjmbaa.Space Go.Proofs.Ytdibdfalahjmbaa.Place Go.Proofs.Ytdibdfalahjmbaa.Line
set_option linter.unusedVariables false

def Sized (its : List It) (k : Nat) (s : Ly) : Prop := ∀ i, i < k → (itAt its i).sd ≠ 0 → i ∉ s.wait → (bxAt s.box i).r - (bxAt s.box i).l = (itAt its i).wd ∧ (bxAt s.box i).b - (bxAt s.box i).t = (itAt its i).ht

theorem sized_set {its : List It} {bs : List Bx} {k : Nat} {wait wait' : List Nat} {i : Nat} {fs : List Fl} {f t y : Int} {r : Fl} (hi : i < bs.length) (hr : r = placed fs ((itAt its i).want f t y))
    (h : ∀ j, j < k → (itAt its j).sd ≠ 0 → j ∉ wait → (bxAt bs j).r - (bxAt bs j).l = (itAt its j).wd ∧ (bxAt bs j).b - (bxAt bs j).t = (itAt its j).ht) {k' : Nat} (hk : ∀ j, j < k' → j ≠ i → j ∉ wait' → j < k ∧ j ∉ wait) :
    ∀ j, j < k' → (itAt its j).sd ≠ 0 → j ∉ wait' → (bxAt (bs.set i (bxOf r)) j).r - (bxAt (bs.set i (bxOf r)) j).l = (itAt its j).wd ∧ (bxAt (bs.set i (bxOf r)) j).b - (bxAt (bs.set i (bxOf r)) j).t = (itAt its j).ht := by
  intro j h1 h2 h3
  by_cases e : j = i
  · subst e
    rw [bxAt_eq hi, hr]
    exact placed_size fs ((itAt its j).want f t y)
  · rw [bxAt_ne fun e' => e e'.symm]
    have := hk j h1 e h3
    exact h j this.1 h2 this.2

theorem sized_micro {Z : Int} {its : List It} : Micro its Z (Sized its) := by
  refine ⟨fun k s K hk h0 ha T => ?_, fun k s K hk hne T => ?_, fun k s i ws K hk ha hw T => ?_, fun k s K hk h0 ha hw T => ?_, fun k s r K hk h0 hne hw hb T => ?_, fun k s K hk h0 hne T => ?_⟩
  · intro i h1 h2 h3
    exact T i (by rcases Nat.lt_or_ge i k with g | g; · exact g
                  · exact absurd (by rw [show i = k by omega]; exact h0) h2) h2 h3
  · intro i h1 h2 h3
    show (bxAt (setRow its s.m.top s.m.l s.row s.box) i).r - (bxAt (setRow its s.m.top s.m.l s.row s.box) i).l = _ ∧ (bxAt (setRow its s.m.top s.m.l s.row s.box) i).b - (bxAt (setRow its s.m.top s.m.l s.row s.box) i).t = _
    rw [setRow_out its s.m.top s.row i fun hm => h2 (K.rw' i hm).2]
    exact T i h1 h2 h3
  · have hi := K.wt i (by rw [hw]; exact List.mem_cons_self)
    refine sized_set (wait := s.wait) (wait' := s.wait.tail) (k := k) (by rw [K.bl]; omega) rfl T fun j h1 h2 h3 => ⟨h1, fun h4 => ?_⟩
    rw [hw] at h3 h4
    rcases List.mem_cons.1 h4 with e | e
    · exact h2 e
    · exact h3 e
  · exact sized_set (wait := s.wait) (wait' := s.wait) (k := k) (by rw [K.bl]; omega) rfl T fun j h1 h2 h3 => ⟨by omega, h3⟩
  · exact sized_set (wait := s.wait) (wait' := s.wait) (k := k) (by rw [K.bl]; omega) (beside_some hb).1 T fun j h1 h2 h3 => ⟨by omega, h3⟩
  · intro i h1 h2 h3
    have h4 : i ∉ s.wait := fun h => h3 (List.mem_append_left _ h)
    have h5 : i ≠ k := fun e => h3 (List.mem_append_right _ (by rw [e]; exact List.mem_singleton.2 rfl))
    exact T i (by omega) h2 h4

theorem layD_sized {fs : List Fl} {f t y Z : Int} {its : List It} (hr : ∀ x ∈ its, RightI x) (hz : Z + 2147483648 * (its.length : Int) ≤ 140737488355328 + 140000000000000) (h : Lo Z ⟨fs, f, t, y, 0, []⟩) : Sized its its.length (layD fs f t y its) :=
  layD_so hr hz sized_micro h (fun i hi => absurd hi (Nat.not_lt_zero _))

/-- What is laid has neither a line nor one that waits; its box list is as long as the items; its numbers are small. -/
theorem layD_ends {fs : List Fl} {f t y Z : Int} {its : List It} (hr : ∀ x ∈ its, RightI x) (hz : Z + 2147483648 * (its.length : Int) ≤ 140737488355328 + 140000000000000) (h : Lo Z ⟨fs, f, t, y, 0, []⟩) :
    (layD fs f t y its).wait = [] ∧ (layD fs f t y its).row = [] ∧ (layD fs f t y its).m.az = [] ∧ (layD fs f t y its).box.length = its.length ∧ Lo (Z + 2147483648 * (its.length : Int)) (layD fs f t y its).m := by
  obtain ⟨h1, h2, h3⟩ := fin_keep hr (layK_keep hr h hz _ (Nat.le_refl _)) (Nat.le_refl _) hz
  exact ⟨rfl, rfl, h2, h3, h1⟩

end Go.Proofs.Ytdibdfalahjmbaa.Text
