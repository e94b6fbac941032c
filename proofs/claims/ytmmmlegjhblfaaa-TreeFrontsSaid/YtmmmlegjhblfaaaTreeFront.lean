/- The front of a list of boxes: what stands where in it; no program is in it. -/
import Derived.Test.YtmmmlegjhblfaaaTreeChk
import Derived.Test.YtmmmlegjhblfaaaTreeMath
namespace Go.Proofs.Ytmmmlegjhblfaaa.Tree
open Go.Proofs.Ytmmmlegjhblfaaa.Record Go.Proofs.Ytmmmlegjhblfaaa.Script

theorem parD_congr {d d' : Nat → Int} (x : Int) : ∀ k, (∀ j, j < k → d j = d' j) → parD d x k = parD d' x k
  | 0, _ => rfl
  | k + 1, h => by
    unfold parD
    rw [h k (by omega), parD_congr x k (fun j hj => h j (by omega))]

theorem par_congr {d d' : Nat → Int} (i : Nat) (h : ∀ j, j ≤ i → d j = d' j) : par d i = par d' i := by
  unfold par
  rw [h i (Nat.le_refl _)]
  exact parD_congr _ i (fun j hj => h j (by omega))

theorem ctxN_congr {d d' : Nat → Int} {o o' : Nat → Bool} (p : Nat) (h : ∀ j, j ≤ p → d j = d' j) (g : ∀ j, j ≤ p → o j = o' j) : ctxN d o p = ctxN d' o' p := by
  induction p using Nat.strongRecOn with
  | _ p ih =>
    by_cases h0 : p = 0
    · subst h0; rw [ctxN_zero, ctxN_zero]
    · have hb := par_bounds d p
      cases ho : o p
      · rw [ctxN_next d o p ho, ctxN_next d' o' p (by rw [← g p (Nat.le_refl _)]; exact ho), ← par_congr p h]
        exact ih _ (by omega) (fun j hj => h j (by omega)) (fun j hj => g j (by omega))
      · rw [ctxN_open d o p ho, ctxN_open d' o' p (by rw [← g p (Nat.le_refl _)]; exact ho)]

theorem ctx_congr {d d' : Nat → Int} {o o' : Nat → Bool} (i : Nat) (h : ∀ j, j ≤ i → d j = d' j) (g : ∀ j, j ≤ i → o j = o' j) : ctx d o i = ctx d' o' i := by
  have hb := par_bounds d i
  unfold ctx
  rw [← par_congr i h]
  exact ctxN_congr _ (fun j hj => h j (by omega)) (fun j hj => g j (by omega))

theorem en_congr {d d' : Nat → Int} (n i : Nat) (hi : i < n) (h : ∀ j, j < n → d j = d' j) : en d n i = en d' n i := by
  obtain ⟨h1, h2, h3, h4⟩ := en_spec d' n i hi
  refine en_here d n i _ h1 h2 (fun m a b => by rw [h i hi, h m (by omega)]; exact h3 m a b) ?_
  rcases h4 with h4 | h4
  · exact .inl h4
  · by_cases e : en d' n i = n
    · exact .inl e
    · exact .inr (by rw [h i hi, h _ (by omega)]; exact h4)

theorem en_front (d : Nat → Int) (n m i : Nat) (hi : i < m) (hm : m ≤ n) : en d m i = min (en d n i) m := by
  obtain ⟨h1, h2, h3, h4⟩ := en_spec d n i (by omega)
  refine en_here d m i _ (by omega) (by omega) (fun k a b => h3 k a (by omega)) ?_
  by_cases e : m ≤ en d n i
  · exact .inl (by omega)
  · have e2 : min (en d n i) m = en d n i := by omega
    rw [e2]
    rcases h4 with h4 | h4
    · omega
    · exact .inr h4

theorem getD_take {bs : List Bx} {m k : Nat} (hk : k < m) : (bs.take m).getD k noB = bs.getD k noB := by
  simp only [List.getD, List.getElem?_take, if_pos hk]

theorem dOf_take {bs : List Bx} {m k : Nat} (hk : k < m) : dOf (bs.take m) k = dOf bs k := by
  unfold dOf; rw [getD_take hk]
theorem kOf_take {bs : List Bx} {m k : Nat} (hk : k < m) : kOf (bs.take m) k = kOf bs k := by
  unfold kOf; rw [getD_take hk]
theorem oOf_take {bs : List Bx} {m k : Nat} (hk : k < m) : oOf (bs.take m) k = oOf bs k := by
  unfold oOf; rw [getD_take hk]

theorem badAt_take {bs : List Bx} {m j : Nat} (hj : j < m) : badAt (bs.take m) j = badAt bs j := by
  have hb := par_bounds (dOf bs) j
  have hp : par (dOf (bs.take m)) j = par (dOf bs) j := par_congr j (fun k hk => dOf_take (by omega))
  unfold badAt
  rw [hp, getD_take hj, dOf_take hj, dOf_take (show j - 1 < m by omega), kOf_take hj, kOf_take (show (par (dOf bs) j).toNat < m by omega)]

theorem Fine.take {bs : List Bx} {n m : Nat} (h : Fine bs n) (hm : m ≤ n) : Fine (bs.take m) m := fun j hj => by
  rw [badAt_take hj]; exact h j (by omega)

theorem Boxes.take {w : Go.World} {B : Nat} {A : Option Go.Addr} {bs : List Bx} (h : Boxes w B A bs) (m : Nat) : Boxes w B A (bs.take m) := fun k hk => by
  rw [List.length_take] at hk
  rw [getD_take (by omega)]
  exact h k (by omega)

end Go.Proofs.Ytmmmlegjhblfaaa.Tree
