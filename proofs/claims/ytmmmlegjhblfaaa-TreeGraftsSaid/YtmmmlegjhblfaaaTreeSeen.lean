/- A list of numbers in which places are marked; a list of one's own that is written; the places of the boxes with a context. -/
import Derived.Test.YtmmmlegjhblfaaaTreeMath
import Derived.Test.YtmmmlegjhblfaaaTreeStands
namespace Go.Proofs.Ytmmmlegjhblfaaa.Tree
open Go.RowKit Go.Sort Go.Proofs.Ytmmmlegjhblfaaa.Record Go.Proofs.Ytmmmlegjhblfaaa.Script

def seenL (n : Nat) (P : Nat → Bool) : List Int := (List.range n).map fun c => if P c then (1 : Int) else 0

theorem seenL_len (n : Nat) (P : Nat → Bool) : (seenL n P).length = n := by simp [seenL]

theorem seenL_get {n : Nat} {P : Nat → Bool} {k : Nat} (hk : k < n) : (seenL n P).getD k 0 = if P k then 1 else 0 := by
  simp [seenL, List.getD, hk]

theorem seenL_congr {n : Nat} {P Q : Nat → Bool} (h : ∀ c, c < n → P c = Q c) : seenL n P = seenL n Q := by
  unfold seenL
  refine List.map_congr_left fun c hc => ?_
  rw [h c (List.mem_range.1 hc)]

theorem seenL_set {n : Nat} {P Q : Nat → Bool} {k : Nat} (hQ : Q k = true) (h : ∀ c, c < n → c ≠ k → P c = Q c) : (seenL n P).set k 1 = seenL n Q := by
  refine List.ext_getElem (by simp [seenL]) fun i h1 h2 => ?_
  have hi : i < n := by simpa [seenL] using h2
  rw [List.getElem_set]
  by_cases e : k = i
  · subst e; simp [seenL, hQ]
  · rw [if_neg e]; simp [seenL, h i hi (fun x => e x.symm)]

theorem seenL_zero (n : Nat) : List.replicate n (0 : Int) = seenL n (fun _ => false) := by
  refine List.ext_getElem (by simp [seenL]) fun i h1 h2 => ?_
  simp [seenL]

/-- Which boxes stand in one of the first k. -/
def inB (d : Nat → Int) (k c : Nat) : Bool := decide (0 ≤ par d c) && decide (par d c < (k : Int))

/-- .. or are among the first j of those that stand in k. -/
def inK (d : Nat → Int) (n k j c : Nat) : Bool := inB d k c || ((kids d n k).take j).contains c

theorem inB_zero (d : Nat → Int) (c : Nat) : inB d 0 c = false := by
  unfold inB
  rw [Bool.and_eq_false_iff, decide_eq_false_iff_not, decide_eq_false_iff_not]
  omega

theorem inK_zero (d : Nat → Int) (n k c : Nat) : inK d n k 0 c = inB d k c := by simp [inK]

theorem Shape.inK_all {d : Nat → Int} {n : Nat} (h : Shape d n) (k c : Nat) (hk : k < n) (hc : c < n) : inK d n k (kids d n k).length c = inB d (k + 1) c := by
  have hi := h.kid_iff k c hk hc
  unfold inK inB
  rw [List.take_length, Bool.eq_iff_iff]
  simp only [Bool.or_eq_true, Bool.and_eq_true, decide_eq_true_eq, List.contains_iff_mem, hi]
  omega

theorem Shape.inK_new {d : Nat → Int} {n : Nat} (h : Shape d n) (k j y : Nat) (hk : k < n) (hy : (kids d n k)[j]? = some y) : y < n ∧ inK d n k j y = false ∧ inK d n k (j + 1) y = true ∧ ∀ c, c ≠ y → inK d n k j c = inK d n k (j + 1) c := by
  have hm : y ∈ kids d n k := List.mem_of_getElem? hy
  have hyn : y < n := by
    rw [mem_kids] at hm
    have := (en_spec d n k hk).2.1
    omega
  have hp : par d y = (k : Int) := (h.kid_iff k y hk hyn).1 hm
  have hs : (kids d n k).Pairwise (· < ·) := kids_sorted d k _
  obtain ⟨hj, hje⟩ := List.getElem?_eq_some_iff.1 hy
  have htk : (kids d n k).take (j + 1) = (kids d n k).take j ++ [y] := by
    rw [List.take_succ_eq_append_getElem hj, hje]
  have hnot : y ∉ (kids d n k).take j := fun hin => by
    obtain ⟨i, hi, hie⟩ := List.getElem_of_mem hin
    rw [List.length_take] at hi
    rw [List.getElem_take] at hie
    have := List.pairwise_iff_getElem.1 hs i j (by omega) hj (by omega)
    omega
  refine ⟨hyn, ?_, ?_, fun c hc => ?_⟩
  · unfold inK inB
    rw [hp]
    simp [hnot]
  · unfold inK
    rw [htk]
    simp
  · unfold inK
    rw [htk]
    simp [hc]

theorem Shape.inB_all {d : Nat → Int} {n : Nat} (h : Shape d n) (c : Nat) (hc : c < n) : inB d n c = decide (0 < c) := by
  have hb := par_bounds d c
  unfold inB
  rw [Bool.eq_iff_iff]
  simp only [Bool.and_eq_true, decide_eq_true_eq]
  constructor
  · intro hp
    rcases Nat.eq_zero_or_pos c with e | e
    · subst e; rw [par_zero] at hp; omega
    · exact e
  · intro h0
    obtain ⟨p, hp, -⟩ := h.parent c h0 hc
    omega

/-- What is known of a child. -/
theorem Shape.kid_facts {d : Nat → Int} {n : Nat} (h : Shape d n) (k j y : Nat) (hk : k < n) (hy : (kids d n k)[j]? = some y) : k < y ∧ y < n ∧ y < en d n k ∧ par d y = (k : Int) ∧ en d n y ≤ en d n k ∧ d y = d k + 1 := by
  have hm : y ∈ kids d n k := List.mem_of_getElem? hy
  have hm' := (mem_kids d n k y).1 hm
  have hyn : y < n := by have := (en_spec d n k hk).2.1; omega
  exact ⟨hm'.2.1, hyn, hm'.1, (h.kid_iff k y hk hyn).1 hm, en_nest d n k y hk hm'.2.1 hm'.1, hm'.2.2⟩

theorem kids_rise (d : Nat → Int) (n k j x y : Nat) (hx : (kids d n k)[j]? = some x) (hy : (kids d n k)[j + 1]? = some y) : x < y := by
  have hs : (kids d n k).Pairwise (· < ·) := kids_sorted d k _
  obtain ⟨hi, hie⟩ := List.getElem?_eq_some_iff.1 hx
  obtain ⟨hj, hje⟩ := List.getElem?_eq_some_iff.1 hy
  have := List.pairwise_iff_getElem.1 hs j (j + 1) hi hj (by omega)
  omega

theorem add0 (g k : Nat) : (⟨g, 0, none⟩ : Addr).add k = ⟨g, k, none⟩ := by
  unfold Addr.add
  by_cases h : k = 0 <;> simp [h]

/-- Writing a number of a list of one's own. -/
theorem mine_set {w : World} {B : Nat} {A : Option Addr} {n c : Nat} {xs : List Int} (h : Mine w B A n c xs) (k : Nat) (hk : k < n) (v : Int) :
    ∃ g, A = some ⟨g, 0, none⟩ ∧ B ≤ g ∧ g < w.heap.size ∧ (∀ o, w.frozen? ⟨g, o, none⟩ = false) ∧ Mine (w.setCell ((⟨g, 0, none⟩ : Addr).add k) (.int .i64 v)) B A n c (xs.set k v) := by
  obtain ⟨hl, hv⟩ := h
  rcases hv with ⟨_, h0⟩ | ⟨g, cap, cur, e, hg, hb, hnc, hcm, hsz, htk⟩
  · omega
  · injection e with e1 e2 e3
    subst e1 e3
    have hlt := lt_of_block hb
    have hks : k < cur.size := by omega
    refine ⟨g, rfl, hg, hlt, fun o => thawed_in hb o, by simpa using hl, .inr ⟨g, c, cur.set! k (.int .i64 v), rfl, hg, ?_, hnc, hcm, by simpa using hsz, ?_⟩⟩
    · have ha : ((⟨g, 0, none⟩ : Addr).add k) = ⟨g, k, none⟩ := by
        unfold Addr.add
        by_cases h0 : k = 0 <;> simp [h0]
      rw [ha]
      simp [World.setCell, Array.getElem?_modify, hb]
    · rw [Array.set!_eq_setIfInBounds, Array.toList_setIfInBounds, List.take_set, htk, List.map_set]

theorem made_zeros (n : Nat) : (madeCells (Value.int .i64 0).cells (n * 1)).toList = (List.replicate n (0 : Int)).map (Value.int .i64) := by
  simp only [madeCells, Value.cells, Nat.mul_one, List.map_replicate]
  apply List.ext_getElem
  · simp
  · intro k h1 h2
    simp [Nat.mod_one]

theorem opensTo_mem (bs : List Bx) (n : Nat) (x : Int) : x ∈ opensTo bs n ↔ ∃ c : Nat, x = c ∧ c < n ∧ oOf bs c = true := by
  unfold opensTo
  simp only [List.mem_reverse, List.mem_map, List.mem_filter, List.mem_range]
  constructor
  · rintro ⟨c, ⟨h1, h2⟩, rfl⟩; exact ⟨c, rfl, h1, h2⟩
  · rintro ⟨c, rfl, h1, h2⟩; exact ⟨c, ⟨h1, h2⟩, rfl⟩

theorem opensTo_falls (bs : List Bx) : ∀ n, (opensTo bs n).Pairwise (· > ·)
  | 0 => by simp [opensTo]
  | n + 1 => by
    rw [opensTo_next]
    by_cases h : oOf bs n = true
    · rw [if_pos h]
      refine List.pairwise_cons.2 ⟨fun x hx => ?_, opensTo_falls bs n⟩
      obtain ⟨c, rfl, hc, -⟩ := (opensTo_mem bs n x).1 hx
      show (n : Int) > (c : Int)
      omega
    · rw [if_neg h]
      exact opensTo_falls bs n

theorem opensTo_fall (bs : List Bx) (n j : Nat) (x y : Int) (hx : (opensTo bs n)[j]? = some x) (hy : (opensTo bs n)[j + 1]? = some y) : y < x := by
  obtain ⟨hi, hie⟩ := List.getElem?_eq_some_iff.1 hx
  obtain ⟨hj, hje⟩ := List.getElem?_eq_some_iff.1 hy
  have := List.pairwise_iff_getElem.1 (opensTo_falls bs n) j (j + 1) hi hj (by omega)
  omega

theorem opensTo_last (bs : List Bx) (h0 : oOf bs 0 = true) : ∀ n, 0 < n → 0 < (opensTo bs n).length ∧ (opensTo bs n)[(opensTo bs n).length - 1]? = some 0
  | 0, h => by omega
  | 1, _ => by rw [opensTo_next, if_pos h0]; simp [opensTo]
  | n + 2, _ => by
    obtain ⟨h1, h2⟩ := opensTo_last bs h0 (n + 1) (by omega)
    rw [opensTo_next]
    refine ⟨by rw [List.length_append]; omega, ?_⟩
    rw [List.length_append, List.getElem?_append_right (by omega)]
    rw [show (if oOf bs (n + 1) = true then [((n + 1 : Nat) : Int)] else []).length + (opensTo bs (n + 1)).length - 1 - (if oOf bs (n + 1) = true then [((n + 1 : Nat) : Int)] else []).length = (opensTo bs (n + 1)).length - 1 by omega]
    exact h2

end Go.Proofs.Ytmmmlegjhblfaaa.Tree
