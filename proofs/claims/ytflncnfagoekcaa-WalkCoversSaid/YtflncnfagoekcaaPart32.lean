/- Texts of this proof that follow each other, in one file. -/
import Derived.Test.YtflncnfagoekcaaPart2
import Derived.Test.YtflncnfagoekcaaPart31
import Derived.Test.YtflncnfagoekcaaPart19
import Derived.Test.YtflncnfagoekcaaPart14
/-! A list of numbers in which places are marked; a list of one's own that is written; the places of the boxes with a context. -/
namespace Go.Proofs.Ytflncnfagoekcaa.Tree
open Go.RowKit Go.Sort Go.Proofs.Ytflncnfagoekcaa.Record Go.Proofs.Ytflncnfagoekcaa.Script

def seenL (n : Nat) (P : Nat → Bool) : List Int := (List.range n).map fun c => if P c then (1 : Int) else 0

theorem seenL_len (n : Nat) (P : Nat → Bool) : (seenL n P).length = n := by simp [seenL]

theorem seenL_get {n : Nat} {P : Nat → Bool} {k : Nat} (hk : k < n) : (seenL n P).getD k 0 = if P k then 1 else 0 := by
  simp [seenL, List.getD, hk]

theorem seenL_congr {n : Nat} {P Q : Nat → Bool} (h : ∀ c, c < n → P c = Q c) : seenL n P = seenL n Q := by
  unfold seenL
  refine List.map_congr_left fun c hc => ?_
  rw [h c (List.mem_range.1 hc)]

theorem seenL_set {n : Nat} {P Q : Nat → Bool} {k : Nat} (hQ : Q k = true) (h : ∀ c, c < n → c ≠ k → P c = Q c) : (seenL n P).set k 1 = seenL n Q := by
  refine List.ext_getElem (by simp [seenL]) fun i h1 h2 => ?_
  have hi : i < n := by simpa [seenL] using h2
  rw [List.getElem_set]
  by_cases e : k = i
  · subst e; simp [seenL, hQ]
  · rw [if_neg e]; simp [seenL, h i hi (fun x => e x.symm)]

theorem seenL_zero (n : Nat) : List.replicate n (0 : Int) = seenL n (fun _ => false) := by
  refine List.ext_getElem (by simp [seenL]) fun i h1 h2 => ?_
  simp [seenL]

/-- Which boxes stand in one of the first k. -/
def inB (d : Nat → Int) (k c : Nat) : Bool := decide (0 ≤ par d c) && decide (par d c < (k : Int))

/-- .. or are among the first j of those that stand in k. -/
def inK (d : Nat → Int) (n k j c : Nat) : Bool := inB d k c || ((kids d n k).take j).contains c

theorem inB_zero (d : Nat → Int) (c : Nat) : inB d 0 c = false := by
  unfold inB
  rw [Bool.and_eq_false_iff, decide_eq_false_iff_not, decide_eq_false_iff_not]
  omega

theorem inK_zero (d : Nat → Int) (n k c : Nat) : inK d n k 0 c = inB d k c := by simp [inK]

theorem Shape.inK_all {d : Nat → Int} {n : Nat} (h : Shape d n) (k c : Nat) (hk : k < n) (hc : c < n) : inK d n k (kids d n k).length c = inB d (k + 1) c := by
  have hi := h.kid_iff k c hk hc
  unfold inK inB
  rw [List.take_length, Bool.eq_iff_iff]
  simp only [Bool.or_eq_true, Bool.and_eq_true, decide_eq_true_eq, List.contains_iff_mem, hi]
  omega

theorem Shape.inK_new {d : Nat → Int} {n : Nat} (h : Shape d n) (k j y : Nat) (hk : k < n) (hy : (kids d n k)[j]? = some y) : y < n ∧ inK d n k j y = false ∧ inK d n k (j + 1) y = true ∧ ∀ c, c ≠ y → inK d n k j c = inK d n k (j + 1) c := by
  have hm : y ∈ kids d n k := List.mem_of_getElem? hy
  have hyn : y < n := by
    rw [mem_kids] at hm
    have := (en_spec d n k hk).2.1
    omega
  have hp : par d y = (k : Int) := (h.kid_iff k y hk hyn).1 hm
  have hs : (kids d n k).Pairwise (· < ·) := kids_sorted d k _
  obtain ⟨hj, hje⟩ := List.getElem?_eq_some_iff.1 hy
  have htk : (kids d n k).take (j + 1) = (kids d n k).take j ++ [y] := by
    rw [List.take_succ_eq_append_getElem hj, hje]
  have hnot : y ∉ (kids d n k).take j := fun hin => by
    obtain ⟨i, hi, hie⟩ := List.getElem_of_mem hin
    rw [List.length_take] at hi
    rw [List.getElem_take] at hie
    have := List.pairwise_iff_getElem.1 hs i j (by omega) hj (by omega)
    omega
  refine ⟨hyn, ?_, ?_, fun c hc => ?_⟩
  · unfold inK inB
    rw [hp]
    simp [hnot]
  · unfold inK
    rw [htk]
    simp
  · unfold inK
    rw [htk]
    simp [hc]

theorem Shape.inB_all {d : Nat → Int} {n : Nat} (h : Shape d n) (c : Nat) (hc : c < n) : inB d n c = decide (0 < c) := by
  have hb := par_bounds d c
  unfold inB
  rw [Bool.eq_iff_iff]
  simp only [Bool.and_eq_true, decide_eq_true_eq]
  constructor
  · intro hp
    rcases Nat.eq_zero_or_pos c with e | e
    · subst e; rw [par_zero] at hp; omega
    · exact e
  · intro h0
    obtain ⟨p, hp, -⟩ := h.parent c h0 hc
    omega

/-- What is known of a child. -/
theorem Shape.kid_facts {d : Nat → Int} {n : Nat} (h : Shape d n) (k j y : Nat) (hk : k < n) (hy : (kids d n k)[j]? = some y) : k < y ∧ y < n ∧ y < en d n k ∧ par d y = (k : Int) ∧ en d n y ≤ en d n k ∧ d y = d k + 1 := by
  have hm : y ∈ kids d n k := List.mem_of_getElem? hy
  have hm' := (mem_kids d n k y).1 hm
  have hyn : y < n := by have := (en_spec d n k hk).2.1; omega
  exact ⟨hm'.2.1, hyn, hm'.1, (h.kid_iff k y hk hyn).1 hm, en_nest d n k y hk hm'.2.1 hm'.1, hm'.2.2⟩

theorem kids_rise (d : Nat → Int) (n k j x y : Nat) (hx : (kids d n k)[j]? = some x) (hy : (kids d n k)[j + 1]? = some y) : x < y := by
  have hs : (kids d n k).Pairwise (· < ·) := kids_sorted d k _
  obtain ⟨hi, hie⟩ := List.getElem?_eq_some_iff.1 hx
  obtain ⟨hj, hje⟩ := List.getElem?_eq_some_iff.1 hy
  have := List.pairwise_iff_getElem.1 hs j (j + 1) hi hj (by omega)
  omega

theorem add0 (g k : Nat) : (⟨g, 0, none⟩ : Addr).add k = ⟨g, k, none⟩ := by
  unfold Addr.add
  by_cases h : k = 0 <;> simp [h]

/-- Writing a number of a list of one's own. -/
theorem mine_set {w : World} {B : Nat} {A : Option Addr} {n c : Nat} {xs : List Int} (h : Mine w B A n c xs) (k : Nat) (hk : k < n) (v : Int) :
    ∃ g, A = some ⟨g, 0, none⟩ ∧ B ≤ g ∧ g < w.heap.size ∧ (∀ o, w.frozen? ⟨g, o, none⟩ = false) ∧ Mine (w.setCell ((⟨g, 0, none⟩ : Addr).add k) (.int .i64 v)) B A n c (xs.set k v) := by
  obtain ⟨hl, hv⟩ := h
  rcases hv with ⟨_, h0⟩ | ⟨g, cap, cur, e, hg, hb, hnc, hcm, hsz, htk⟩
  · omega
  · injection e with e1 e2 e3
    subst e1 e3
    have hlt := lt_of_block hb
    have hks : k < cur.size := by omega
    refine ⟨g, rfl, hg, hlt, fun o => thawed_in hb o, by simpa using hl, .inr ⟨g, c, cur.set! k (.int .i64 v), rfl, hg, ?_, hnc, hcm, by simpa using hsz, ?_⟩⟩
    · have ha : ((⟨g, 0, none⟩ : Addr).add k) = ⟨g, k, none⟩ := by
        unfold Addr.add
        by_cases h0 : k = 0 <;> simp [h0]
      rw [ha]
      simp [World.setCell, Array.getElem?_modify, hb]
    · rw [Array.set!_eq_setIfInBounds, Array.toList_setIfInBounds, List.take_set, htk, List.map_set]

theorem made_zeros (n : Nat) : (madeCells (Value.int .i64 0).cells (n * 1)).toList = (List.replicate n (0 : Int)).map (Value.int .i64) := by
  simp only [madeCells, Value.cells, Nat.mul_one, List.map_replicate]
  apply List.ext_getElem
  · simp
  · intro k h1 h2
    simp [Nat.mod_one]

theorem opensTo_mem (bs : List Bx) (n : Nat) (x : Int) : x ∈ opensTo bs n ↔ ∃ c : Nat, x = c ∧ c < n ∧ oOf bs c = true := by
  unfold opensTo
  simp only [List.mem_reverse, List.mem_map, List.mem_filter, List.mem_range]
  constructor
  · rintro ⟨c, ⟨h1, h2⟩, rfl⟩; exact ⟨c, rfl, h1, h2⟩
  · rintro ⟨c, rfl, h1, h2⟩; exact ⟨c, ⟨h1, h2⟩, rfl⟩

theorem opensTo_falls (bs : List Bx) : ∀ n, (opensTo bs n).Pairwise (· > ·)
  | 0 => by simp [opensTo]
  | n + 1 => by
    rw [opensTo_next]
    by_cases h : oOf bs n = true
    · rw [if_pos h]
      refine List.pairwise_cons.2 ⟨fun x hx => ?_, opensTo_falls bs n⟩
      obtain ⟨c, rfl, hc, -⟩ := (opensTo_mem bs n x).1 hx
      show (n : Int) > (c : Int)
      omega
    · rw [if_neg h]
      exact opensTo_falls bs n

theorem opensTo_fall (bs : List Bx) (n j : Nat) (x y : Int) (hx : (opensTo bs n)[j]? = some x) (hy : (opensTo bs n)[j + 1]? = some y) : y < x := by
  obtain ⟨hi, hie⟩ := List.getElem?_eq_some_iff.1 hx
  obtain ⟨hj, hje⟩ := List.getElem?_eq_some_iff.1 hy
  have := List.pairwise_iff_getElem.1 (opensTo_falls bs n) j (j + 1) hi hj (by omega)
  omega

theorem opensTo_last (bs : List Bx) (h0 : oOf bs 0 = true) : ∀ n, 0 < n → 0 < (opensTo bs n).length ∧ (opensTo bs n)[(opensTo bs n).length - 1]? = some 0
  | 0, h => by omega
  | 1, _ => by rw [opensTo_next, if_pos h0]; simp [opensTo]
  | n + 2, _ => by
    obtain ⟨h1, h2⟩ := opensTo_last bs h0 (n + 1) (by omega)
    rw [opensTo_next]
    refine ⟨by rw [List.length_append]; omega, ?_⟩
    rw [List.length_append, List.getElem?_append_right (by omega)]
    rw [show (if oOf bs (n + 1) = true then [((n + 1 : Nat) : Int)] else []).length + (opensTo bs (n + 1)).length - 1 - (if oOf bs (n + 1) = true then [((n + 1 : Nat) : Int)] else []).length = (opensTo bs (n + 1)).length - 1 by omega]
    exact h2

end Go.Proofs.Ytflncnfagoekcaa.Tree

/-! Which boxes are members of the first contexts, and of the first members of the next one. No program is in it. -/
namespace Go.Proofs.Ytflncnfagoekcaa.Walk
open Go.Proofs.Ytflncnfagoekcaa.Record Go.Proofs.Ytflncnfagoekcaa.Script Go.Proofs.Ytflncnfagoekcaa.Tree

def ctxB (bs : List Bx) (i : Nat) : Nat := ctx (dOf bs) (oOf bs) i
/-- The contexts, falling. -/
def osL (bs : List Bx) : List Nat := ((List.range bs.length).filter (oOf bs)).reverse
/-- The members of one. -/
def msL (bs : List Bx) (c : Nat) : List Nat := memTo bs c (en (dOf bs) bs.length c)

theorem opensT_os (bs : List Bx) : opensT bs = (osL bs).map Int.ofNat := by unfold opensT osL; rw [List.map_reverse]

theorem os_mem (bs : List Bx) (c : Nat) : c ∈ osL bs ↔ c < bs.length ∧ oOf bs c = true := by
  unfold osL
  simp only [List.mem_reverse, List.mem_filter, List.mem_range]

theorem os_len (bs : List Bx) : (osL bs).length ≤ bs.length := by
  unfold osL
  rw [List.length_reverse]
  have := List.length_filter_le (oOf bs) (List.range bs.length)
  rwa [List.length_range] at this

theorem os_nodup (bs : List Bx) : (osL bs).Nodup := by
  unfold osL
  exact List.pairwise_reverse.2 (List.Pairwise.imp (fun h => Ne.symm h) (List.Pairwise.filter _ List.nodup_range))

theorem memT_ms {bs : List Bx} {c : Nat} (hc : c ∈ osL bs) : memT bs (c : Int) = (msL bs c).map Int.ofNat := by
  obtain ⟨h1, h2⟩ := (os_mem bs c).1 hc
  unfold memT msL
  rw [if_pos ⟨hasT_nat h1, h2⟩]
  rfl

theorem ms_mem (bs : List Bx) (c i : Nat) : i ∈ msL bs c ↔ i < en (dOf bs) bs.length c ∧ c < i ∧ ctxB bs i = c := by
  unfold msL memTo ctxB
  simp only [List.mem_filter, List.mem_range, Bool.and_eq_true, decide_eq_true_eq]

theorem ms_nodup (bs : List Bx) (c : Nat) : (msL bs c).Nodup := by
  unfold msL memTo
  exact List.Pairwise.filter _ List.nodup_range

theorem ms_len {bs : List Bx} {c : Nat} (hc : c < bs.length) : (msL bs c).length ≤ bs.length := by
  unfold msL memTo
  refine Nat.le_trans (List.length_filter_le _ _) ?_
  rw [List.length_range]
  exact (en_spec (dOf bs) bs.length c hc).2.1

theorem not_taken {xs : List Nat} (h : xs.Nodup) {k x : Nat} (hx : xs[k]? = some x) : x ∉ xs.take k := fun hin => by
  obtain ⟨i, hi, hie⟩ := List.getElem_of_mem hin
  rw [List.length_take] at hi
  rw [List.getElem_take] at hie
  obtain ⟨hj, hje⟩ := List.getElem?_eq_some_iff.1 hx
  have := (List.getElem_inj h).1 (hie.trans hje.symm)
  omega

theorem take_next {xs : List Nat} {k x : Nat} (hx : xs[k]? = some x) : xs.take (k + 1) = xs.take k ++ [x] := by
  obtain ⟨hj, hje⟩ := List.getElem?_eq_some_iff.1 hx
  rw [List.take_succ_eq_append_getElem hj, hje]

/-- The list of the contexts that have been written. -/
def covL (bs : List Bx) (n : Nat) (P : Nat → Bool) : List Int := (List.range n).map fun i => if P i then (ctxB bs i : Int) else -1

theorem covL_len (bs : List Bx) (n : Nat) (P : Nat → Bool) : (covL bs n P).length = n := by simp [covL]

theorem covL_get {bs : List Bx} {n : Nat} {P : Nat → Bool} {k : Nat} (hk : k < n) : (covL bs n P).getD k 0 = if P k then (ctxB bs k : Int) else -1 := by
  simp [covL, List.getD, hk]

theorem covL_congr {bs : List Bx} {n : Nat} {P Q : Nat → Bool} (h : ∀ c, c < n → P c = Q c) : covL bs n P = covL bs n Q := by
  unfold covL
  refine List.map_congr_left fun c hc => ?_
  rw [h c (List.mem_range.1 hc)]

theorem covL_set {bs : List Bx} {n : Nat} {P Q : Nat → Bool} {k : Nat} (hQ : Q k = true) (h : ∀ c, c ≠ k → Q c = P c) {v : Int} (hv : (ctxB bs k : Int) = v) : (covL bs n P).set k v = covL bs n Q := by
  refine List.ext_getElem (by simp [covL]) fun i h1 h2 => ?_
  have hi : i < n := by simpa [covL] using h2
  rw [List.getElem_set]
  by_cases e : k = i
  · subst e; simp [covL, hQ, hv]
  · rw [if_neg e]; simp [covL, h i (fun x => e x.symm)]

/-- Places that aren't written yet: the first k hold -1. -/
def minL (n k : Nat) : List Int := (List.range n).map fun i => if i < k then (-1 : Int) else 0
theorem minL_len (n k : Nat) : (minL n k).length = n := by simp [minL]
theorem minL_zero (n : Nat) : List.replicate n (0 : Int) = minL n 0 := by
  refine List.ext_getElem (by simp [minL]) fun i h1 h2 => ?_
  simp [minL]
theorem minL_set {n k : Nat} : (minL n k).set k (-1) = minL n (k + 1) := by
  refine List.ext_getElem (by simp [minL]) fun i h1 h2 => ?_
  rw [List.getElem_set]
  by_cases e : k = i
  · subst e; simp [minL]
  · rw [if_neg e]
    have : i < k ↔ i < k + 1 := by omega
    simp [minL, this]
theorem minL_all (bs : List Bx) (n : Nat) : minL n n = covL bs n (fun _ => false) := by
  refine List.ext_getElem (by simp [minL, covL]) fun i h1 h2 => ?_
  have hi : i < n := by simpa [covL] using h2
  simp [minL, covL, hi]

/-- The members of the first k contexts. -/
def P0 (bs : List Bx) (k i : Nat) : Bool := decide (0 < i) && ((osL bs).take k).contains (ctxB bs i)
/-- .. and the first j of c's. -/
def P1 (bs : List Bx) (k c j i : Nat) : Bool := P0 bs k i || ((msL bs c).take j).contains i

theorem P0_zero (bs : List Bx) (i : Nat) : P0 bs 0 i = false := by simp [P0]
theorem P1_zero (bs : List Bx) (k c i : Nat) : P1 bs k c 0 i = P0 bs k i := by simp [P1]

theorem P1_new {bs : List Bx} {k c j y : Nat} (hc : (osL bs)[k]? = some c) (hy : (msL bs c)[j]? = some y) :
    0 < y ∧ y < bs.length ∧ ctxB bs y = c ∧ P1 bs k c j y = false ∧ P1 bs k c (j + 1) y = true ∧ ∀ x, x ≠ y → P1 bs k c (j + 1) x = P1 bs k c j x := by
  have hcm := (os_mem bs c).1 (List.mem_of_getElem? hc)
  obtain ⟨m1, m2, m3⟩ := (ms_mem bs c y).1 (List.mem_of_getElem? hy)
  have hn := (en_spec (dOf bs) bs.length c hcm.1).2.1
  have q1 := not_taken (os_nodup bs) hc
  have q2 := not_taken (ms_nodup bs c) hy
  refine ⟨by omega, by omega, m3, ?_, ?_, fun x hx => ?_⟩
  · unfold P1 P0
    rw [m3]
    simp [q1, q2]
  · unfold P1
    rw [take_next hy]
    simp
  · unfold P1
    rw [take_next hy]
    simp [hx]

theorem P1_all {bs : List Bx} (hs : Shape (dOf bs) bs.length) {k c : Nat} (hc : (osL bs)[k]? = some c) (i : Nat) (hi : i < bs.length) : P1 bs k c (msL bs c).length i = P0 bs (k + 1) i := by
  have hcm := (os_mem bs c).1 (List.mem_of_getElem? hc)
  unfold P1 P0
  rw [List.take_length, take_next hc, Bool.eq_iff_iff]
  simp only [Bool.or_eq_true, Bool.and_eq_true, decide_eq_true_eq, List.contains_iff_mem, List.mem_append, List.mem_singleton, ms_mem]
  constructor
  · rintro (⟨h1, h2⟩ | ⟨h1, h2, h3⟩)
    · exact ⟨h1, .inl h2⟩
    · exact ⟨by omega, .inr h3⟩
  · rintro ⟨h1, h2 | h2⟩
    · exact .inl ⟨h1, h2⟩
    · have a1 := hs.ctx_en (oOf bs) i hi
      have a2 := ctx_lt (dOf bs) (oOf bs) i h1
      have a3 := (en_spec (dOf bs) bs.length i hi).1
      unfold ctxB at h2
      rw [h2] at a1 a2
      exact .inr ⟨by omega, a2, h2⟩

theorem ctx_open {bs : List Bx} (hs : Shape (dOf bs) bs.length) (h0 : oOf bs 0 = true) : ∀ m i, i < m → 0 < i → i < bs.length → oOf bs (ctxB bs i) = true := by
  intro m
  induction m with
  | zero => intro i h; omega
  | succ m ih =>
    intro i h hi hn
    obtain ⟨p, hp, hpl, -⟩ := hs.parent i hi hn
    unfold ctxB
    rw [ctx_par (dOf bs) (oOf bs) hp]
    split
    · assumption
    · rename_i ho
      have : 0 < p := by
        rcases Nat.eq_zero_or_pos p with e | e
        · subst e; exact absurd h0 ho
        · exact e
      exact ih p (by omega) this (by omega)

theorem P0_all {bs : List Bx} (hs : Shape (dOf bs) bs.length) (h0 : oOf bs 0 = true) (i : Nat) (hi : i < bs.length) : P0 bs (osL bs).length i = decide (0 < i) := by
  unfold P0
  rw [List.take_length, Bool.eq_iff_iff]
  simp only [Bool.and_eq_true, decide_eq_true_eq, List.contains_iff_mem, os_mem]
  constructor
  · exact fun h => h.1
  · intro h
    have := ctx_lt (dOf bs) (oOf bs) i h
    exact ⟨h, by unfold ctxB; omega, ctx_open hs h0 (i + 1) i (by omega) h hi⟩

theorem fine_open {bs : List Bx} (h : badAt bs 0 = 0) : oOf bs 0 = true := by
  unfold badAt at h
  split at h
  · omega
  · rw [if_pos rfl] at h
    split at h
    · rename_i hr
      unfold rootB at hr
      simp only [Bool.and_eq_true, beq_iff_eq] at hr
      unfold oOf openB
      rw [hr.1.1.1.2]
      rfl
    · omega

/-! The stack of the open boxes, behind some events. -/

theorem stk_in {d : Nat → Int} {n : Nat} {st : List Nat} {q a : Nat} (h : fits d n (st, q) ⟨(a : Int), false⟩) : a = q ∧ a < n ∧ (∀ p, st.getLast? = some p → par d a = (p : Int)) ∧ stk (st, q) ⟨(a : Int), false⟩ = (st ++ [a], q + 1) := by
  obtain ⟨k, e, hk, h2⟩ := h
  have e' : a = k := by have h3 : (a : Int) = (k : Int) := e; omega
  subst e'
  simp only [Bool.false_eq_true, if_false] at h2
  exact ⟨h2.1, hk, h2.2, by simp [stk]⟩

theorem stk_out {d : Nat → Int} {n : Nat} {st : List Nat} {q a : Nat} (h : fits d n (st, q) ⟨(a : Int), true⟩) : st.getLast? = some a ∧ a < n ∧ en d n a = q ∧ stk (st, q) ⟨(a : Int), true⟩ = (st.dropLast, q) := by
  obtain ⟨k, e, hk, h2⟩ := h
  have e' : a = k := by have h3 : (a : Int) = (k : Int) := e; omega
  subst e'
  simp only [if_true] at h2
  exact ⟨h2.1, hk, h2.2, by simp [stk]⟩

theorem fits_a {d : Nat → Int} {n : Nat} {s : List Nat × Nat} {x : Ev} (h : fits d n s x) : ∃ a : Nat, x.a = (a : Int) := ⟨h.choose, h.choose_spec.1⟩
end Go.Proofs.Ytflncnfagoekcaa.Walk

/-! The law of Hold in a round of a range over a function, where a guard may be an operation that another guard has left out. -/
namespace Go.Proofs.Ytflncnfagoekcaa.More
open Go.RowKit Go.Sort Go.Proofs.Ytflncnfagoekcaa.More.Hold

/-- Each guard is decided by what is listed; what a guard has left out, as a guard, says no. -/
def guards2B : List Oper → List Leave → List Leave → Bool
  | o :: os, y :: ys, all => (match o.guard with
    | none => !y.isSkip
    | some (k, b) => o.after.any (fun e => Region.binds .any e && e.on == k) && (match all[k]? with
      | some (.val (.bool c)) => (c == b) == !y.isSkip
      | some .skip => y.isSkip
      | _ => false)) && guards2B os ys all
  | _, _, _ => true

theorem guards2_at : ∀ {os : List Oper} {ys all : List Leave} {i : Nat} {o : Oper} {y : Leave}, guards2B os ys all = true → os[i]? = some o → ys[i]? = some y →
    (o.guard = none ∧ y.isSkip = false) ∨ (∃ k b c, o.guard = some (k, b) ∧ (∃ e ∈ o.after, Region.binds .any e = true ∧ e.on = k) ∧ all[k]? = some (.val (.bool c)) ∧ ((c == b) = !y.isSkip)) ∨
      ∃ k b, o.guard = some (k, b) ∧ (∃ e ∈ o.after, Region.binds .any e = true ∧ e.on = k) ∧ all[k]? = some .skip ∧ y.isSkip = true
  | o :: os, y :: ys, all, 0, _, _, h, h1, h2 => by
    simp only [List.getElem?_cons_zero, Option.some.injEq] at h1 h2
    subst h1 h2
    simp only [guards2B, Bool.and_eq_true] at h
    obtain ⟨h, _⟩ := h
    cases hg : o.guard with
    | none => rw [hg] at h; left; exact ⟨rfl, by simpa using h⟩
    | some kb =>
      obtain ⟨k, b⟩ := kb
      rw [hg] at h
      simp only [Bool.and_eq_true] at h
      obtain ⟨h3, h4⟩ := h
      obtain ⟨e, he, he2⟩ := Array.any_eq_true'.1 h3
      simp only [Bool.and_eq_true, beq_iff_eq] at he2
      right
      split at h4
      · rename_i c hc
        left
        exact ⟨k, b, c, rfl, ⟨e, he, he2⟩, hc, by simpa using h4⟩
      · rename_i hc
        right
        exact ⟨k, b, rfl, ⟨e, he, he2⟩, hc, h4⟩
      · cases h4
  | o :: os, y :: ys, all, i + 1, _, _, h, h1, h2 => by
    simp only [List.getElem?_cons_succ] at h1 h2
    simp only [guards2B, Bool.and_eq_true] at h
    exact guards2_at h.2 h1 h2
  | [], _, _, _, _, _, _, h1, _ => by simp at h1
  | _ :: _, [], _, _, _, _, _, _, h2 => by simp at h2

section
variable {P : Program}

theorem holdingIn2_step {l : List Oper} {ys : List Leave} {a0 : Act} {W : World} {lo nF : Nat} {g : Nat → Value} {listed : Array Bool} {a : Act} {w : World} {Q : Exit → Act → World → Prop} (ok : HeadOk l ys.length a0.tmps.size) (h : Telling l ys a0 W g listed a w) (hs : Region.noSelect l.toArray = true)
    (hgd : guards2B l ys ys = true) (hdf : noDefer l ys.length = true) (hall : allLeave P (fun g => fill g 0 l ys a0) ys W l ys) (hsz : listed.size = l.toArray.size) {i : Nat} (hi : i < ys.length) (hr : i ∈ Region.ready .any l.toArray listed) :
    wpOpIn (Fence.wide.inRound lo) nF P l.toArray Q i (fun a' w' => ∃ g, Telling l ys a0 W g (listed.setIfInBounds i true) a' w') a w := by
  obtain ⟨hun, o, ho, hdep⟩ := mem_ready.1 hr
  have ho' : l[i]? = some o := by simpa using ho
  have hy : ys[i]? = some ys[i] := by simp [hi]
  have hsame := h.same ok hs hi ho' hdep
  have hY := allLeave_at hall ho' hy
  have hun' : listed.getD i false = false := getD_both hun
  have hin : i < listed.size := by
    rw [hsz]; simpa using (List.getElem?_eq_some_iff.1 ho').1
  have hkn : known ys o g w := fun e he hb R hye => h.held e.on R hye (hdep e he hb)
  have hkp : allKeep ys := allKeep_of hall ok.there
  have hw : Region.wanted o (yielded l.toArray a.tmps) = !(ys[i]).isSkip := by
    rcases guards2_at hgd ho' hy with ⟨hg, hsk⟩ | ⟨k, b, c, hg, ⟨e, he, hb, hon⟩, hk, hcb⟩ | ⟨k, b, hg, ⟨e, he, hb, hon⟩, hk, hsk⟩
    · simp [Region.wanted, hg, hsk]
    · have hlk : listed.getD k false = true := by rw [← hon]; exact hdep e he hb
      have hkl : k < ys.length := (List.getElem?_eq_some_iff.1 hk).1
      obtain ⟨p, hp⟩ := ok.there k hkl
      obtain ⟨d, hd1, hd2⟩ := ok.dst k p hkl hp
      have hsl := h.slot k p _ d hp hk hlk hd1
      have hda : d < a.tmps.size := by rw [h.size]; exact hd2
      have hyl : yielded l.toArray a.tmps k = some c := by
        unfold yielded
        simp only [List.getElem?_toArray, hp, Option.bind_some, hd1]
        have : a.tmps[d]? = some (.bool c) := by
          rw [Array.getElem?_eq_getElem hda]
          simpa [Leave.value, hda] using hsl
        rw [this]
      simp only [Region.wanted, hg, hyl]
      rw [← hcb]
      cases c <;> cases b <;> rfl
    · have hlk : listed.getD k false = true := by rw [← hon]; exact hdep e he hb
      have hkl : k < ys.length := (List.getElem?_eq_some_iff.1 hk).1
      obtain ⟨p, hp⟩ := ok.there k hkl
      obtain ⟨d, hd1, hd2⟩ := ok.dst k p hkl hp
      have hsl := h.slot k p _ d hp hk hlk hd1
      have hda : d < a.tmps.size := by rw [h.size]; exact hd2
      have hyl : yielded l.toArray a.tmps k = none := by
        unfold yielded
        simp only [List.getElem?_toArray, hp, Option.bind_some, hd1]
        have : a.tmps[d]? = some undef := by
          rw [Array.getElem?_eq_getElem hda]
          simpa [Leave.value, hda] using hsl
        rw [this]
        rfl
      simp only [Region.wanted, hg, hyl, hsk]
      rfl
  have hnd : ∀ c, o.op ≠ .defer c := noDefer_spec hdf hi ho'
  unfold wpOpIn
  simp only [ho, hw]
  revert hY
  generalize hyi : ys[i] = y at *
  cases y with
  | skip =>
    intro _
    simp only [Leave.isSkip, Bool.not_true, Bool.false_eq_true, if_false]
    exact ⟨fun _ _ => trivial, h.more (u := undef) ok hkp hi ho' hy hin hun' rfl (fun R e => by cases e) (Below.refl _ _)⟩
  | val v =>
    intro hY
    simp only [Leave.isSkip, Bool.not_false, if_true]
    unfold Oper.wpIn
    refine ⟨fun _ _ => trivial, ?_⟩
    rw [Oper.semAt_plain _ _ _ hnd, hsame]
    have h3 := hY g w h.below hkn
    generalize (execOp (fill g 0 l ys a0).eval o).run P w = r at *
    cases r with
    | ok nx w' =>
      cases nx <;> simp only [stays] at h3 <;> simp only [Oper.uponIn]
      case value u =>
        obtain ⟨rfl, rfl⟩ := h3
        exact h.more (u := undef) ok hkp hi ho' hy hin hun' rfl (fun R e => by cases e) (Below.refl _ _)
      case enter f args =>
        obtain ⟨rfl, hc⟩ := h3
        refine ⟨(fun hd => by cases hd), (CallsIn.inRound lo (callsIn_wide.2 hc)).mono fun e w'' ⟨he, hb⟩ => ?_⟩
        subst he
        exact h.more (u := undef) ok hkp hi ho' hy hin hun' rfl (fun R e => by cases e) hb
    | halt x w' => simp only [stays] at h3
  | some R =>
    intro hY
    simp only [Leave.isSkip, Bool.not_false, if_true]
    unfold Oper.wpIn
    refine ⟨fun _ _ => trivial, ?_⟩
    rw [Oper.semAt_plain _ _ _ hnd, hsame]
    have h3 := hY.2 g w h.below hkn
    generalize (execOp (fill g 0 l ys a0).eval o).run P w = r at *
    cases r with
    | ok nx w' =>
      cases nx <;> simp only [gives] at h3 <;> simp only [Oper.uponIn]
      case value u =>
        obtain ⟨hb, hr⟩ := h3
        exact h.more (u := u) ok hkp hi ho' hy hin hun' rfl (fun R e => by cases e; exact hr) hb
      case enter f args =>
        obtain ⟨rfl, hc⟩ := h3
        refine ⟨(fun hd => by cases hd), (CallsIn.inRound lo (callsIn_wide.2 hc)).mono fun e w'' ⟨u, he, hr, hb⟩ => ?_⟩
        subst he
        exact h.more (u := u) ok hkp hi ho' hy hin hun' rfl (fun R e => by cases e; exact hr) hb
    | halt x w' => simp only [gives] at h3

end

section
variable {P : Program} {l : List Oper} {a0 : Act} {W : World}

/-- A region that draws its order: the operations of its head leave what is listed, or of which something is said; then its tail, one by one. -/
theorem wpIn_region_hold2 {lo nF : Nat} {id : Nat} {Q : Exit → Act → World → Prop} (ys : List Leave) (hm : P.follows .mixedOrders = true)
    (hB : (Region.noSelect l.toArray && decide (ys.length < l.toArray.size) && Region.sinkB .any l.toArray ys.length && Region.chainB .any l.toArray ys.length &&
      noDefer l ys.length && headB l ys.length a0.tmps.size) = true)
    (hgd : guards2B l ys ys = true)
    (hall : allLeave P (fun g => fill g 0 l ys a0) ys W l ys)
    (hend : ∀ (g : Nat → Value) (w' : World), Below W.heap.size W w' → (∀ (i : Nat) R, ys[i]? = some (.some R) → R w' (g i)) → wpAnyIn (Fence.wide.inRound lo) nF P .any l.toArray Q (l.length - ys.length) (List.replicate ys.length true ++ List.replicate (l.length - ys.length) false).toArray (fill g 0 l ys a0) w') :
    (Code.region id l.toArray true).wpIn (Fence.wide.inRound lo) nF P Q a0 W := by
  simp only [Bool.and_eq_true, decide_eq_true_eq] at hB
  obtain ⟨⟨⟨⟨⟨hsel, hn⟩, hs⟩, hc⟩, hdf⟩, hhead⟩ := hB
  have ok := headOk hhead
  have hn' : ys.length < l.length := by simpa using hn
  refine wpIn_region_any hm ?_
  have key : ∀ (f : Nat) (listed : Array Bool) (a : Act) (w : World) (g : Nat → Value), HeadInv .any l.toArray ys.length listed → unlisted listed = f + (l.toArray.size - ys.length) → Telling l ys a0 W g listed a w →
      wpAnyIn (Fence.wide.inRound lo) nF P .any l.toArray Q (f + (l.toArray.size - ys.length)) listed a w := by
    intro f
    induction f with
    | zero =>
      intro listed a w g inv hu hb
      have hls : listed.size = l.length := by have := inv.size; simpa using this
      -- all of the head has come up
      have hcount : listed.toList.countP (fun b => !b) = l.length - ys.length := by
        unfold unlisted at hu; simpa using hu
      have htail : listed.toList.drop ys.length = List.replicate (l.length - ys.length) false := by
        refine List.ext_getElem (by simp [hls]) fun k h1 h2 => ?_
        have hk : ys.length + k < listed.size := by simp at h1; omega
        have := inv.tail (ys.length + k) (by omega) (by rw [← inv.size]; exact hk)
        simpa [hk] using this
      have hsplit : listed.toList = listed.toList.take ys.length ++ List.replicate (l.length - ys.length) false := by rw [← htail, List.take_append_drop]
      have hh : (listed.toList.take ys.length).countP (fun b => !b) = 0 := by
        rw [hsplit, List.countP_append] at hcount
        have hr : (List.replicate (l.length - ys.length) false).countP (fun b => !b) = l.length - ys.length := by rw [List.countP_replicate]; simp
        rw [hr] at hcount
        omega
      have hhead : listed.toList.take ys.length = List.replicate ys.length true := by
        have hlen : (listed.toList.take ys.length).length = ys.length := by simp [hls]; omega
        rw [List.eq_replicate_iff]
        refine ⟨hlen, fun b hb => ?_⟩
        have := List.countP_eq_zero.1 hh b hb
        simpa using this
      have hlisted : listed = (List.replicate ys.length true ++ List.replicate (l.toArray.size - ys.length) false).toArray := by
        have h1 : listed = listed.toList.toArray := by simp
        rw [h1, hsplit, hhead]
        simp
      have hall' : ∀ i, i < ys.length → listed.getD i false = true := by
        intro i hi
        rw [hlisted, Array.getD_eq_getD_getElem?, List.getElem?_toArray, List.getElem?_append_left (by simpa using hi)]
        simp [hi]
      have hfull := hb.full ok hall'
      have := hend g w hb.below (fun i R hi => hb.held i R hi (hall' i (List.getElem?_eq_some_iff.1 hi).1))
      rw [hfull, hlisted, Nat.zero_add]
      simpa using this
    | succ f ih =>
      intro listed a w g inv hu hb
      -- the first one of the head that has not come up
      have hex : ∃ i, i < ys.length ∧ listed.getD i false = false := by
        refine Classical.byContradiction fun hno => ?_
        have hno' : ∀ i, i < ys.length → listed.getD i false = true := fun i hi => by
          cases h : listed.getD i false with
          | true => rfl
          | false => exact absurd ⟨i, hi, h⟩ hno
        have hls : listed.size = l.length := by have := inv.size; simpa using this
        have h0 : (listed.toList.take ys.length).countP (fun b => !b) = 0 := by
          rw [List.countP_eq_zero]
          intro b hb'
          obtain ⟨k, hk, rfl⟩ := List.getElem_of_mem hb'
          have hk1 : k < ys.length := by simp at hk; omega
          have hk2 : k < listed.size := by omega
          have := hno' k hk1
          simpa [hk2] using this
        have h1 := List.countP_le_length (p := fun b => !b) (l := listed.toList.drop ys.length)
        have h2 : unlisted listed = (listed.toList.take ys.length).countP (fun b => !b) + (listed.toList.drop ys.length).countP (fun b => !b) := by
          unfold unlisted; rw [← List.countP_append, List.take_append_drop]
        simp only [List.length_drop, Array.length_toList, hls] at h1
        have h3 : l.toArray.size = l.length := by simp
        omega
      have hleast : ∀ m : Nat, (∃ i, i < m ∧ i < ys.length ∧ listed.getD i false = false) → ∃ i, i < ys.length ∧ listed.getD i false = false ∧ ∀ j, j < i → listed.getD j false = true := by
        intro m
        induction m with
        | zero => rintro ⟨i, hi, _⟩; omega
        | succ m ih2 =>
          rintro ⟨i, hi, hiy, hil⟩
          by_cases hsm : ∃ j, j < m ∧ j < ys.length ∧ listed.getD j false = false
          · exact ih2 hsm
          · refine ⟨i, hiy, hil, fun j hj => ?_⟩
            cases h : listed.getD j false with
            | true => rfl
            | false => exact absurd ⟨j, by omega, by omega, h⟩ hsm
      obtain ⟨i, hi, hil, hlt⟩ := hleast ys.length (by obtain ⟨i, h1, h2⟩ := hex; exact ⟨i, h1, h1, h2⟩)
      have hsize : ∀ k, k < ys.length → k < listed.size := fun k hk => by rw [inv.size]; omega
      have hready : i ∈ Region.ready .any l.toArray listed := by
        obtain ⟨o, ho⟩ := ok.there i hi
        exact mem_ready.2 ⟨getD_in (hsize i hi) hil, o, by simpa using ho, fun e he hbd => hlt _ (ok.back i o hi ho e he hbd)⟩
      rw [show f + 1 + (l.toArray.size - ys.length) = (f + (l.toArray.size - ys.length)) + 1 by omega]
      refine ⟨fun h0 => (by rw [h0] at hready; cases hready), fun j hj => ?_⟩
      have hjn : j < ys.length := by
        rcases Nat.lt_or_ge j ys.length with h | h
        · exact h
        · exact absurd hj (tail_waits hs hc hn inv _ i rfl hi (getD_in (hsize i hi) hil) j h)
      refine wpOpIn_mono (fun a' w' ⟨g', hb'⟩ => ih _ a' w' g' (inv.set hj hjn) ?_ hb') (holdingIn2_step ok hb hsel hgd hdf hall inv.size hjn hj)
      have := unlisted_set (mem_ready.1 hj).1
      omega
  have inv0 : HeadInv .any l.toArray ys.length (Array.replicate l.toArray.size false) :=
    ⟨by simp, fun j oj _ hl => (by rw [getD_replicate_false] at hl; cases hl), fun t _ ht => getD_in (by simpa using ht) (getD_replicate_false _ _)⟩
  have hu : unlisted (Array.replicate l.toArray.size false) = ys.length + (l.toArray.size - ys.length) := by
    unfold unlisted
    rw [Array.toList_replicate, List.countP_replicate]
    simp
    omega
  have := key ys.length _ a0 { W with drawn := W.drawn + 1 } (fun _ => undef) inv0 hu
    ⟨rfl, rfl, ⟨rfl, rfl, rfl, Nat.le_refl _, fun _ _ => rfl⟩, fun _ _ => rfl, fun i o y d _ _ hl => (by rw [getD_replicate_false] at hl; cases hl), fun i R _ hl => (by rw [getD_replicate_false] at hl; cases hl)⟩
  rwa [show ys.length + (l.toArray.size - ys.length) = l.toArray.size by omega] at this

end

end Go.Proofs.Ytflncnfagoekcaa.More

/-! The walk of TreeCounts, over the contracts of the program's trees. -/
namespace Go.Proofs.Ytflncnfagoekcaa.Tree
open Go.RowKit Go.Sort Go.Proofs.Ytflncnfagoekcaa.Record Go.Proofs.Ytflncnfagoekcaa.Script Go.Proofs.Ytflncnfagoekcaa.More

section
variable {T : World → Addr → List Bx → Prop}

/-- The contracts of the methods, at places that there are. -/
theorem len_at (hT : TreeOk T) {n : Nat} {bs : List Bx} (hn : n = bs.length) {w : World} {p : Addr} (h : T w p bs) : Calls Try.prog 18 #[.pointer (some p)] w fun r w' => r = .returned (.int .i64 (n : Int)) ∧ Below w.heap.size w w' := by
  rw [hn]; exact hT.len w p bs h
theorem en_at (hT : TreeOk T) {n : Nat} {bs : List Bx} (hn : n = bs.length) {w : World} {p : Addr} (h : T w p bs) {k : Nat} {e : Int} (hk : k < n) (he : (en (dOf bs) n k : Int) = e) : Calls Try.prog 22 #[.pointer (some p), .int .i64 (k : Int)] w fun r w' => r = .returned (.int .i64 e) ∧ Below w.heap.size w w' := by
  have := hT.en w p bs k h
  rw [enT_nat (by omega), ← hn, he] at this
  exact this
theorem par_at (hT : TreeOk T) {n : Nat} {bs : List Bx} (hn : n = bs.length) {w : World} {p : Addr} (h : T w p bs) {k : Nat} {q : Int} (hk : k < n) (hq : par (dOf bs) k = q) : Calls Try.prog 21 #[.pointer (some p), .int .i64 (k : Int)] w fun r w' => r = .returned (.int .i64 q) ∧ Below w.heap.size w w' := by
  have := hT.parent w p bs k h
  rw [parT_nat (by omega), hq] at this
  exact this
theorem ctx_at (hT : TreeOk T) {n : Nat} {bs : List Bx} (hn : n = bs.length) {w : World} {p : Addr} (h : T w p bs) {k q : Nat} (hk : k < n) (hq : ctx (dOf bs) (oOf bs) k = q) : Calls Try.prog 20 #[.pointer (some p), .int .i64 (k : Int)] w fun r w' => r = .returned (.int .i64 (q : Int)) ∧ Below w.heap.size w w' := by
  have := hT.ctx w p bs k h
  rw [ctxT_nat (by omega), hq] at this
  exact this
theorem box_at (hT : TreeOk T) {n : Nat} {bs : List Bx} (hn : n = bs.length) {w : World} {p : Addr} (h : T w p bs) {k : Nat} {y : Bx} (hk : k < n) (hy : bs.getD k noB = y) : Calls Try.prog 24 #[.pointer (some p), .int .i64 (k : Int)] w fun r w' => r = .returned y.v ∧ Below w.heap.size w w' := by
  have := hT.box w p bs k h
  rw [boxT_nat (by omega), hy] at this
  exact this
theorem kids_at (hT : TreeOk T) {n : Nat} {bs : List Bx} (hn : n = bs.length) {w : World} {p : Addr} (h : T w p bs) {k l : Nat} (hk : k < n) (hl : (kids (dOf bs) n k).length = l) : Calls Try.prog 30 #[.pointer (some p), .int .i64 (k : Int)] w fun r w' => (∃ A1 c1, r = .returned (.slice A1 l c1) ∧ Nums w' w'.heap.size A1 ((kids (dOf bs) n k).map Int.ofNat)) ∧ Below w.heap.size w w' := by
  refine (hT.kidsL w p bs k h).mono ?_
  rintro r w' ⟨u, rfl, ⟨A1, c1, rfl, h1⟩, kk⟩
  rw [kidsT_nat (by omega), ← hn] at h1 ⊢
  exact ⟨⟨A1, c1, by rw [List.length_map, hl], h1⟩, kk⟩

theorem kids_le (d : Nat → Int) (n k : Nat) (hk : k < n) : (kids d n k).length ≤ n := by
  have h1 : (kids d n k).length ≤ (List.range (en d n k)).length := List.length_filter_le _ _
  have h2 := (en_spec d n k hk).2.1
  rw [List.length_range] at h1
  omega

end

end Go.Proofs.Ytflncnfagoekcaa.Tree
