/- Texts of this proof that follow each other, in one file. -/
import Derived.Test.YtnmfgcdenngpfaaPart13
import Derived.Test.YtnmfgcdenngpfaaPart12
/-! The walk of TreeCounts, over the contracts of the program's trees. -/
namespace Go.Proofs.Ytnmfgcdenngpfaa.Tree
open Go.RowKit Go.Sort Go.Proofs.Ytnmfgcdenngpfaa.Record Go.Proofs.Ytnmfgcdenngpfaa.Script Go.Proofs.Ytnmfgcdenngpfaa.More

section
variable {T : World → Addr → List Bx → Prop}

theorem kids_le (d : Nat → Int) (n k : Nat) (hk : k < n) : (kids d n k).length ≤ n := by
  have h1 : (kids d n k).length ≤ (List.range (en d n k)).length := List.length_filter_le _ _
  have h2 := (en_spec d n k hk).2.1
  rw [List.length_range] at h1
  omega

end

end Go.Proofs.Ytnmfgcdenngpfaa.Tree

/-! The walk of TreeFronts, over the contracts of the program's trees. -/
namespace Go.Proofs.Ytnmfgcdenngpfaa.Tree
open Go.RowKit Go.Sort Go.Proofs.Ytnmfgcdenngpfaa.Record Go.Proofs.Ytnmfgcdenngpfaa.Script Go.Proofs.Ytnmfgcdenngpfaa.More

section
variable {T : World → Addr → List Bx → Prop}

/-- A pointer to a tree of these boxes. -/
def GivesT (T : World → Addr → List Bx → Prop) (bs : List Bx) (w : World) (u : Value) : Prop := ∃ p, u = .pointer (some p) ∧ T w p bs

theorem keeps_givesT (hT : TreeOk T) (bs : List Bx) : Hold.Keeps (GivesT T bs) := fun w w' u hb h => by
  obtain ⟨p, e, ht⟩ := h
  exact ⟨p, e, hT.keep _ _ _ _ ht hb⟩

theorem keeps_any : Hold.Keeps fun _ _ => True := fun _ _ _ _ _ => trivial

theorem begin_gives (hT : TreeOk T) (A : Option Addr) (n c : Nat) (bs : List Bx) (w : World) (hn : n = bs.length) (hlen : n ≤ 1000) (h0 : 0 < n) (hx : Boxes w w.heap.size A bs) (hb : ∀ b ∈ bs, OkB b) (hf : Fine bs n) :
    Calls Try.prog 18 #[.slice A n c] w fun r w' => ∃ u, r = .returned u ∧ GivesT T bs w' u ∧ Below w.heap.size w w' := by
  refine (begin_some hT A n c bs w hn hlen h0 hx hb hf).mono ?_
  rintro r w' ⟨⟨p, rfl, ht⟩, hb⟩
  exact ⟨_, rfl, ⟨p, rfl, ht⟩, hb⟩

theorem begin_ends (hT : TreeOk T) (A : Option Addr) (n c : Nat) (bs : List Bx) (w : World) (hn : n = bs.length) (hlen : n ≤ 1000) (hx : Boxes w w.heap.size A bs) (hb : ∀ b ∈ bs, OkB b) :
    Calls Try.prog 18 #[.slice A n c] w fun r w' => ∃ u, r = .returned u ∧ True ∧ Below w.heap.size w w' := by
  obtain ⟨a, e, hc⟩ : ∃ a e, chk bs = (a, e) := ⟨_, _, rfl⟩
  by_cases he : e = 0
  · subst he
    obtain ⟨-, h0, hf⟩ := chk_ok hn hc
    refine (begin_gives hT A n c bs w hn hlen h0 hx hb hf).mono ?_
    rintro r w' ⟨u, e, -, hb⟩
    exact ⟨u, e, trivial, hb⟩
  · refine (begin_none hT A n c bs w a e hn hlen hx hb hc he).mono ?_
    rintro r w' ⟨e, hb⟩
    exact ⟨_, e, trivial, hb⟩

theorem okB_take {bs : List Bx} (h : ∀ b ∈ bs, OkB b) (m : Nat) : ∀ b ∈ bs.take m, OkB b := fun b hb => h b (List.mem_of_mem_take hb)

end

end Go.Proofs.Ytnmfgcdenngpfaa.Tree

/-! A list of numbers in which places are marked; a list of one's own that is written; the places of the boxes with a context. -/
namespace Go.Proofs.Ytnmfgcdenngpfaa.Tree
open Go.RowKit Go.Sort Go.Proofs.Ytnmfgcdenngpfaa.Record Go.Proofs.Ytnmfgcdenngpfaa.Script

def seenL (n : Nat) (P : Nat → Bool) : List Int := (List.range n).map fun c => if P c then (1 : Int) else 0

theorem seenL_len (n : Nat) (P : Nat → Bool) : (seenL n P).length = n := by simp [seenL]

theorem seenL_get {n : Nat} {P : Nat → Bool} {k : Nat} (hk : k < n) : (seenL n P).getD k 0 = if P k then 1 else 0 := by
  simp [seenL, List.getD, hk]

theorem seenL_congr {n : Nat} {P Q : Nat → Bool} (h : ∀ c, c < n → P c = Q c) : seenL n P = seenL n Q := by
  unfold seenL
  refine List.map_congr_left fun c hc => ?_
  rw [h c (List.mem_range.1 hc)]

theorem seenL_set {n : Nat} {P Q : Nat → Bool} {k : Nat} (hQ : Q k = true) (h : ∀ c, c < n → c ≠ k → P c = Q c) : (seenL n P).set k 1 = seenL n Q := by
  refine List.ext_getElem (by simp [seenL]) fun i h1 h2 => ?_
  have hi : i < n := by simpa [seenL] using h2
  rw [List.getElem_set]
  by_cases e : k = i
  · subst e; simp [seenL, hQ]
  · rw [if_neg e]; simp [seenL, h i hi (fun x => e x.symm)]

theorem seenL_zero (n : Nat) : List.replicate n (0 : Int) = seenL n (fun _ => false) := by
  refine List.ext_getElem (by simp [seenL]) fun i h1 h2 => ?_
  simp [seenL]

/-- Which boxes stand in one of the first k. -/
def inB (d : Nat → Int) (k c : Nat) : Bool := decide (0 ≤ par d c) && decide (par d c < (k : Int))

/-- .. or are among the first j of those that stand in k. -/
def inK (d : Nat → Int) (n k j c : Nat) : Bool := inB d k c || ((kids d n k).take j).contains c

theorem inB_zero (d : Nat → Int) (c : Nat) : inB d 0 c = false := by
  unfold inB
  rw [Bool.and_eq_false_iff, decide_eq_false_iff_not, decide_eq_false_iff_not]
  omega

theorem inK_zero (d : Nat → Int) (n k c : Nat) : inK d n k 0 c = inB d k c := by simp [inK]

theorem Shape.inK_all {d : Nat → Int} {n : Nat} (h : Shape d n) (k c : Nat) (hk : k < n) (hc : c < n) : inK d n k (kids d n k).length c = inB d (k + 1) c := by
  have hi := h.kid_iff k c hk hc
  unfold inK inB
  rw [List.take_length, Bool.eq_iff_iff]
  simp only [Bool.or_eq_true, Bool.and_eq_true, decide_eq_true_eq, List.contains_iff_mem, hi]
  omega

theorem Shape.inK_new {d : Nat → Int} {n : Nat} (h : Shape d n) (k j y : Nat) (hk : k < n) (hy : (kids d n k)[j]? = some y) : y < n ∧ inK d n k j y = false ∧ inK d n k (j + 1) y = true ∧ ∀ c, c ≠ y → inK d n k j c = inK d n k (j + 1) c := by
  have hm : y ∈ kids d n k := List.mem_of_getElem? hy
  have hyn : y < n := by
    rw [mem_kids] at hm
    have := (en_spec d n k hk).2.1
    omega
  have hp : par d y = (k : Int) := (h.kid_iff k y hk hyn).1 hm
  have hs : (kids d n k).Pairwise (· < ·) := kids_sorted d k _
  obtain ⟨hj, hje⟩ := List.getElem?_eq_some_iff.1 hy
  have htk : (kids d n k).take (j + 1) = (kids d n k).take j ++ [y] := by
    rw [List.take_succ_eq_append_getElem hj, hje]
  have hnot : y ∉ (kids d n k).take j := fun hin => by
    obtain ⟨i, hi, hie⟩ := List.getElem_of_mem hin
    rw [List.length_take] at hi
    rw [List.getElem_take] at hie
    have := List.pairwise_iff_getElem.1 hs i j (by omega) hj (by omega)
    omega
  refine ⟨hyn, ?_, ?_, fun c hc => ?_⟩
  · unfold inK inB
    rw [hp]
    simp [hnot]
  · unfold inK
    rw [htk]
    simp
  · unfold inK
    rw [htk]
    simp [hc]

theorem Shape.inB_all {d : Nat → Int} {n : Nat} (h : Shape d n) (c : Nat) (hc : c < n) : inB d n c = decide (0 < c) := by
  have hb := par_bounds d c
  unfold inB
  rw [Bool.eq_iff_iff]
  simp only [Bool.and_eq_true, decide_eq_true_eq]
  constructor
  · intro hp
    rcases Nat.eq_zero_or_pos c with e | e
    · subst e; rw [par_zero] at hp; omega
    · exact e
  · intro h0
    obtain ⟨p, hp, -⟩ := h.parent c h0 hc
    omega

/-- What is known of a child. -/
theorem Shape.kid_facts {d : Nat → Int} {n : Nat} (h : Shape d n) (k j y : Nat) (hk : k < n) (hy : (kids d n k)[j]? = some y) : k < y ∧ y < n ∧ y < en d n k ∧ par d y = (k : Int) ∧ en d n y ≤ en d n k ∧ d y = d k + 1 := by
  have hm : y ∈ kids d n k := List.mem_of_getElem? hy
  have hm' := (mem_kids d n k y).1 hm
  have hyn : y < n := by have := (en_spec d n k hk).2.1; omega
  exact ⟨hm'.2.1, hyn, hm'.1, (h.kid_iff k y hk hyn).1 hm, en_nest d n k y hk hm'.2.1 hm'.1, hm'.2.2⟩

theorem kids_rise (d : Nat → Int) (n k j x y : Nat) (hx : (kids d n k)[j]? = some x) (hy : (kids d n k)[j + 1]? = some y) : x < y := by
  have hs : (kids d n k).Pairwise (· < ·) := kids_sorted d k _
  obtain ⟨hi, hie⟩ := List.getElem?_eq_some_iff.1 hx
  obtain ⟨hj, hje⟩ := List.getElem?_eq_some_iff.1 hy
  have := List.pairwise_iff_getElem.1 hs j (j + 1) hi hj (by omega)
  omega

theorem add0 (g k : Nat) : (⟨g, 0, none⟩ : Addr).add k = ⟨g, k, none⟩ := by
  unfold Addr.add
  by_cases h : k = 0 <;> simp [h]

/-- Writing a number of a list of one's own. -/
theorem mine_set {w : World} {B : Nat} {A : Option Addr} {n c : Nat} {xs : List Int} (h : Mine w B A n c xs) (k : Nat) (hk : k < n) (v : Int) :
    ∃ g, A = some ⟨g, 0, none⟩ ∧ B ≤ g ∧ g < w.heap.size ∧ (∀ o, w.frozen? ⟨g, o, none⟩ = false) ∧ Mine (w.setCell ((⟨g, 0, none⟩ : Addr).add k) (.int .i64 v)) B A n c (xs.set k v) := by
  obtain ⟨hl, hv⟩ := h
  rcases hv with ⟨_, h0⟩ | ⟨g, cap, cur, e, hg, hb, hnc, hcm, hsz, htk⟩
  · omega
  · injection e with e1 e2 e3
    subst e1 e3
    have hlt := lt_of_block hb
    have hks : k < cur.size := by omega
    refine ⟨g, rfl, hg, hlt, fun o => thawed_in hb o, by simpa using hl, .inr ⟨g, c, cur.set! k (.int .i64 v), rfl, hg, ?_, hnc, hcm, by simpa using hsz, ?_⟩⟩
    · have ha : ((⟨g, 0, none⟩ : Addr).add k) = ⟨g, k, none⟩ := by
        unfold Addr.add
        by_cases h0 : k = 0 <;> simp [h0]
      rw [ha]
      simp [World.setCell, Array.getElem?_modify, hb]
    · rw [Array.set!_eq_setIfInBounds, Array.toList_setIfInBounds, List.take_set, htk, List.map_set]

theorem made_zeros (n : Nat) : (madeCells (Value.int .i64 0).cells (n * 1)).toList = (List.replicate n (0 : Int)).map (Value.int .i64) := by
  simp only [madeCells, Value.cells, Nat.mul_one, List.map_replicate]
  apply List.ext_getElem
  · simp
  · intro k h1 h2
    simp [Nat.mod_one]

theorem opensTo_mem (bs : List Bx) (n : Nat) (x : Int) : x ∈ opensTo bs n ↔ ∃ c : Nat, x = c ∧ c < n ∧ oOf bs c = true := by
  unfold opensTo
  simp only [List.mem_reverse, List.mem_map, List.mem_filter, List.mem_range]
  constructor
  · rintro ⟨c, ⟨h1, h2⟩, rfl⟩; exact ⟨c, rfl, h1, h2⟩
  · rintro ⟨c, rfl, h1, h2⟩; exact ⟨c, ⟨h1, h2⟩, rfl⟩

theorem opensTo_falls (bs : List Bx) : ∀ n, (opensTo bs n).Pairwise (· > ·)
  | 0 => by simp [opensTo]
  | n + 1 => by
    rw [opensTo_next]
    by_cases h : oOf bs n = true
    · rw [if_pos h]
      refine List.pairwise_cons.2 ⟨fun x hx => ?_, opensTo_falls bs n⟩
      obtain ⟨c, rfl, hc, -⟩ := (opensTo_mem bs n x).1 hx
      show (n : Int) > (c : Int)
      omega
    · rw [if_neg h]
      exact opensTo_falls bs n

theorem opensTo_fall (bs : List Bx) (n j : Nat) (x y : Int) (hx : (opensTo bs n)[j]? = some x) (hy : (opensTo bs n)[j + 1]? = some y) : y < x := by
  obtain ⟨hi, hie⟩ := List.getElem?_eq_some_iff.1 hx
  obtain ⟨hj, hje⟩ := List.getElem?_eq_some_iff.1 hy
  have := List.pairwise_iff_getElem.1 (opensTo_falls bs n) j (j + 1) hi hj (by omega)
  omega

theorem opensTo_last (bs : List Bx) (h0 : oOf bs 0 = true) : ∀ n, 0 < n → 0 < (opensTo bs n).length ∧ (opensTo bs n)[(opensTo bs n).length - 1]? = some 0
  | 0, h => by omega
  | 1, _ => by rw [opensTo_next, if_pos h0]; simp [opensTo]
  | n + 2, _ => by
    obtain ⟨h1, h2⟩ := opensTo_last bs h0 (n + 1) (by omega)
    rw [opensTo_next]
    refine ⟨by rw [List.length_append]; omega, ?_⟩
    rw [List.length_append, List.getElem?_append_right (by omega)]
    rw [show (if oOf bs (n + 1) = true then [((n + 1 : Nat) : Int)] else []).length + (opensTo bs (n + 1)).length - 1 - (if oOf bs (n + 1) = true then [((n + 1 : Nat) : Int)] else []).length = (opensTo bs (n + 1)).length - 1 by omega]
    exact h2

end Go.Proofs.Ytnmfgcdenngpfaa.Tree

/-! What stands in a box, as a list by itself; no program is in it. -/
namespace Go.Proofs.Ytnmfgcdenngpfaa.Tree
open Go.Proofs.Ytnmfgcdenngpfaa.Record Go.Proofs.Ytnmfgcdenngpfaa.Script

def rootBx : Bx := ⟨0, 3, 0, 0, 0, 0, 0, 0, 0, 0, 0, 0, 0, 0⟩

/-- What stands in box i, up to m boxes, of which the first j are laid anew. -/
def partL (bs : List Bx) (i m j : Nat) : List Bx := (List.range m).map fun k => if k = 0 then rootBx else if k < j then { bs.getD (i + k) noB with d := dOf bs (i + k) - dOf bs i } else bs.getD (i + k) noB

theorem partL_len (bs : List Bx) (i m j : Nat) : (partL bs i m j).length = m := by simp [partL]

theorem partL_get {bs : List Bx} {i m j k : Nat} (hk : k < m) : (partL bs i m j).getD k noB = if k = 0 then rootBx else if k < j then { bs.getD (i + k) noB with d := dOf bs (i + k) - dOf bs i } else bs.getD (i + k) noB := by
  simp [partL, List.getD, hk]

theorem partL_set {bs : List Bx} {i m j : Nat} (h0 : 0 < j) : (partL bs i m j).set j { bs.getD (i + j) noB with d := dOf bs (i + j) - dOf bs i } = partL bs i m (j + 1) := by
  refine List.ext_getElem (by simp [partL]) fun k h1 h2 => ?_
  have hk : k < m := by simpa [partL] using h2
  rw [List.getElem_set]
  by_cases e : j = k
  · subst e
    have e1 : ¬ j = 0 := by omega
    simp [partL, e1]
  · rw [if_neg e]
    by_cases e0 : k = 0
    · simp [partL, e0]
    · by_cases e1 : k < j
      · have e2 : k < j + 1 := by omega
        simp [partL, e0, e1, e2]
      · have e2 : ¬ k < j + 1 := by omega
        simp [partL, e0, e1, e2]

/-- The boxes as they stood. -/
theorem raw_eq {bs : List Bx} {i m : Nat} (h : i + m ≤ bs.length) : (bs.drop i).take m = (List.range m).map fun k => bs.getD (i + k) noB := by
  refine List.ext_getElem (by simp; omega) fun k h1 h2 => ?_
  have hk : k < m := by simpa using h2
  have hb : i + k < bs.length := by omega
  simp [List.getD, hb]

theorem raw_set {bs : List Bx} {i m : Nat} : ((List.range m).map fun k => bs.getD (i + k) noB).set 0 rootBx = partL bs i m 1 := by
  refine List.ext_getElem (by simp [partL]) fun k h1 h2 => ?_
  have hk : k < m := by simpa [partL] using h2
  rw [List.getElem_set]
  by_cases e : 0 = k
  · subst e; simp [partL]
  · have e0 : ¬ k = 0 := by omega
    rw [if_neg e]
    simp [partL, e0]

section
variable {bs : List Bx} {n i m : Nat}

theorem dOf_part {k : Nat} (hk : k < m) : dOf (partL bs i m m) k = dOf bs (i + k) - dOf bs i := by
  unfold dOf
  rw [partL_get hk]
  by_cases e : k = 0
  · subst e; rw [if_pos rfl]; simp [rootBx]
  · rw [if_neg e, if_pos hk]
    rfl

theorem par_part (hs : Shape (dOf bs) n) (hi : i < n) (hm : en (dOf bs) n i = i + m) {k : Nat} (h0 : 0 < k) (hk : k < m) :
    ∃ q : Nat, par (dOf (partL bs i m m)) k = q ∧ par (dOf bs) (i + k) = (i + q : Nat) ∧ q < k := by
  obtain ⟨e1, e2, e3, -⟩ := en_spec (dOf bs) n i hi
  obtain ⟨p, p1, p2, p3, p4⟩ := hs.parent (i + k) (by omega) (by omega)
  have hpi : i ≤ p := by
    rcases Nat.lt_or_ge p i with h | h
    · have h1 := p4 i h (by omega)
      have h2 := e3 (i + k) (by omega) (by omega)
      omega
    · exact h
  obtain ⟨q, rfl⟩ : ∃ q, p = i + q := ⟨p - i, by omega⟩
  refine ⟨q, ?_, p1, by omega⟩
  refine parD_here _ _ q k (by omega) ?_ (fun j a b => ?_)
  · rw [dOf_part (k := q) (by omega), dOf_part hk]; omega
  · rw [dOf_part (k := j) (by omega), dOf_part hk]
    have := p4 (i + j) (by omega) (by omega)
    omega

theorem en_part (hi : i < n) (hm : en (dOf bs) n i = i + m) {k : Nat} (h0 : 0 < k) (hk : k < m) : en (dOf bs) n (i + k) = i + en (dOf (partL bs i m m)) m k := by
  obtain ⟨e1, e2, e3, e4⟩ := en_spec (dOf bs) n i hi
  obtain ⟨g1, g2, g3, g4⟩ := en_spec (dOf bs) n (i + k) (by omega)
  have hn := en_nest (dOf bs) n i (i + k) hi (by omega) (by omega)
  have : en (dOf (partL bs i m m)) m k = en (dOf bs) n (i + k) - i := by
    refine en_here _ m k _ (by omega) (by omega) (fun j a b => ?_) ?_
    · rw [dOf_part (k := j) (by omega), dOf_part hk]
      have := g3 (i + j) (by omega) (by omega)
      omega
    · by_cases e : en (dOf bs) n (i + k) = i + m
      · exact .inl (by omega)
      · right
        rw [dOf_part (k := en (dOf bs) n (i + k) - i) (by omega), dOf_part hk, show i + (en (dOf bs) n (i + k) - i) = en (dOf bs) n (i + k) by omega]
        rcases g4 with g4 | g4 <;> omega
  omega

theorem shape_part (hs : Shape (dOf bs) n) (hi : i < n) (hm : en (dOf bs) n i = i + m) : Shape (dOf (partL bs i m m)) m := by
  obtain ⟨e1, e2, e3, -⟩ := en_spec (dOf bs) n i hi
  refine ⟨by omega, ?_, fun k a b => ?_⟩
  · rw [dOf_part (k := 0) (by omega)]; simp
  · rw [dOf_part b, dOf_part (k := k - 1) (by omega)]
    have h1 := e3 (i + k) (by omega) (by omega)
    have h2 := hs.step (i + k) (by omega) (by omega)
    rw [show i + k - 1 = i + (k - 1) by omega] at h2
    omega

theorem countP_shift (P : Nat → Bool) (i : Nat) : ∀ m, (List.range (i + m)).countP P = (List.range i).countP P + (List.range m).countP (fun k => P (i + k))
  | 0 => by simp
  | m + 1 => by
    rw [← Nat.add_assoc, List.range_succ, List.range_succ, List.countP_append, List.countP_append, countP_shift P i m]
    simp [List.countP_cons]
    omega

theorem kids_part (hs : Shape (dOf bs) n) (hi : i < n) (hm : en (dOf bs) n i = i + m) : (kids (dOf (partL bs i m m)) m 0).length = (kids (dOf bs) n i).length := by
  have h0 := (shape_part hs hi hm).en_zero
  unfold kids kidsTo
  rw [h0, hm, ← List.countP_eq_length_filter, ← List.countP_eq_length_filter, countP_shift]
  have hz : (List.range i).countP (fun c => decide (i < c) && decide (dOf bs c = dOf bs i + 1)) = 0 := by
    rw [List.countP_eq_zero]
    intro c hc
    have := List.mem_range.1 hc
    simp; omega
  rw [hz, Nat.zero_add]
  refine List.countP_congr fun c hc => ?_
  have hc' := List.mem_range.1 hc
  rw [dOf_part hc', dOf_part (k := 0) (by omega)]
  simp only [Bool.and_eq_true, decide_eq_true_eq]
  rw [show i + 0 = i by omega]
  omega

theorem fits_same {p c : Int} (hp : p = 1 ∨ p = 2 ∨ p = 3) : fitsB 3 c = fitsB p c := by
  rcases hp with rfl | rfl | rfl <;> simp [fitsB, holdsB, openB]

theorem fine_part (hf : Fine bs n) (hi : i < n) (hm : en (dOf bs) n i = i + m) (hk : ¬ (kOf bs i = 4 ∨ kOf bs i = 5)) : Fine (partL bs i m m) m := fun k hkm => by
  have h0n : 0 < n := by omega
  have hs := hf.shape h0n
  have hsp := shape_part hs hi hm
  obtain ⟨e1, e2, e3, -⟩ := en_spec (dOf bs) n i hi
  rcases Nat.eq_zero_or_pos k with e | hk0
  · subst e
    have hg : (partL bs i m m).getD 0 noB = rootBx := by rw [partL_get hkm, if_pos rfl]
    rw [badAt_root hg (by decide) (show rootB rootBx = true by decide)]
    rfl
  · have hg : (partL bs i m m).getD k noB = { bs.getD (i + k) noB with d := dOf bs (i + k) - dOf bs i } := by rw [partL_get hkm, if_neg (by omega), if_pos hkm]
    have hd := hsp.step k hk0 hkm
    have hdk := hf.depth (show i + k < n by omega)
    have hdi := hf.depth hi
    have hD := dOf_part (bs := bs) (i := i) hkm
    have hgood : pickN (brokenOf ({ bs.getD (i + k) noB with d := dOf bs (i + k) - dOf bs i } : Bx)) = 0 := by
      obtain ⟨h1, h2, h3, h4, h5, h6, h7, h8, h9, h10, h11⟩ := (good_iff _).1 (hf.check (show i + k < n by omega))
      refine (good_iff _).2 ⟨h1, h2, h3, h4, h5, h6, h7, h8, h9, h10, ?_⟩
      show 0 ≤ dOf bs (i + k) - dOf bs i ∧ dOf bs (i + k) - dOf bs i ≤ 256
      omega
    obtain ⟨q, q1, q2, q3⟩ := par_part hs hi hm hk0 hkm
    have hfit : fitsB (kOf bs (i + q)) (bs.getD (i + k) noB).k = true := by
      have hb := hf (i + k) (by omega)
      have hbd : ¬ ((bs.getD (i + k) noB).d = 0 ∨ dOf bs (i + k - 1) + 1 < (bs.getD (i + k) noB).d) := by
        have := hs.step (i + k) (by omega) (by omega)
        unfold dOf at this ⊢
        omega
      cases hv : fitsB (kOf bs (i + q)) (bs.getD (i + k) noB).k
      · rw [badAt_fits (v := false) rfl (hf.check (by omega)) (by omega) hbd (by rw [q2, Int.toNat_natCast]; exact hv)] at hb
        simp at hb
      · rfl
    refine (badAt_fits (v := true) hg hgood hk0 ?_ ?_).trans rfl
    · show ¬ (dOf bs (i + k) - dOf bs i = 0 ∨ dOf (partL bs i m m) (k - 1) + 1 < dOf bs (i + k) - dOf bs i)
      rw [← hD]
      omega
    · rw [q1, Int.toNat_natCast]
      show fitsB (kOf (partL bs i m m) q) (bs.getD (i + k) noB).k = true
      rw [← hfit]
      by_cases eq : q = 0
      · subst eq
        have : kOf (partL bs i m m) 0 = 3 := by unfold kOf; rw [partL_get (by omega), if_pos rfl]; rfl
        rw [this]
        have hki := ((good_iff _).1 (hf.check hi)).1
        refine fits_same ?_
        rw [show i + 0 = i by omega]
        unfold kOf at hk ⊢
        omega
      · have : kOf (partL bs i m m) q = kOf bs (i + q) := by unfold kOf; rw [partL_get (by omega), if_neg eq, if_pos (by omega)]
        rw [this]

end

end Go.Proofs.Ytnmfgcdenngpfaa.Tree

/-! The walk of TreeGrafts, over the contracts of the program's trees. -/
namespace Go.Proofs.Ytnmfgcdenngpfaa.Tree
open Go.RowKit Go.Sort Go.Proofs.Ytnmfgcdenngpfaa.Record Go.Proofs.Ytnmfgcdenngpfaa.Script Go.Proofs.Ytnmfgcdenngpfaa.More

/-- Writing a cell of a list of boxes of one's own. -/
theorem row_set {w : World} {B g n c j : Nat} {T : TypeId} {xs : List Value} (h : w.ownsRow B T 14 (.slice (some ⟨g, 0, none⟩) n c) n xs) (v : Value) : (w.setCell ⟨g, j, none⟩ v).ownsRow B T 14 (.slice (some ⟨g, 0, none⟩) n c) n (xs.set j v) := by
  obtain ⟨hl, hv⟩ := h
  rcases hv with ⟨e, _⟩ | ⟨g1, cap, cur, e, hg, hb, hnc, hcm, hsz, htk⟩
  · injection e with e _ _; cases e
  · injection e with e1 e2 e3
    injection e1 with e1
    injection e1 with e1 _ _
    subst e1 e3
    refine ⟨by simpa using hl, .inr ⟨g, c, cur.set! j v, rfl, hg, ?_, hnc, hcm, by simpa using hsz, ?_⟩⟩
    · simp [World.setCell, Array.getElem?_modify, hb]
    · rw [Array.set!_eq_setIfInBounds, Array.toList_setIfInBounds, List.take_set, htk]

theorem row_thawed {w : World} {B g n c : Nat} {T : TypeId} {xs : List Value} (h : w.ownsRow B T 14 (.slice (some ⟨g, 0, none⟩) n c) n xs) (o : Nat) : w.frozen? ⟨g, o, none⟩ = false := by
  obtain ⟨hl, hv⟩ := h
  rcases hv with ⟨e, _⟩ | ⟨g1, cap, cur, e, hg, hb, hnc, hcm, hsz, htk⟩
  · injection e with e _ _; cases e
  · injection e with e1 e2 e3
    injection e1 with e1
    injection e1 with e1 _ _
    subst e1
    exact thawed_in hb o

theorem flat_set_d (v : Int) : ∀ (bs : List Bx) (k : Nat), k < bs.length → (bs.flatMap cellsOfB).set (k * 14) (.int .i64 v) = (bs.set k { bs.getD k noB with d := v }).flatMap cellsOfB
  | [], k, h => by simp at h
  | b :: bs, 0, _ => rfl
  | b :: bs, k + 1, h => by
    rw [List.flatMap_cons, List.set_cons_succ, List.flatMap_cons, show (k + 1) * 14 = (cellsOfB b).length + k * 14 by rw [cellsOfB_len]; omega, List.set_append_right _ _ (by omega), Nat.add_sub_cancel_left, flat_set_d v bs k (by simpa using h)]
    rfl

theorem flat_set_all (y : Bx) : ∀ bs : List Bx, 0 < bs.length → ((((((((((((((bs.flatMap cellsOfB).set 0 (.int .i64 y.d)).set 1 (.int .i64 y.k)).set 2 (.int .i64 y.s)).set 3 (.int .i64 y.c)).set 4 (.int .i64 y.w)).set 5 (.int .i64 y.h)).set 6 (.int .i64 y.m0)).set 7 (.int .i64 y.m1)).set 8 (.int .i64 y.m2)).set 9 (.int .i64 y.m3)).set 10 (.int .i64 y.e0)).set 11 (.int .i64 y.e1)).set 12 (.int .i64 y.e2)).set 13 (.int .i64 y.e3) = (bs.set 0 y).flatMap cellsOfB
  | [], h => by simp at h
  | b :: bs, _ => rfl

theorem mineB_put {w : World} {B g n c : Nat} {T : TypeId} {bs : List Bx} (h : MineB T w B (some ⟨g, 0, none⟩) n c bs) (h0 : 0 < n) (y : Bx) :
    MineB T ((((((((((((((w.setCell ⟨g, 0, none⟩ (.int .i64 y.d)).setCell ⟨g, 1, none⟩ (.int .i64 y.k)).setCell ⟨g, 2, none⟩ (.int .i64 y.s)).setCell ⟨g, 3, none⟩ (.int .i64 y.c)).setCell ⟨g, 4, none⟩ (.int .i64 y.w)).setCell ⟨g, 5, none⟩ (.int .i64 y.h)).setCell ⟨g, 6, none⟩ (.int .i64 y.m0)).setCell ⟨g, 7, none⟩ (.int .i64 y.m1)).setCell ⟨g, 8, none⟩ (.int .i64 y.m2)).setCell ⟨g, 9, none⟩ (.int .i64 y.m3)).setCell ⟨g, 10, none⟩ (.int .i64 y.e0)).setCell ⟨g, 11, none⟩ (.int .i64 y.e1)).setCell ⟨g, 12, none⟩ (.int .i64 y.e2)).setCell ⟨g, 13, none⟩ (.int .i64 y.e3)) B (some ⟨g, 0, none⟩) n c (bs.set 0 y) := by
  have hl := h.len
  unfold MineB
  rw [← flat_set_all y bs (by omega)]
  unfold MineB at h
  iterate 14 refine row_set ?_ _
  exact h

theorem mineB_setd {w : World} {B g n c k : Nat} {T : TypeId} {bs : List Bx} (h : MineB T w B (some ⟨g, 0, none⟩) n c bs) (hk : k < n) (v : Int) :
    MineB T (w.setCell ⟨g, k * 14, none⟩ (.int .i64 v)) B (some ⟨g, 0, none⟩) n c (bs.set k { bs.getD k noB with d := v }) := by
  have hl := h.len
  have hf := flat_len bs
  unfold MineB
  rw [← flat_set_d v bs k (by omega)]
  exact row_set h _

theorem mineB_block {T : TypeId} {w : World} {B n c : Nat} {A : Option Addr} {bs : List Bx} (h : MineB T w B A n c bs) (h0 : 0 < n) : ∃ g, A = some ⟨g, 0, none⟩ ∧ B ≤ g ∧ g < w.heap.size := by
  have hl := h.len
  obtain ⟨g, e, hg, _⟩ := h.cells 0 _ (flat_at bs 0 (by omega) 0 _ rfl)
  exact ⟨g, e, (h.lt g (by rw [e]; rfl)).1, hg⟩

/-- A piece of a list of boxes. -/
theorem src_piece {w : World} {B : Nat} {ad : Addr} {bs : List Bx} {i m c : Nat} (h : Boxes w B (some ad) bs) (him : i + m ≤ bs.length) : SrcB w (some (ad.add (i * 14))) m c ((bs.drop i).take m) := by
  refine ⟨by simp; omega, fun e => (by cases e), fun j u hu => ⟨_, rfl, ?_⟩⟩
  have hlt := (List.getElem?_eq_some_iff.1 hu).1
  rw [flat_len, List.length_take, List.length_drop] at hlt
  obtain ⟨q, r, hr, rfl⟩ : ∃ q r, r < 14 ∧ j = q * 14 + r := ⟨j / 14, j % 14, Nat.mod_lt _ (by omega), by omega⟩
  have hq : q < m := by omega
  obtain ⟨_, e, _, hat⟩ := h (i + q) (by omega)
  injection e with e
  subst e
  have hg : ((bs.drop i).take m).getD q noB = bs.getD (i + q) noB := by
    simp only [List.getD, List.getElem?_take, if_pos hq, List.getElem?_drop]
  obtain ⟨v, hv⟩ : ∃ v, (cellsOfB (bs.getD (i + q) noB))[r]? = some v := ⟨_, List.getElem?_eq_getElem (by rw [cellsOfB_len]; exact hr)⟩
  have h1 := flat_at ((bs.drop i).take m) q (by simp; omega) r v (by rw [hg]; exact hv)
  rw [hu] at h1
  injection h1 with h1
  subst h1
  rw [add_add, show i * 14 + (q * 14 + r) = (i + q) * 14 + r by omega, ← add_add]
  generalize ad.add ((i + q) * 14) = p at hat
  generalize bs.getD (i + q) noB = y at hat hv
  obtain ⟨c0, c1, c2, c3, c4, c5, c6, c7, c8, c9, c10, c11, c12, c13⟩ := hat
  have hadd : ∀ k, 0 < k → p.add k = ⟨p.block, p.off + k, none⟩ := fun k hk => by unfold Addr.add; rw [if_neg (by omega)]
  obtain rfl | rfl | rfl | rfl | rfl | rfl | rfl | rfl | rfl | rfl | rfl | rfl | rfl | rfl : r = 0 ∨ r = 1 ∨ r = 2 ∨ r = 3 ∨ r = 4 ∨ r = 5 ∨ r = 6 ∨ r = 7 ∨ r = 8 ∨ r = 9 ∨ r = 10 ∨ r = 11 ∨ r = 12 ∨ r = 13 := by omega
  · injection hv with hv; subst hv; simpa [Addr.add] using c0
  · injection hv with hv; subst hv; rw [hadd 1 (by omega)]; exact c1
  · injection hv with hv; subst hv; rw [hadd 2 (by omega)]; exact c2
  · injection hv with hv; subst hv; rw [hadd 3 (by omega)]; exact c3
  · injection hv with hv; subst hv; rw [hadd 4 (by omega)]; exact c4
  · injection hv with hv; subst hv; rw [hadd 5 (by omega)]; exact c5
  · injection hv with hv; subst hv; rw [hadd 6 (by omega)]; exact c6
  · injection hv with hv; subst hv; rw [hadd 7 (by omega)]; exact c7
  · injection hv with hv; subst hv; rw [hadd 8 (by omega)]; exact c8
  · injection hv with hv; subst hv; rw [hadd 9 (by omega)]; exact c9
  · injection hv with hv; subst hv; rw [hadd 10 (by omega)]; exact c10
  · injection hv with hv; subst hv; rw [hadd 11 (by omega)]; exact c11
  · injection hv with hv; subst hv; rw [hadd 12 (by omega)]; exact c12
  · injection hv with hv; subst hv; rw [hadd 13 (by omega)]; exact c13

theorem okB_part {bs : List Bx} (h : ∀ b ∈ bs, OkB b) {n i m : Nat} (hn : n = bs.length) (him : i + m ≤ n) (hs : ∀ k, 0 < k → k < m → 0 ≤ dOf bs (i + k) - dOf bs i ∧ dOf bs (i + k) - dOf bs i ≤ 256) : ∀ b ∈ partL bs i m m, OkB b := by
  intro b hb
  unfold partL at hb
  rw [List.mem_map] at hb
  obtain ⟨k, hk, rfl⟩ := hb
  have hkm := List.mem_range.1 hk
  by_cases e : k = 0
  · rw [if_pos e]
    exact okB_zero 3 (by decide)
  · rw [if_neg e, if_pos hkm]
    have hb := hs k (by omega) hkm
    have hlt : i + k < bs.length := by omega
    have hm : bs.getD (i + k) noB ∈ bs := by
      simp only [List.getD, List.getElem?_eq_getElem hlt, Option.getD_some]
      exact List.getElem_mem hlt
    have ho := h _ hm
    intro x hx
    simp only [List.mem_cons, List.not_mem_nil, or_false] at hx
    rcases hx with hx | hx | hx | hx | hx | hx | hx | hx | hx | hx | hx | hx | hx | hx
    · subst hx
      exact WalkArith.wf_i64 (by omega)
    · exact ho x (by rw [hx]; simp)
    · exact ho x (by rw [hx]; simp)
    · exact ho x (by rw [hx]; simp)
    · exact ho x (by rw [hx]; simp)
    · exact ho x (by rw [hx]; simp)
    · exact ho x (by rw [hx]; simp)
    · exact ho x (by rw [hx]; simp)
    · exact ho x (by rw [hx]; simp)
    · exact ho x (by rw [hx]; simp)
    · exact ho x (by rw [hx]; simp)
    · exact ho x (by rw [hx]; simp)
    · exact ho x (by rw [hx]; simp)
    · exact ho x (by rw [hx]; simp)

section
variable {T : World → Addr → List Bx → Prop}



end

end Go.Proofs.Ytnmfgcdenngpfaa.Tree
