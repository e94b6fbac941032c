/- What lists of margins come to, in pieces and in other orders; contracts that tell their results. -/
import Derived.Test.YtkjbimoflmkekaaStrutTells
import Derived.Test.YtkjbimoflmkekaaStrutBox
import Derived.DataElems
namespace Go.Proofs.Ytkjbimoflmkekaa.Strut
open Go.RowKit Go.Sort

theorem fold_max (xs : List Int) : ∀ a b : Int, xs.foldl max (max a b) = max a (xs.foldl max b) := by
  induction xs with
  | nil => intro a b; rfl
  | cons n l ih => intro a b; simp only [List.foldl_cons]; rw [show max (max a b) n = max a (max b n) by omega, ih]
theorem fold_min (xs : List Int) : ∀ a b : Int, xs.foldl min (min a b) = min a (xs.foldl min b) := by
  induction xs with
  | nil => intro a b; rfl
  | cons n l ih => intro a b; simp only [List.foldl_cons]; rw [show min (min a b) n = min a (min b n) by omega, ih]

theorem most_zero (xs : List Int) : max (mostOf xs) 0 = mostOf xs := by
  have := fold_max xs 0 0
  unfold mostOf
  rw [show max (0 : Int) 0 = 0 by rfl] at this
  omega
theorem least_zero (xs : List Int) : min (leastOf xs) 0 = leastOf xs := by
  have := fold_min xs 0 0
  unfold leastOf
  rw [show min (0 : Int) 0 = 0 by rfl] at this
  omega

theorem most_append (xs ys : List Int) : mostOf (xs ++ ys) = max (mostOf xs) (mostOf ys) := by
  have := fold_max ys (mostOf xs) 0
  rw [most_zero] at this
  unfold mostOf at *
  rw [List.foldl_append, this]
theorem least_append (xs ys : List Int) : leastOf (xs ++ ys) = min (leastOf xs) (leastOf ys) := by
  have := fold_min ys (leastOf xs) 0
  rw [least_zero] at this
  unfold leastOf at *
  rw [List.foldl_append, this]

theorem most_reverse (xs : List Int) : mostOf xs.reverse = mostOf xs := by
  induction xs with
  | nil => rfl
  | cons n l ih =>
    rw [List.reverse_cons, most_append, ih, show n :: l = [n] ++ l from rfl, most_append]
    omega
theorem least_reverse (xs : List Int) : leastOf xs.reverse = leastOf xs := by
  induction xs with
  | nil => rfl
  | cons n l ih =>
    rw [List.reverse_cons, least_append, ih, show n :: l = [n] ++ l from rfl, least_append]
    omega

theorem most_split (xs : List Int) (k : Nat) : max (mostOf (xs.take k)) (mostOf (xs.drop k)) = mostOf xs := by
  rw [← most_append, List.take_append_drop]
theorem least_split (xs : List Int) (k : Nat) : min (leastOf (xs.take k)) (leastOf (xs.drop k)) = leastOf xs := by
  rw [← least_append, List.take_append_drop]

theorem most_again (xs : List Int) (k : Nat) (h : k < xs.length) : max (mostOf xs) (xs.getD k 0) = mostOf xs := by
  have h1 := mostOf_take xs k h
  have h2 := most_split xs (k + 1)
  omega
theorem least_again (xs : List Int) (k : Nat) (h : k < xs.length) : min (leastOf xs) (xs.getD k 0) = leastOf xs := by
  have h1 := leastOf_take xs k h
  have h2 := least_split xs (k + 1)
  omega

theorem getD_reverse (xs : List Int) (k : Nat) (h : k < xs.length) : xs.reverse.getD k 0 = xs.getD (xs.length - 1 - k) 0 := by
  have h2 : xs.length - 1 - k < xs.length := by omega
  simp [List.getD, h, h2]

theorem join_is {a b c d p q : Int} (h : max a c = p ∧ min b d = q) (w : World) :
    Calls Try.prog 28 #[.agg #[.int .i64 a, .int .i64 b], .agg #[.int .i64 c, .int .i64 d]] w fun e w' => e = .returned (.agg #[.int .i64 p, .int .i64 q]) ∧ Below w.heap.size w w' := by
  obtain ⟨rfl, rfl⟩ := h; exact join_any a b c d w
theorem with_is {a b m p q : Int} (h : max a m = p ∧ min b m = q) (w : World) :
    Calls Try.prog 23 #[.agg #[.int .i64 a, .int .i64 b], .int .i64 m] w fun e w' => e = .returned (.agg #[.int .i64 p, .int .i64 q]) ∧ Below w.heap.size w w' := by
  obtain ⟨rfl, rfl⟩ := h; exact with_any a b m w
theorem of_is {A : Option Addr} {n c : Nat} {xs : List Int} {w : World} {p q : Int} (h : mostOf xs = p ∧ leastOf xs = q) (hn : n = xs.length) (h60 : n ≤ 60) (hx : Nums w w.heap.size A xs) :
    Calls Try.prog 25 #[.slice A n c] w fun e w' => e = .returned (.agg #[.int .i64 p, .int .i64 q]) ∧ Below w.heap.size w w' := by
  obtain ⟨rfl, rfl⟩ := h; exact of_any A n c xs w hn (by omega) hx

/-- Two ints of a block. -/
def R2 (w : World) (b : Nat) (p q : Int) : Prop := w.cell? ⟨b, 0, none⟩ = some (.int .i64 p) ∧ w.cell? ⟨b, 1, none⟩ = some (.int .i64 q)
theorem R2.below {W w : World} {b : Nat} {p q : Int} (h : R2 W b p q) (hb : Below W.heap.size W w) : R2 w b p q := by
  have h1 := World.block_lt_of_cell? _ _ h.1
  exact ⟨by rw [hb.cell (p := ⟨b, 0, none⟩) h1]; exact h.1, by rw [hb.cell (p := ⟨b, 1, none⟩) h1]; exact h.2⟩
theorem R2.grown {w : World} {b : Nat} {p q : Int} (h : R2 w b p q) : (∀ d os, (grow (redrawn w d) os).cell? ⟨b, 0, none⟩ = some (.int .i64 p)) ∧ (∀ d os, (grow (redrawn w d) os).cell? ⟨b, 1, none⟩ = some (.int .i64 q)) :=
  ⟨fun d os => cell_regrown h.1 d os, fun d os => cell_regrown h.2 d os⟩
theorem R2.of_block {w : World} {b : Nat} {p q : Int} {t : TypeId} (h : w.heap[b]? = some (.cells #[.int .i64 p, .int .i64 q] t)) : R2 w b p q :=
  ⟨by simp [World.cell?, h], by simp [World.cell?, h]⟩

/-- The front and the back of a list. -/
theorem Nums.front {w : World} {B : Nat} {A : Option Addr} {xs : List Int} (h : Nums w B A xs) (k : Nat) : Nums w B A (xs.take k) := fun i hi => by
  rw [List.length_take] at hi
  obtain ⟨ad, e, hb, hc⟩ := h i (by omega)
  refine ⟨ad, e, hb, ?_⟩
  rw [hc]
  simp only [List.getD, List.getElem?_take]
  rw [if_pos (by omega)]
theorem Nums.back {w : World} {B : Nat} {ad : Addr} {xs : List Int} (h : Nums w B (some ad) xs) (k : Nat) : Nums w B (some (ad.add k)) (xs.drop k) := fun i hi => by
  rw [List.length_drop] at hi
  obtain ⟨ad', e, hb, hc⟩ := h (k + i) (by omega)
  injection e with e
  subst e
  refine ⟨_, rfl, by rw [block_of_add]; exact hb, ?_⟩
  rw [Addr.add_add, hc]
  simp [List.getD]

/-- Where the back of a slice lies. -/
def backA (A : Option Addr) (c k : Nat) : Option Addr := if c = k then A else Option.map (fun x => x.add k) A

theorem Nums.back' {w : World} {B : Nat} {A : Option Addr} {n c : Nat} {xs : List Int} (h : Nums w B A xs) (hn : n = xs.length) (hc : n ≤ c) (k : Nat) (hk : k ≤ n) : Nums w B (backA A c k) (xs.drop k) := by
  cases A with
  | none =>
    have : xs.drop k = [] := by
      rcases Nat.eq_zero_or_pos xs.length with h0 | h0
      · exact List.drop_eq_nil_of_le (by omega)
      · obtain ⟨ad, e, _⟩ := h 0 h0
        cases e
    rw [this]
    exact nums0 _ _ _
  | some ad =>
    unfold backA
    split
    · rw [List.drop_eq_nil_of_le (by omega)]
      exact nums0 _ _ _
    · exact h.back k

theorem free2 {w : World} {g : Nat} {p q : Int} {T : TypeId} (h : w.heap[g]? = some (.cells #[.int .i64 p, .int .i64 q] T)) : w.frozen? ⟨g, 0, none⟩ = false ∧ w.frozen? ⟨g, 1, none⟩ = false := by
  refine ⟨?_, ?_⟩ <;> simp [World.frozen?, h]

theorem set2 {w : World} {g : Nat} {p q : Int} {T : TypeId} (h : w.heap[g]? = some (.cells #[.int .i64 p, .int .i64 q] T)) (y z : Int) :
    ((w.setCell ⟨g, 0, none⟩ (.int .i64 y)).setCell ⟨g, 1, none⟩ (.int .i64 z)).heap[g]? = some (.cells #[.int .i64 y, .int .i64 z] T) := by
  simp [World.setCell, Array.getElem?_modify, h]

theorem set2_other {w : World} {g k : Nat} (hne : k ≠ g) (y z : Value) : ((w.setCell ⟨g, 0, none⟩ y).setCell ⟨g, 1, none⟩ z).heap[k]? = w.heap[k]? := by
  rw [Below.heap_setCell _ _ _ _ hne, Below.heap_setCell _ _ _ _ hne]

/-- Three new blocks into which two numbers each were stored. -/
theorem stored_three {W w : World} {g1 g2 g3 : Nat} (k : Below W.heap.size W w) {x0 x1 y0 y1 z0 z1 : Int} {T : TypeId}
    (b1 : W.heap.size ≤ g1) (h1 : w.heap[g1]? = some (.cells #[.int .i64 x0, .int .i64 x1] T)) (b2 : W.heap.size ≤ g2) (h2 : w.heap[g2]? = some (.cells #[.int .i64 y0, .int .i64 y1] T))
    (b3 : W.heap.size ≤ g3) (h3 : w.heap[g3]? = some (.cells #[.int .i64 z0, .int .i64 z1] T)) (h12 : g1 ≠ g2) (h13 : g1 ≠ g3) (h23 : g2 ≠ g3) (a b c d e f : Int) (V : World)
    (hV : V = (((((w.setCell ⟨g1, 0, none⟩ (.int .i64 a)).setCell ⟨g1, 1, none⟩ (.int .i64 b)).setCell ⟨g2, 0, none⟩ (.int .i64 c)).setCell ⟨g2, 1, none⟩ (.int .i64 d)).setCell ⟨g3, 0, none⟩ (.int .i64 e)).setCell ⟨g3, 1, none⟩ (.int .i64 f)) :
    R2 V g1 a b ∧ R2 V g2 c d ∧ R2 V g3 e f ∧ Below W.heap.size W V := by
  subst hV
  have s1 := set2 h1 a b
  have s2 : ((w.setCell ⟨g1, 0, none⟩ (.int .i64 a)).setCell ⟨g1, 1, none⟩ (.int .i64 b)).heap[g2]? = _ := (set2_other (Ne.symm h12) _ _).trans h2
  have s3 : ((w.setCell ⟨g1, 0, none⟩ (.int .i64 a)).setCell ⟨g1, 1, none⟩ (.int .i64 b)).heap[g3]? = _ := (set2_other (Ne.symm h13) _ _).trans h3
  refine ⟨R2.of_block (t := T) (by rw [set2_other h13, set2_other h12]; exact s1), R2.of_block (t := T) (by rw [set2_other h23]; exact set2 s2 c d), R2.of_block (t := T) (set2 (by rw [set2_other (Ne.symm h23)]; exact s3) e f), ?_⟩
  exact ((((((k.setCell b1 _).setCell b1 _).setCell b2 _).setCell b2 _).setCell b3 _).setCell b3 _)

end Go.Proofs.Ytkjbimoflmkekaa.Strut
