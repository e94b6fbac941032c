/- Blocks of four numbers: what a walk reads of them, and how they stay. -/
import Derived.Test.YtpfcefflcmeobaaRectSmall
import Derived.Test.YtpfcefflcmeobaaRectBox
namespace Go.Proofs.Ytpfcefflcmeobaa.Rect
open Go.RowKit Go.Sort

/-- Four numbers of a block. -/
def R4 (w : World) (g : Nat) (x0 x1 x2 x3 : Int) : Prop :=
  w.cell? ⟨g, 0, none⟩ = some (.int .i64 x0) ∧ w.cell? ⟨g, 1, none⟩ = some (.int .i64 x1) ∧ w.cell? ⟨g, 2, none⟩ = some (.int .i64 x2) ∧ w.cell? ⟨g, 3, none⟩ = some (.int .i64 x3)

theorem R4.below {w w' : World} {g : Nat} {x0 x1 x2 x3 : Int} (h : R4 w g x0 x1 x2 x3) (k : Below w.heap.size w w') : R4 w' g x0 x1 x2 x3 := by
  have hg : g < w.heap.size := block_lt_of_cell h.1
  exact ⟨by rw [k.cell (p := ⟨g, 0, none⟩) hg]; exact h.1, by rw [k.cell (p := ⟨g, 1, none⟩) hg]; exact h.2.1, by rw [k.cell (p := ⟨g, 2, none⟩) hg]; exact h.2.2.1, by rw [k.cell (p := ⟨g, 3, none⟩) hg]; exact h.2.2.2⟩

theorem R4.grown {w : World} {g : Nat} {x0 x1 x2 x3 : Int} (h : R4 w g x0 x1 x2 x3) : (∀ d os, (grow (redrawn w d) os).cell? ⟨g, 0, none⟩ = some (.int .i64 x0)) ∧ (∀ d os, (grow (redrawn w d) os).cell? ⟨g, 1, none⟩ = some (.int .i64 x1)) ∧
    (∀ d os, (grow (redrawn w d) os).cell? ⟨g, 2, none⟩ = some (.int .i64 x2)) ∧ (∀ d os, (grow (redrawn w d) os).cell? ⟨g, 3, none⟩ = some (.int .i64 x3)) :=
  ⟨cell_regrown h.1, cell_regrown h.2.1, cell_regrown h.2.2.1, cell_regrown h.2.2.2⟩

theorem R4.of_block {w : World} {g : Nat} {x0 x1 x2 x3 : Int} {T : TypeId} (h : w.heap[g]? = some (.cells #[.int .i64 x0, .int .i64 x1, .int .i64 x2, .int .i64 x3] T)) : R4 w g x0 x1 x2 x3 := by
  refine ⟨?_, ?_, ?_, ?_⟩ <;> simp [World.cell?, h]

theorem set4 {w : World} {g : Nat} {x0 x1 x2 x3 : Int} {T : TypeId} (h : w.heap[g]? = some (.cells #[.int .i64 x0, .int .i64 x1, .int .i64 x2, .int .i64 x3] T)) (y0 y1 y2 y3 : Int) :
    ((((w.setCell ⟨g, 0, none⟩ (.int .i64 y0)).setCell ⟨g, 1, none⟩ (.int .i64 y1)).setCell ⟨g, 2, none⟩ (.int .i64 y2)).setCell ⟨g, 3, none⟩ (.int .i64 y3)).heap[g]? = some (.cells #[.int .i64 y0, .int .i64 y1, .int .i64 y2, .int .i64 y3] T) := by
  have hlt := lt_of_block h
  simp [World.setCell, Array.getElem?_modify, h]

theorem set4_other {w : World} {g k : Nat} (hne : k ≠ g) (y0 y1 y2 y3 : Value) :
    ((((w.setCell ⟨g, 0, none⟩ y0).setCell ⟨g, 1, none⟩ y1).setCell ⟨g, 2, none⟩ y2).setCell ⟨g, 3, none⟩ y3).heap[k]? = w.heap[k]? := by
  rw [Below.heap_setCell _ _ _ _ hne, Below.heap_setCell _ _ _ _ hne, Below.heap_setCell _ _ _ _ hne, Below.heap_setCell _ _ _ _ hne]

/-- Two new blocks into which four numbers each were stored. -/
theorem stored_two {W w : World} {p q : Nat} (k : Below W.heap.size W w) {x0 x1 x2 x3 z0 z1 z2 z3 : Int} {T : TypeId} (gp : W.heap.size ≤ p) (hp : w.heap[p]? = some (.cells #[.int .i64 x0, .int .i64 x1, .int .i64 x2, .int .i64 x3] T))
    (gq : W.heap.size ≤ q) (hq : w.heap[q]? = some (.cells #[.int .i64 z0, .int .i64 z1, .int .i64 z2, .int .i64 z3] T)) (hne : p ≠ q) (a0 a1 a2 a3 b0 b1 b2 b3 : Int) (w3 : World)
    (h3 : w3 = (((((((w.setCell ⟨p, 0, none⟩ (.int .i64 a0)).setCell ⟨p, 1, none⟩ (.int .i64 a1)).setCell ⟨p, 2, none⟩ (.int .i64 a2)).setCell ⟨p, 3, none⟩ (.int .i64 a3)).setCell ⟨q, 0, none⟩ (.int .i64 b0)).setCell ⟨q, 1, none⟩ (.int .i64 b1)).setCell ⟨q, 2, none⟩ (.int .i64 b2)).setCell ⟨q, 3, none⟩ (.int .i64 b3)) :
    R4 w3 p a0 a1 a2 a3 ∧ R4 w3 q b0 b1 b2 b3 ∧ Below W.heap.size W w3 := by
  subst h3
  have h1 := set4 hp a0 a1 a2 a3
  have h2 := set4_other (w := w) (g := p) (k := q) (Ne.symm hne) (.int .i64 a0) (.int .i64 a1) (.int .i64 a2) (.int .i64 a3)
  rw [hq] at h2
  refine ⟨R4.of_block (T := T) (by rw [set4_other hne]; exact h1), R4.of_block (set4 h2 b0 b1 b2 b3), ?_⟩
  exact ((((((((k.setCell gp _).setCell gp _).setCell gp _).setCell gp _).setCell gq _).setCell gq _).setCell gq _).setCell gq _)

/-- What a store into a new block of four cells asks. -/
theorem free4 {w : World} {g : Nat} {x0 x1 x2 x3 : Int} {T : TypeId} (h : w.heap[g]? = some (.cells #[.int .i64 x0, .int .i64 x1, .int .i64 x2, .int .i64 x3] T)) :
    w.frozen? ⟨g, 0, none⟩ = false ∧ w.frozen? ⟨g, 1, none⟩ = false ∧ w.frozen? ⟨g, 2, none⟩ = false ∧ w.frozen? ⟨g, 3, none⟩ = false := by
  refine ⟨?_, ?_, ?_, ?_⟩ <;> simp [World.frozen?, h]

theorem rfull_is (l t r b : Int) (v : Bool) (hv : (decide (l < r) && decide (t < b)) = v) (w : World) :
    Calls Try.prog 55 #[.agg #[.int .i64 l, .int .i64 t, .int .i64 r, .int .i64 b]] w fun e w' => e = .returned (.bool v) ∧ Below w.heap.size w w' := by
  subst hv; exact rfull_any l t r b w

/-- The cells of the three arguments, boxed. -/
theorem boxed3 (w : World) (a0 a1 a2 a3 b0 b1 b2 b3 p q s u : Int) (S T U : TypeId) (w1 : World)
    (k : Below (((w.alloc (.cells #[.int .i64 a0, .int .i64 a1, .int .i64 a2, .int .i64 a3] S)).alloc (.cells #[.int .i64 b0, .int .i64 b1, .int .i64 b2, .int .i64 b3] T)).alloc (.cells #[.int .i64 p, .int .i64 q, .int .i64 s, .int .i64 u] U)).heap.size
      (((w.alloc (.cells #[.int .i64 a0, .int .i64 a1, .int .i64 a2, .int .i64 a3] S)).alloc (.cells #[.int .i64 b0, .int .i64 b1, .int .i64 b2, .int .i64 b3] T)).alloc (.cells #[.int .i64 p, .int .i64 q, .int .i64 s, .int .i64 u] U)) w1) :
    R4 w1 w.heap.size a0 a1 a2 a3 ∧ R4 w1 (w.heap.size + 1) b0 b1 b2 b3 ∧ R4 w1 (w.heap.size + 1 + 1) p q s u ∧ Below w.heap.size w w1 := by
  refine ⟨R4.below ?_ k, R4.below ?_ k, R4.below ?_ k, thru (ba3 _ _ _ _) k⟩
  all_goals (refine ⟨?_, ?_, ?_, ?_⟩ <;> simp [go_sem])

theorem inB_0 {a b c d : Int} (h : [a, b, c, d].all inB = true) : -1152921504606846976 ≤ a ∧ a ≤ 1152921504606846976 := by
  simp [inB] at h; omega
theorem inB_1 {a b c d : Int} (h : [a, b, c, d].all inB = true) : -1152921504606846976 ≤ b ∧ b ≤ 1152921504606846976 := by
  simp [inB] at h; omega
theorem inB_2 {a b c d : Int} (h : [a, b, c, d].all inB = true) : -1152921504606846976 ≤ c ∧ c ≤ 1152921504606846976 := by
  simp [inB] at h; omega
theorem inB_3 {a b c d : Int} (h : [a, b, c, d].all inB = true) : -1152921504606846976 ≤ d ∧ d ≤ 1152921504606846976 := by
  simp [inB] at h; omega

end Go.Proofs.Ytpfcefflcmeobaa.Rect
