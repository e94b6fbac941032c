/- Wants that lie in blocks of their own; what stores leave of them. -/
import Derived.Test.YtkabpflbedpbaaaPart29
namespace Go.Proofs.Ytkabpflbedpbaaa.Place
open Go.RowKit Go.Sort Go.Proofs.Ytkabpflbedpbaaa.Rect Go.Proofs.Ytkabpflbedpbaaa.More Go.Proofs.Ytkabpflbedpbaaa.Shelf Go.Proofs.Ytkabpflbedpbaaa.Space
set_option linter.unusedVariables false
set_option linter.unusedSimpArgs false

abbrev wcells (x : Wt) : Array Value := #[.int .i64 x.s, .int .i64 x.c, .int .i64 x.f, .int .i64 x.t, .int .i64 x.wd, .int .i64 x.ht, .int .i64 x.y]
abbrev zeroW : Wt := ⟨0, 0, 0, 0, 0, 0, 0⟩

/-- A block that is a want. -/
def Wb (w : World) (b : Nat) (x : Wt) : Prop := w.heap[b]? = some (.cells (wcells x) 24)

theorem Wb.at' {w : World} {b : Nat} {x : Wt} (h : Wb w b x) : AtW w b x := by
  have h' : w.heap[b]? = some (.cells (wcells x) 24) := h
  refine ⟨?_, ?_, ?_, ?_, ?_, ?_, ?_⟩ <;> simp [World.cell?, h']
theorem Wb.below {w w' : World} {b : Nat} {x : Wt} (h : Wb w b x) (k : Below w.heap.size w w') : Wb w' b x := (k.block b (lt_of_block h)).trans h
theorem Wb.lt {w : World} {b : Nat} {x : Wt} (h : Wb w b x) : b < w.heap.size := lt_of_block h
theorem Wb.free {w : World} {b : Nat} {x : Wt} (h : Wb w b x) : w.frozen? ⟨b, 0, none⟩ = false ∧ w.frozen? ⟨b, 1, none⟩ = false ∧ w.frozen? ⟨b, 2, none⟩ = false ∧ w.frozen? ⟨b, 3, none⟩ = false ∧ w.frozen? ⟨b, 4, none⟩ = false ∧ w.frozen? ⟨b, 5, none⟩ = false ∧ w.frozen? ⟨b, 6, none⟩ = false := by
  have h' : w.heap[b]? = some (.cells (wcells x) 24) := h
  refine ⟨?_, ?_, ?_, ?_, ?_, ?_, ?_⟩ <;> simp [World.frozen?, h']
theorem Wb.other {w : World} {b b' o : Nat} {x : Wt} {v : Value} (h : Wb w b x) (hne : b ≠ b') : Wb (w.setCell ⟨b', o, none⟩ v) b x := (Below.heap_setCell _ _ _ _ hne).trans h

theorem Wb.set0 {w : World} {b : Nat} {x : Wt} (h : Wb w b x) (v : Int) : Wb (w.setCell ⟨b, 0, none⟩ (.int .i64 v)) b { x with s := v } := by
  have h' : w.heap[b]? = some (.cells (wcells x) 24) := h
  unfold Wb
  simp [World.setCell, Array.getElem?_modify, h']
theorem Wb.set1 {w : World} {b : Nat} {x : Wt} (h : Wb w b x) (v : Int) : Wb (w.setCell ⟨b, 1, none⟩ (.int .i64 v)) b { x with c := v } := by
  have h' : w.heap[b]? = some (.cells (wcells x) 24) := h
  unfold Wb
  simp [World.setCell, Array.getElem?_modify, h']
theorem Wb.set2 {w : World} {b : Nat} {x : Wt} (h : Wb w b x) (v : Int) : Wb (w.setCell ⟨b, 2, none⟩ (.int .i64 v)) b { x with f := v } := by
  have h' : w.heap[b]? = some (.cells (wcells x) 24) := h
  unfold Wb
  simp [World.setCell, Array.getElem?_modify, h']
theorem Wb.set3 {w : World} {b : Nat} {x : Wt} (h : Wb w b x) (v : Int) : Wb (w.setCell ⟨b, 3, none⟩ (.int .i64 v)) b { x with t := v } := by
  have h' : w.heap[b]? = some (.cells (wcells x) 24) := h
  unfold Wb
  simp [World.setCell, Array.getElem?_modify, h']
theorem Wb.set4 {w : World} {b : Nat} {x : Wt} (h : Wb w b x) (v : Int) : Wb (w.setCell ⟨b, 4, none⟩ (.int .i64 v)) b { x with wd := v } := by
  have h' : w.heap[b]? = some (.cells (wcells x) 24) := h
  unfold Wb
  simp [World.setCell, Array.getElem?_modify, h']
theorem Wb.set5 {w : World} {b : Nat} {x : Wt} (h : Wb w b x) (v : Int) : Wb (w.setCell ⟨b, 5, none⟩ (.int .i64 v)) b { x with ht := v } := by
  have h' : w.heap[b]? = some (.cells (wcells x) 24) := h
  unfold Wb
  simp [World.setCell, Array.getElem?_modify, h']
theorem Wb.set6 {w : World} {b : Nat} {x : Wt} (h : Wb w b x) (v : Int) : Wb (w.setCell ⟨b, 6, none⟩ (.int .i64 v)) b { x with y := v } := by
  have h' : w.heap[b]? = some (.cells (wcells x) 24) := h
  unfold Wb
  simp [World.setCell, Array.getElem?_modify, h']

abbrev putW (w : World) (g : Nat) (x : Wt) : World :=
  ((((((w.setCell ⟨g, 0, none⟩ (.int .i64 x.s)).setCell ⟨g, 1, none⟩ (.int .i64 x.c)).setCell ⟨g, 2, none⟩ (.int .i64 x.f)).setCell ⟨g, 3, none⟩ (.int .i64 x.t)).setCell ⟨g, 4, none⟩ (.int .i64 x.wd)).setCell ⟨g, 5, none⟩ (.int .i64 x.ht)).setCell ⟨g, 6, none⟩ (.int .i64 x.y)

theorem only_putW {w : World} {g : Nat} (z x : Wt) (h : w.heap[g]? = some (.cells (wcells z) 24)) : (putW w g x).heap[g]? = some (.cells (wcells x) 24) ∧ Draw.Only g w (putW w g x) := by
  refine ⟨?_, ((((((Draw.Only.set g _ 0 _).trans (Draw.Only.set g _ 1 _)).trans (Draw.Only.set g _ 2 _)).trans (Draw.Only.set g _ 3 _)).trans (Draw.Only.set g _ 4 _)).trans (Draw.Only.set g _ 5 _)).trans (Draw.Only.set g _ 6 _)⟩
  have h0 : Wb w g z := h
  exact ((((((h0.set0 x.s).set1 x.c).set2 x.f).set3 x.t).set4 x.wd).set5 x.ht).set6 x.y

end Go.Proofs.Ytkabpflbedpbaaa.Place
