/- The contract of the document's next edge. -/
import Derived.Test.YtfomhdhiibcdfaaGreatPart4
import Derived.Test.YtfomhdhiibcdfaaGreatPart14
namespace Go.Proofs.YtfomhdhiibcdfaaGreat.Shelf
open Go.RowKit Go.Sort Go.Proofs.YtfomhdhiibcdfaaGreat.Rect Go.Proofs.YtfomhdhiibcdfaaGreat.More

/-- A slice of two numbers. -/
def Two (x y : Int) (w : World) (u : Value) : Prop := ∃ g : Nat, u = .slice (some ⟨g, 0, none⟩) 2 2 ∧ w.cell? ⟨g, 0, none⟩ = some (.int .i64 x) ∧ w.cell? ⟨g, 1, none⟩ = some (.int .i64 y) ∧ g < w.heap.size

theorem two_keeps (x y : Int) : Hold.Keeps (Two x y) := fun _ _ _ hb ⟨g, e, h1, h2, h3⟩ => ⟨g, e, (hb.cell (p := ⟨g, 0, none⟩) h3).trans h1, (hb.cell (p := ⟨g, 1, none⟩) h3).trans h2, Nat.lt_of_lt_of_le h3 hb.size⟩

/-- The first k floats' least edge below a row. -/
def nextK (fs : List Fl) (y : Int) (k : Nat) : Int × Bool := (fs.take k).foldl (fun s f => stepN y (cntF f) (stepN y (cntF f) s f.t) f.b) (0, false)
theorem nextK_next {fs : List Fl} {k : Nat} {f : Fl} (h : fs[k]? = some f) (y : Int) : nextK fs y (k + 1) = stepN y (cntF f) (stepN y (cntF f) (nextK fs y k) f.t) f.b := by
  unfold nextK
  rw [List.take_add_one, h]
  simp [List.foldl_append]
theorem nextK_all (fs : List Fl) (y : Int) : nextK fs y fs.length = nextF fs y := by unfold nextK nextF; rw [List.take_of_length_le (Nat.le_refl _)]

/-- What a step does, said with numbers. -/
theorem step_no {y e v : Int} {c ok : Bool} (h : c = false ∨ ¬ y < e ∨ (ok = true ∧ ¬ e < v)) : stepN y c (v, ok) e = (v, ok) := by
  unfold stepN
  rcases h with h | h | ⟨h, h2⟩
  · subst h; simp
  · simp [h]
  · subst h; simp [h2]
theorem step_yes {y e v : Int} {ok : Bool} (h : y < e) (h2 : ok = false ∨ e < v) : stepN y true (v, ok) e = (e, true) := by
  unfold stepN
  rcases h2 with h2 | h2
  · subst h2; simp [h]
  · simp [h, h2]

theorem two_is {x y : Int} {w : World} {u : Value} (h : Two x y w u) : ∃ g : Nat, u = .slice (some ⟨g, 0, none⟩) 2 2 := ⟨h.choose, h.choose_spec.1⟩

/-- Within a float: no edge yet, one, both. -/
def stepJ (y : Int) (f : Fl) (s : Int × Bool) : Nat → Int × Bool
  | 0 => s
  | 1 => stepN y (cntF f) s f.t
  | _ => stepN y (cntF f) (stepN y (cntF f) s f.t) f.b

end Go.Proofs.YtfomhdhiibcdfaaGreat.Shelf
