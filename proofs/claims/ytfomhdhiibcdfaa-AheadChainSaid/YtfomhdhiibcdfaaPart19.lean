/- The document's Past, over its Into; and both. -/
import Derived.Test.YtfomhdhiibcdfaaPart18
namespace Go.Proofs.Ytfomhdhiibcdfaa.Ahead
open Go.RowKit Go.Sort Go.Proofs.Ytfomhdhiibcdfaa.More Go.Proofs.Ytfomhdhiibcdfaa.Record Go.Proofs.Ytfomhdhiibcdfaa.Script Go.Proofs.Ytfomhdhiibcdfaa.Tree Go.Proofs.Ytfomhdhiibcdfaa.Shelf Go.Proofs.Ytfomhdhiibcdfaa.Space Go.Proofs.Ytfomhdhiibcdfaa.Spot
set_option linter.unusedVariables false
set_option linter.unusedSimpArgs false

/-- How all lies in Past. -/
structure PaSt (w wx : World) (b7 : Nat) (b : Bx) (k : Rl) (A : Option Addr) (n c : Nat) : Prop where
  low : Below w.heap.size w wx
  look : Lies wx b7 (rlrow k A n c)
  out : Lies wx (b7 + 1) (rlrow zeroRl none 0 0)
  box : At wx (b7 + 2) b

theorem PaSt.below {w wx wy : World} {b7 : Nat} {b : Bx} {k : Rl} {A : Option Addr} {n c : Nat} (h : PaSt w wx b7 b k A n c) (j : Below wx.heap.size wx wy) : PaSt w wy b7 b k A n c :=
  ⟨thru h.low j, h.look.below (by simp) j, h.out.below (by simp) j, h.box.below h.box.lt j⟩
/-- What is written anew is the look, or lies behind. -/
theorem PaSt.onto {w wx wy : World} {b7 g : Nat} {b : Bx} {k : Rl} {A : Option Addr} {n c : Nat} (h : PaSt w wx b7 b k A n c) (hb : w.heap.size ≤ b7) (sv : Save (fun j => j = g) wx wy) (hg : b7 + 3 ≤ g) : PaSt w wy b7 b k A n c :=
  ⟨h.low.trans (sv.blw (by omega) h.low.size), h.look.save (by simp) sv (show ¬ b7 = g by omega), h.out.save (by simp) sv (show ¬ b7 + 1 = g by omega), by
    have e : ∀ o, wy.cell? ⟨b7 + 2, o, none⟩ = wx.cell? ⟨b7 + 2, o, none⟩ := fun o => World.cell?_of_block (a := ⟨b7 + 2, o, none⟩) (sv.block _ h.box.lt (show ¬ b7 + 2 = g by omega))
    have hx := h.box
    unfold At at *
    simp only [e]
    exact hx⟩
theorem PaSt.cells {w wx : World} {b7 : Nat} {b : Bx} {k : Rl} {A : Option Addr} {n c : Nat} (h : PaSt w wx b7 b k A n c) : LkAt wx b7 k A n c ∧ LkFr wx b7 ∧ LkAt wx (b7 + 1) zeroRl none 0 0 ∧ LkFr wx (b7 + 1) :=
  ⟨lkat_of h.look, lkfr_of h.look, lkat_of h.out, lkfr_of h.out⟩

end Go.Proofs.Ytfomhdhiibcdfaa.Ahead
