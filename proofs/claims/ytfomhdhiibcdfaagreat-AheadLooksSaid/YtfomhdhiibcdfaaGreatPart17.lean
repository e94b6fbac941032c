/- The contract of the document's band over rows. -/
import Derived.Test.YtfomhdhiibcdfaaGreatPart4
namespace Go.Proofs.YtfomhdhiibcdfaaGreat.Shelf
open Go.RowKit Go.Sort Go.Proofs.YtfomhdhiibcdfaaGreat.Rect

def docLk (fs : List Fl) (a z : Int) (k : Nat) : Int := (fs.take k).foldl (fun v f => if decide (a < f.t) && decide (f.t < z) then max v (bandL fs f.t (f.t + 1)) else v) (bandL fs a (a + 1))
def docRk (fs : List Fl) (a z : Int) (k : Nat) : Int := (fs.take k).foldl (fun v f => if decide (a < f.t) && decide (f.t < z) then min v (bandR fs f.t (f.t + 1)) else v) (bandR fs a (a + 1))

theorem docLk_next {fs : List Fl} {k : Nat} {f : Fl} (h : fs[k]? = some f) {a z : Int} : docLk fs a z (k + 1) = if decide (a < f.t) && decide (f.t < z) then max (docLk fs a z k) (bandL fs f.t (f.t + 1)) else docLk fs a z k := by
  unfold docLk
  rw [List.take_add_one, h]
  simp [List.foldl_append]
theorem docRk_next {fs : List Fl} {k : Nat} {f : Fl} (h : fs[k]? = some f) {a z : Int} : docRk fs a z (k + 1) = if decide (a < f.t) && decide (f.t < z) then min (docRk fs a z k) (bandR fs f.t (f.t + 1)) else docRk fs a z k := by
  unfold docRk
  rw [List.take_add_one, h]
  simp [List.foldl_append]

end Go.Proofs.YtfomhdhiibcdfaaGreat.Shelf
