/- The contracts of the ranges over lists: is one too great? which is the least? -/
import Derived.Test.YtleikbpikmineaaRecordBase
namespace Go.Proofs.Ytleikbpikmineaa.Record
open Go.RowKit Go.Sort

theorem any_take (xs : List Int) (f : Int → Bool) (k : Nat) (h : k < xs.length) (ht : (xs.take k).any f = false) (hy : f (xs.getD k 0) = false) : (xs.take (k + 1)).any f = false := by
  rw [take_next xs k h, List.any_append, ht, List.any_cons, hy]; rfl

theorem any_at (xs : List Int) (f : Int → Bool) (k : Nat) (h : k < xs.length) (hy : f (xs.getD k 0) = true) : xs.any f = true := by
  rw [List.any_eq_true]
  exact ⟨xs.getD k 0, by simp [List.getD, h], hy⟩

/-- The least of a list. -/
def minOf (xs : List Int) : Int := xs.foldl min (xs.getD 0 0)

theorem minOf_take (xs : List Int) (k : Nat) (h : k < xs.length) : (xs.take (k + 1)).foldl min (xs.getD 0 0) = min ((xs.take k).foldl min (xs.getD 0 0)) (xs.getD k 0) := by
  rw [take_next xs k h, List.foldl_append]; rfl

theorem minOf_one (xs : List Int) (h : 0 < xs.length) : (xs.take 1).foldl min (xs.getD 0 0) = xs.getD 0 0 := by
  have := minOf_take xs 0 h; simpa using this

end Go.Proofs.Ytleikbpikmineaa.Record
