/- A new box's block, one of whose numbers is turned. -/
import Derived.Test.YtnmfgcdenngpfaaRecordRef
import Derived.Test.YtnmfgcdenngpfaaRecordFits
namespace Go.Proofs.Ytnmfgcdenngpfaa.Record
open Go.RowKit Go.Sort

/-- A box of another kind. -/
abbrev Bx.kind (b : Bx) (k : Int) : Bx := { b with k := k }

theorem kind_in {w : World} {g : Nat} (b : Bx) {T : TypeId} (k : Int) (h : w.heap[g]? = some (.cells #[.int .i64 b.d, .int .i64 b.k, .int .i64 b.s, .int .i64 b.c, .int .i64 b.w, .int .i64 b.h, .int .i64 b.m0, .int .i64 b.m1, .int .i64 b.m2, .int .i64 b.m3, .int .i64 b.e0, .int .i64 b.e1, .int .i64 b.e2, .int .i64 b.e3] T)) :
    At (w.setCell ⟨g, 1, none⟩ (.int .i64 k)) g (b.kind k) := by
  have hlt := lt_of_block h
  exact At.of_block (T := T) (by simp [World.setCell, Array.getElem?_modify, h])

end Go.Proofs.Ytnmfgcdenngpfaa.Record
