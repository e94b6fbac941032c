/- The walk of TreeStands, over the contracts of the program's trees. -/
import Derived.Test.YtnmfgcdenngpfaaPart9
import Derived.Test.YtnmfgcdenngpfaaPart12
import Derived.Test.YtnmfgcdenngpfaaPart10
namespace Go.Proofs.Ytnmfgcdenngpfaa.Tree
open Go.RowKit Go.Sort Go.Proofs.Ytnmfgcdenngpfaa.Record Go.Proofs.Ytnmfgcdenngpfaa.Script Go.Proofs.Ytnmfgcdenngpfaa.More

/-- The places of the boxes ahead of k that have a context of their own, falling. -/
def opensTo (bs : List Bx) (k : Nat) : List Int := (((List.range k).filter (oOf bs)).map Int.ofNat).reverse

theorem opensTo_next (bs : List Bx) (k : Nat) : opensTo bs (k + 1) = (if oOf bs k then [(k : Int)] else []) ++ opensTo bs k := by
  unfold opensTo
  rw [List.range_succ, List.filter_append, List.map_append, List.reverse_append]
  congr 1
  by_cases h : oOf bs k = true <;> simp [h]

theorem keeps_givesL (xs : List Int) : Hold.Keeps (GivesL xs) := fun w w' u hb h => by
  obtain ⟨A, c, e, hn⟩ := h
  exact ⟨A, c, e, (hn.below hb).more hb.size⟩

theorem mine_gives {w : World} {B : Nat} {A : Option Addr} {c : Nat} {xs : List Int} (h : Mine w B A xs.length c xs) : GivesL xs w (.slice A xs.length c) := ⟨A, c, rfl, h.nums⟩

theorem mine_nil (w : World) (B : Nat) : Mine w B none 0 0 [] := World.ownsRow_nil w B 3 1

theorem mine_lower {w : World} {B B' : Nat} {A : Option Addr} {n c : Nat} {xs : List Int} (h : Mine w B A n c xs) (hb : B' ≤ B) : Mine w B' A n c xs := by
  refine ⟨h.1, ?_⟩
  rcases h.2 with h | ⟨g, cap, cur, e, hg, rest⟩
  · exact .inl h
  · exact .inr ⟨g, cap, cur, e, Nat.le_trans hb hg, rest⟩

section
variable {T : World → Addr → List Bx → Prop}

end
end Go.Proofs.Ytnmfgcdenngpfaa.Tree
