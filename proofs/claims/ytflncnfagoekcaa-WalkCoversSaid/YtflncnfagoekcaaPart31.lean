/- The walk of TreeStands, over the contracts of the program's trees. -/
import Derived.Test.YtflncnfagoekcaaPart9
import Derived.Test.YtflncnfagoekcaaPart24
import Derived.Test.YtflncnfagoekcaaPart13
namespace Go.Proofs.Ytflncnfagoekcaa.Tree
open Go.RowKit Go.Sort Go.Proofs.Ytflncnfagoekcaa.Record Go.Proofs.Ytflncnfagoekcaa.Script Go.Proofs.Ytflncnfagoekcaa.More

/-- The places of the boxes ahead of k that have a context of their own, falling. -/
def opensTo (bs : List Bx) (k : Nat) : List Int := (((List.range k).filter (oOf bs)).map Int.ofNat).reverse

theorem opensTo_next (bs : List Bx) (k : Nat) : opensTo bs (k + 1) = (if oOf bs k then [(k : Int)] else []) ++ opensTo bs k := by
  unfold opensTo
  rw [List.range_succ, List.filter_append, List.map_append, List.reverse_append]
  congr 1
  by_cases h : oOf bs k = true <;> simp [h]

theorem keeps_givesL (xs : List Int) : Hold.Keeps (GivesL xs) := fun w w' u hb h => by
  obtain ⟨A, c, e, hn⟩ := h
  exact ⟨A, c, e, (hn.below hb).more hb.size⟩

theorem mine_gives {w : World} {B : Nat} {A : Option Addr} {c : Nat} {xs : List Int} (h : Mine w B A xs.length c xs) : GivesL xs w (.slice A xs.length c) := ⟨A, c, rfl, h.nums⟩

theorem mine_nil (w : World) (B : Nat) : Mine w B none 0 0 [] := World.ownsRow_nil w B 3 1

theorem mine_lower {w : World} {B B' : Nat} {A : Option Addr} {n c : Nat} {xs : List Int} (h : Mine w B A n c xs) (hb : B' ≤ B) : Mine w B' A n c xs := by
  refine ⟨h.1, ?_⟩
  rcases h.2 with h | ⟨g, cap, cur, e, hg, rest⟩
  · exact .inl h
  · exact .inr ⟨g, cap, cur, e, Nat.le_trans hb hg, rest⟩

theorem same_held {xs : List Int} {w : World} {u1 u2 : Value} (h1 : GivesL xs w u1) (h2 : GivesL xs w u2) (hl : xs.length ≤ 9223372036854775807) :
    Calls Try.prog 15 #[u1, u2] w fun e w' => e = .returned (.bool true) ∧ Below w.heap.size w w' := by
  obtain ⟨A1, c1, rfl, g1⟩ := h1
  obtain ⟨A2, c2, rfl, g2⟩ := h2
  exact same_yes A1 xs.length c1 A2 c2 xs w rfl hl g1 g2

section
variable {T : World → Addr → List Bx → Prop}

end
end Go.Proofs.Ytflncnfagoekcaa.Tree
