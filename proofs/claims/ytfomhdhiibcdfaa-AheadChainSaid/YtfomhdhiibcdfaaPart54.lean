/- The law of chains, of whatever comes in. -/
import Derived.Test.YtfomhdhiibcdfaaPart53
namespace Go.Proofs.Ytfomhdhiibcdfaa.Ahead
open Go.RowKit Go.Sort Go.Proofs.Ytfomhdhiibcdfaa.More Go.Proofs.Ytfomhdhiibcdfaa.Record Go.Proofs.Ytfomhdhiibcdfaa.Script Go.Proofs.Ytfomhdhiibcdfaa.Tree Go.Proofs.Ytfomhdhiibcdfaa.Shelf Go.Proofs.Ytfomhdhiibcdfaa.Space Go.Proofs.Ytfomhdhiibcdfaa.Spot
set_option linter.unusedVariables false
set_option linter.unusedSimpArgs false

theorem chain_law {T : World → Addr → List Bx → Prop} {S : World → (Nat → Prop) → Addr → List Fl → Prop} (hT : TreeOk T) (hS : SpaceOk S) (hA : AheadOk T S) (A : Option Addr) (n c : Nat) (ml : List (Int × Int)) (y : Int) (high : Bool) (w : World)
    (hn : n = ml.length) (hy : -2147483648 ≤ y ∧ y ≤ 2147483647) (hx : Pairs w w.heap.size A ml) (hb : SmallP ml) :
    Calls Try.prog 5 #[.slice A n c, .int .i32 y, .bool high] w fun e w' => e = .returned (.bool true) ∧ Below w.heap.size w w' := by
  by_cases h : 40 < n ∨ n = 0
  · exact chain_no hT hS hA A n c y high w h
  · obtain ⟨x, hx0⟩ : ∃ x, ml[0]? = some x := ⟨_, List.getElem?_eq_getElem (by omega)⟩
    obtain ⟨ad0, rfl, -⟩ := hx 0 x hx0
    exact chain_yes hT hS hA ad0 n c ml y high w hn (by omega) (by omega) hy hb hx

end Go.Proofs.Ytfomhdhiibcdfaa.Ahead
