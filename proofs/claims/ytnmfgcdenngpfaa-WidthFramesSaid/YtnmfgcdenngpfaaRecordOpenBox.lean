/- A box that came in, by value. -/
import Derived.Test.YtnmfgcdenngpfaaEnds
import Derived.Test.YtnmfgcdenngpfaaRecordBox
namespace Go.Proofs.Ytnmfgcdenngpfaa.Record
open Go.ChangeShapes Go.WideShapes Go.ChangeAt Go.RowKit

theorem cellsInt : Try.prog.cellsOf 3 = 1 := by kernel_rfl
theorem cellsArr : Try.prog.cellsOf 22 = 4 := by kernel_rfl
theorem cellsBox : Try.prog.cellsOf 24 = 14 := by kernel_rfl

theorem array14 {α : Type} {cs : Array α} (h : cs.size = 14) : ∃ c0 c1 c2 c3 c4 c5 c6 c7 c8 c9 c10 c11 c12 c13, cs = #[c0, c1, c2, c3, c4, c5, c6, c7, c8, c9, c10, c11, c12, c13] := by
  obtain ⟨l⟩ := cs
  match l, h with
  | [c0, c1, c2, c3, c4, c5, c6, c7, c8, c9, c10, c11, c12, c13], _ => exact ⟨c0, c1, c2, c3, c4, c5, c6, c7, c8, c9, c10, c11, c12, c13, rfl⟩

section
variable {H : Type} {enc : TypeId × Value → H} {w : World} {base : Nat} {spare : Nat → Bool} {held : Bool}

theorem open_box {r : Reach} {b0 : Nat} {v : Value} {d : DataW H} {p : List MemPlace} (hv : Value.okWide Try.prog w r b0 24 v) (h : DataW.Trod enc Try.prog w base spare held 24 v d p) : ∃ b : Bx, v = b.v := by
  obtain ⟨cs, rfl, hsz⟩ := okWide_struct Try.underlying24 hv
  obtain ⟨c0, c1, c2, c3, c4, c5, c6, c7, c8, c9, c10, c11, c12, c13, rfl⟩ := array14 (hsz.trans cellsBox)
  obtain ⟨fuel, hf⟩ := h
  obtain ⟨xs, n, _, _, _, hlen, hf⟩ := DataW.trod_struct Try.underlying24 hf
  match xs, hlen with
  | [y0, y1, y2, y3, y4, y5, y6, y7], _ =>
    have f0 : DataW.trod enc Try.prog w base spare held n 3 (([c0, c1, c2, c3, c4, c5, c6, c7, c8, c9, c10, c11, c12, c13].drop 0).take (Try.prog.cellsOf 3)) = some y0 := hf 0 _ rfl
    have f1 : DataW.trod enc Try.prog w base spare held n 3 (([c0, c1, c2, c3, c4, c5, c6, c7, c8, c9, c10, c11, c12, c13].drop 1).take (Try.prog.cellsOf 3)) = some y1 := hf 1 _ rfl
    have f2 : DataW.trod enc Try.prog w base spare held n 3 (([c0, c1, c2, c3, c4, c5, c6, c7, c8, c9, c10, c11, c12, c13].drop 2).take (Try.prog.cellsOf 3)) = some y2 := hf 2 _ rfl
    have f3 : DataW.trod enc Try.prog w base spare held n 3 (([c0, c1, c2, c3, c4, c5, c6, c7, c8, c9, c10, c11, c12, c13].drop 3).take (Try.prog.cellsOf 3)) = some y3 := hf 3 _ rfl
    have f4 : DataW.trod enc Try.prog w base spare held n 3 (([c0, c1, c2, c3, c4, c5, c6, c7, c8, c9, c10, c11, c12, c13].drop 4).take (Try.prog.cellsOf 3)) = some y4 := hf 4 _ rfl
    have f5 : DataW.trod enc Try.prog w base spare held n 3 (([c0, c1, c2, c3, c4, c5, c6, c7, c8, c9, c10, c11, c12, c13].drop 5).take (Try.prog.cellsOf 3)) = some y5 := hf 5 _ rfl
    have f6 : DataW.trod enc Try.prog w base spare held n 22 (([c0, c1, c2, c3, c4, c5, c6, c7, c8, c9, c10, c11, c12, c13].drop 6).take (Try.prog.cellsOf 22)) = some y6 := hf 6 _ rfl
    have f7 : DataW.trod enc Try.prog w base spare held n 22 (([c0, c1, c2, c3, c4, c5, c6, c7, c8, c9, c10, c11, c12, c13].drop 10).take (Try.prog.cellsOf 22)) = some y7 := hf 7 _ rfl
    rw [cellsInt] at f0 f1 f2 f3 f4 f5
    rw [cellsArr] at f6 f7
    simp only [List.drop_succ_cons, List.drop_zero, List.take_succ_cons, List.take_zero] at f0 f1 f2 f3 f4 f5 f6 f7
    obtain ⟨x0, e0, -, -⟩ := DataW.trod_int Try.underlying3 f0
    obtain ⟨x1, e1, -, -⟩ := DataW.trod_int Try.underlying3 f1
    obtain ⟨x2, e2, -, -⟩ := DataW.trod_int Try.underlying3 f2
    obtain ⟨x3, e3, -, -⟩ := DataW.trod_int Try.underlying3 f3
    obtain ⟨x4, e4, -, -⟩ := DataW.trod_int Try.underlying3 f4
    obtain ⟨x5, e5, -, -⟩ := DataW.trod_int Try.underlying3 f5
    obtain ⟨_, _, _, _, _, _, g6, g7, g8, g9⟩ := ChangeShapes.trod_array4 Try.underlying22 cellsInt f6
    obtain ⟨_, _, _, _, _, _, g10, g11, g12, g13⟩ := ChangeShapes.trod_array4 Try.underlying22 cellsInt f7
    obtain ⟨x6, e6, -, -⟩ := DataW.trod_int Try.underlying3 g6
    obtain ⟨x7, e7, -, -⟩ := DataW.trod_int Try.underlying3 g7
    obtain ⟨x8, e8, -, -⟩ := DataW.trod_int Try.underlying3 g8
    obtain ⟨x9, e9, -, -⟩ := DataW.trod_int Try.underlying3 g9
    obtain ⟨x10, e10, -, -⟩ := DataW.trod_int Try.underlying3 g10
    obtain ⟨x11, e11, -, -⟩ := DataW.trod_int Try.underlying3 g11
    obtain ⟨x12, e12, -, -⟩ := DataW.trod_int Try.underlying3 g12
    obtain ⟨x13, e13, -, -⟩ := DataW.trod_int Try.underlying3 g13
    simp only [List.cons.injEq, and_true] at e0 e1 e2 e3 e4 e5 e6 e7 e8 e9 e10 e11 e12 e13
    subst e0 e1 e2 e3 e4 e5 e6 e7 e8 e9 e10 e11 e12 e13
    exact ⟨⟨x0, x1, x2, x3, x4, x5, x6, x7, x8, x9, x10, x11, x12, x13⟩, rfl⟩

end

end Go.Proofs.Ytnmfgcdenngpfaa.Record
