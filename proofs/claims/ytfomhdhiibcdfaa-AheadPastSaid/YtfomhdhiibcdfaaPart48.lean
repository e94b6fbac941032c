/- Texts of this proof that follow each other, in one file. -/
import Derived.Test.YtfomhdhiibcdfaaPart1
import Derived.Test.YtfomhdhiibcdfaaPart28
import Derived.Deep.Slices
/-! A slice that came in, with its capacity. -/
namespace Go.Proofs.Ytfomhdhiibcdfaa
open Go.RowKit Go.ChangeShapes Go.WideShapes Go.ChangeAt

/-- A slice of numbers that came in, with its capacity. -/
theorem open_row {H : Type} {enc : TypeId × Value → H} {W : World} {v : Value} {d : DataW H} {ps : List MemPlace} (hv : ∃ a len cap, v = .slice a len cap)
    (h : DataW.Trod enc Try.prog W 0 (fun _ => true) true 22 v d ps) :
    ∃ A len cap xs, v = .slice A len cap ∧ len = xs.length ∧ len ≤ 9223372036854775807 ∧ len ≤ cap ∧ (A = none → cap = 0) ∧ Nums W W.heap.size A xs ∧ (∀ n ∈ xs, -9223372036854775808 ≤ n ∧ n ≤ 9223372036854775807) := by
  obtain ⟨a0, len, cap, rfl⟩ := hv
  obtain ⟨fuel, hf⟩ := h
  rcases open_ints Try.underlying22 Try.underlying3 cells3 hf with ⟨hcs, hx⟩ | ⟨a, len', cap', zs, hcs, _, hl, hm, hz, hx, hcell, hwz⟩
  · simp [Value.cells] at hcs
    obtain ⟨rfl, rfl, rfl⟩ := hcs
    exact ⟨none, 0, 0, [], rfl, rfl, by omega, by omega, fun _ => rfl, fun k hk => by simp at hk, fun n hn => by simp at hn⟩
  · simp [Value.cells] at hcs
    obtain ⟨rfl, rfl, rfl⟩ := hcs
    simp only [if_true] at hz
    unfold maxLen at hm
    refine ⟨some a, len, cap, zs.take len, rfl, by rw [List.length_take]; omega, by omega, by omega, fun e => (by cases e), fun k hk => ?_, fun n hn => ?_⟩
    · rw [List.length_take] at hk
      have hc := hcell k (by omega)
      have hb := World.block_lt_of_cell? _ _ hc
      rw [block_of_add] at hb
      refine ⟨a, rfl, hb, ?_⟩
      rw [hc]
      simp only [List.getD, List.getElem?_take]
      rw [if_pos (by omega)]
    · have := hwz n (List.mem_of_mem_take hn)
      simpa [Lit.wf, IntKind.min, IntKind.max, IntKind.signed, IntKind.bits] using this

end Go.Proofs.Ytfomhdhiibcdfaa

/-! Where a look begins, as it came in. -/
namespace Go.Proofs.Ytfomhdhiibcdfaa.Ahead
open Go.ChangeShapes Go.WideShapes Go.ChangeAt Go.RowKit
set_option linter.unusedVariables false
set_option maxRecDepth 100000

theorem cellsFi : Try.prog.cellsOf 3 = 1 := by kernel_rfl
theorem cellsFs : Try.prog.cellsOf 22 = 1 := by kernel_rfl
theorem cellsFb : Try.prog.cellsOf 4 = 1 := by kernel_rfl
theorem cellsFr : Try.prog.cellsOf 34 = 5 := by kernel_rfl

theorem open_from {H : Type} {enc : TypeId × Value → H} {W : World} {r : Reach} {b0 : Nat} {v : Value} {d : DataW H} {ps : List MemPlace} (hv : Value.okWide Try.prog W r b0 34 v)
    (h : DataW.Trod enc Try.prog W 0 (fun _ => true) true 34 v d ps) :
    ∃ (y : Int) (A : Option Addr) (n c : Nat) (ms : List Int) (sp l rr : Bool), v = fromV y A n c sp l rr ∧ n = ms.length ∧ n ≤ 9223372036854775807 ∧ n ≤ c ∧ (A = none → c = 0) ∧ Nums W W.heap.size A ms := by
  obtain ⟨cs, rfl, hsz⟩ := okWide_struct Try.underlying34 hv
  obtain ⟨fuel, hf0⟩ := h
  have hl : cs.toList.length = 5 := by rw [Array.length_toList]; exact hsz.trans cellsFr
  have hcs : (Value.agg cs).cells.toList = cs.toList := by simp [Value.cells]
  rw [hcs] at hf0
  obtain ⟨l⟩ := cs
  simp only at hl hf0
  match l, hl with
  | [c0, c1, c2, c3, c4], _ =>
    obtain ⟨xs, n, _, _, _, hlen, hf⟩ := DataW.trod_struct Try.underlying34 hf0
    match xs, hlen with
    | [y0, y1, y2, y3, y4], _ =>
      have f0 : DataW.trod enc Try.prog W 0 (fun _ => true) true n 3 ((([c0, c1, c2, c3, c4] : List Value).drop 0).take (Try.prog.cellsOf 3)) = some y0 := hf 0 _ rfl
      have f1 : DataW.trod enc Try.prog W 0 (fun _ => true) true n 22 ((([c0, c1, c2, c3, c4] : List Value).drop 1).take (Try.prog.cellsOf 22)) = some y1 := hf 1 _ rfl
      have f2 : DataW.trod enc Try.prog W 0 (fun _ => true) true n 4 ((([c0, c1, c2, c3, c4] : List Value).drop 2).take (Try.prog.cellsOf 4)) = some y2 := hf 2 _ rfl
      have f3 : DataW.trod enc Try.prog W 0 (fun _ => true) true n 4 ((([c0, c1, c2, c3, c4] : List Value).drop 3).take (Try.prog.cellsOf 4)) = some y3 := hf 3 _ rfl
      have f4 : DataW.trod enc Try.prog W 0 (fun _ => true) true n 4 ((([c0, c1, c2, c3, c4] : List Value).drop 4).take (Try.prog.cellsOf 4)) = some y4 := hf 4 _ rfl
      rw [cellsFi] at f0
      rw [cellsFs] at f1
      rw [cellsFb] at f2 f3 f4
      simp only [List.drop_succ_cons, List.drop_zero, List.take_succ_cons, List.take_zero] at f0 f1 f2 f3 f4
      obtain ⟨x0, e0, -, -⟩ := DataW.trod_int Try.underlying3 f0
      obtain ⟨x2, e2, -⟩ := DataW.trod_bool Try.underlying4 f2
      obtain ⟨x3, e3, -⟩ := DataW.trod_bool Try.underlying4 f3
      obtain ⟨x4, e4, -⟩ := DataW.trod_bool Try.underlying4 f4
      simp only [List.cons.injEq, and_true] at e0 e2 e3 e4
      subst e0 e2 e3 e4
      have hs : ∃ a len cap, c1 = .slice a len cap := by
        rcases open_ints Try.underlying22 Try.underlying3 cellsFi f1 with ⟨h1, -⟩ | ⟨a, len, cap, zs, h1, -⟩
        · simp at h1; exact ⟨_, _, _, h1⟩
        · simp at h1; exact ⟨_, _, _, h1⟩
      obtain ⟨A, len, cap, ms, rfl, h1, h2, h3, h4, h5, -⟩ := open_row (v := c1) hs ⟨n, by obtain ⟨a, len, cap, rfl⟩ := hs; simpa [Value.cells] using f1⟩
      exact ⟨x0, A, len, cap, ms, x2, x3, x4, rfl, h1, h2, h3, h4, h5⟩

end Go.Proofs.Ytfomhdhiibcdfaa.Ahead
