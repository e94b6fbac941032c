/- Acts that came in: a list of them. -/
import Derived.Test.YtkjbimoflmkekaaSpotGSmall
import Derived.Test.YtkjbimoflmkekaaEnds
import Derived.Deep.Slices
namespace Go.Proofs.Ytkjbimoflmkekaa.Spot
open Go.ChangeShapes Go.WideShapes Go.ChangeAt Go.RowKit
set_option linter.unusedVariables false
set_option maxRecDepth 100000

theorem cellsI : Try.prog.cellsOf 3 = 1 := by kernel_rfl
theorem cellsA3 : Try.prog.cellsOf 32 = 3 := by kernel_rfl

theorem mapM_at {α β : Type} {f : α → Option β} : ∀ {l : List α} {r : List β}, l.mapM f = some r → ∀ (j : Nat) (x : α), l[j]? = some x → ∃ y, r[j]? = some y ∧ f x = some y := by
  intro l
  induction l with
  | nil => intro r h j x hx; simp at hx
  | cons a l ih =>
    intro r h j x hx
    rw [List.mapM_cons] at h
    simp only [bind, Option.bind_eq_some_iff, pure, Option.some.injEq] at h
    obtain ⟨b, hb, r', hr, rfl⟩ := h
    cases j with
    | zero =>
      simp only [List.getElem?_cons_zero, Option.some.injEq] at hx
      subst hx
      exact ⟨b, rfl, hb⟩
    | succ j =>
      simp only [List.getElem?_cons_succ] at hx ⊢
      exact ih hr j x hx

theorem lenM {α β : Type} {f : α → Option β} : ∀ {l : List α} {r : List β}, l.mapM f = some r → r.length = l.length := by
  intro l
  induction l with
  | nil => intro r h; simp at h; subst h; rfl
  | cons a l ih =>
    intro r h
    rw [List.mapM_cons] at h
    simp only [bind, Option.bind_eq_some_iff, pure, Option.some.injEq] at h
    obtain ⟨b, hb, r', hr, rfl⟩ := h
    simp [ih hr]

theorem cell_off (w : World) (p : Addr) (j : Nat) (v : Value) (hj : 0 < j) (h : w.cell? (p.add j) = some v) : w.cell? ⟨p.block, p.off + j, none⟩ = some v := by
  obtain ⟨q, rfl⟩ : ∃ q, j = q + 1 := ⟨j - 1, by omega⟩
  simpa [Addr.add] using h

/-- An act. -/
structure Ac where
  d : Int
  y : Int
  m : Int
def cellsAc (x : Ac) : List Value := [.int .i64 x.d, .int .i64 x.y, .int .i64 x.m]
def AtA (w : World) (p : Addr) (x : Ac) : Prop := w.cell? p = some (.int .i64 x.d) ∧ w.cell? ⟨p.block, p.off + 1, none⟩ = some (.int .i64 x.y) ∧ w.cell? ⟨p.block, p.off + 2, none⟩ = some (.int .i64 x.m)
theorem AtA.below {w w' : World} {B : Nat} {p : Addr} {x : Ac} (h : AtA w p x) (hp : p.block < B) (k : Below B w w') : AtA w' p x :=
  ⟨(k.cell (p := p) hp).trans h.1, (k.cell (p := ⟨p.block, p.off + 1, none⟩) hp).trans h.2.1, (k.cell (p := ⟨p.block, p.off + 2, none⟩) hp).trans h.2.2⟩
/-- The acts of a slice, below block B. -/
def Acts (w : World) (B : Nat) (A : Option Addr) (l : List Ac) : Prop :=
  ∀ k x, l[k]? = some x → ∃ ad : Addr, A = some ad ∧ ad.block < B ∧ AtA w (ad.add (k * 3)) x
theorem Acts.below {w w' : World} {B : Nat} {A : Option Addr} {l : List Ac} (h : Acts w B A l) (k : Below B w w') : Acts w' B A l := fun i f hi => by
  obtain ⟨ad, e, hb, hc⟩ := h i f hi
  exact ⟨ad, e, hb, hc.below (by rw [block_of_add]; exact hb) k⟩
theorem Acts.more {w : World} {B C : Nat} {A : Option Addr} {l : List Ac} (h : Acts w B A l) (hc : B ≤ C) : Acts w C A l := fun i f hi => by
  obtain ⟨ad, e, hb, hx⟩ := h i f hi
  exact ⟨ad, e, by omega, hx⟩
theorem Acts.thru {w w' : World} {A : Option Addr} {l : List Ac} (h : Acts w w.heap.size A l) (k : Below w.heap.size w w') : Acts w' w'.heap.size A l := (h.below k).more k.size

theorem atA_of {w : World} {p : Addr} {x : Ac} (h : ∀ j v, (cellsAc x)[j]? = some v → w.cell? (p.add j) = some v) : AtA w p x := by
  refine ⟨?_, cell_off _ _ _ _ (by omega) (h 1 _ rfl), cell_off _ _ _ _ (by omega) (h 2 _ rfl)⟩
  have := h 0 _ rfl
  simpa [Addr.add] using this

section
variable {H : Type} {enc : TypeId × Value → H} {w : World} {base : Nat} {spare : Nat → Bool} {held : Bool}

theorem list3 {α : Type} {l : List α} (h : l.length = 3) : ∃ c0 c1 c2, l = [c0, c1, c2] := by
  match l, h with
  | [c0, c1, c2], _ => exact ⟨c0, c1, c2, rfl⟩

/-- The cells of an act that is read. -/
theorem cells_act {n : Nat} {cs : List Value} {y : DataW H × List MemPlace} (hl : cs.length = 3) (h : DataW.trod enc Try.prog w base spare held n 32 cs = some y) : ∃ x : Ac, cs = cellsAc x := by
  obtain ⟨c0, c1, c2, rfl⟩ := list3 hl
  obtain ⟨xs, n, _, _, _, hlen, hf⟩ := DataW.trod_struct Try.underlying32 h
  match xs, hlen with
  | [y0, y1, y2], _ =>
    have f0 : DataW.trod enc Try.prog w base spare held n 3 ((([c0, c1, c2] : List Value).drop 0).take (Try.prog.cellsOf 3)) = some y0 := hf 0 _ rfl
    have f1 : DataW.trod enc Try.prog w base spare held n 3 ((([c0, c1, c2] : List Value).drop 1).take (Try.prog.cellsOf 3)) = some y1 := hf 1 _ rfl
    have f2 : DataW.trod enc Try.prog w base spare held n 3 ((([c0, c1, c2] : List Value).drop 2).take (Try.prog.cellsOf 3)) = some y2 := hf 2 _ rfl
    rw [cellsI] at f0 f1 f2
    simp only [List.drop_succ_cons, List.drop_zero, List.take_succ_cons, List.take_zero] at f0 f1 f2
    obtain ⟨x0, e0, -, -⟩ := DataW.trod_int Try.underlying3 f0
    obtain ⟨x1, e1, -, -⟩ := DataW.trod_int Try.underlying3 f1
    obtain ⟨x2, e2, -, -⟩ := DataW.trod_int Try.underlying3 f2
    simp only [List.cons.injEq, and_true] at e0 e1 e2
    subst e0 e1 e2
    exact ⟨⟨x0, x1, x2⟩, rfl⟩

end

/-- A slice of acts that came in. -/
theorem open_acts {H : Type} {enc : TypeId × Value → H} {W : World} {v : Value} {d : DataW H} {ps : List MemPlace} (hv : ∃ a len cap, v = .slice a len cap)
    (h : DataW.Trod enc Try.prog W 0 (fun _ => true) true 22 v d ps) :
    ∃ A len cap xs, v = .slice A len cap ∧ len = xs.length ∧ len ≤ 9223372036854775807 ∧ len ≤ cap ∧ (A = none → cap = 0) ∧ Acts W W.heap.size A xs := by
  obtain ⟨a0, len, cap, rfl⟩ := hv
  obtain ⟨fuel, hf⟩ := h
  rcases Go.Deep.open_slice Try.underlying22 hf with ⟨hcs, hx⟩ | ⟨a, len', cap', m, n, D, Pl, hcs, _, hl, hm, hz, hx, hcell⟩
  · simp [Value.cells] at hcs
    obtain ⟨rfl, rfl, rfl⟩ := hcs
    exact ⟨none, 0, 0, [], rfl, rfl, by omega, by omega, fun _ => rfl, fun k f hk => by simp at hk⟩
  · simp [Value.cells] at hcs
    obtain ⟨rfl, rfl, rfl⟩ := hcs
    simp only [if_true] at hz
    subst hz
    unfold maxLen at hm
    have each : ∀ i, ∃ f : Ac, i < len → a.block < W.heap.size ∧ AtA W (a.add (i * 3)) f := fun i => by
      by_cases hi : i < len
      · obtain ⟨cs', hc, ht⟩ := hcell i (by omega)
        rw [cellsA3] at hc
        unfold World.cells? at hc
        split at hc
        · have hl2 : cs'.length = 3 := by
            have := lenM hc
            simpa using this
          obtain ⟨f, rfl⟩ := cells_act hl2 ht
          refine ⟨f, fun _ => ?_⟩
          have hat : ∀ j v, (cellsAc f)[j]? = some v → W.cell? ((a.add (i * 3)).add j) = some v := fun j v hv => by
            have hj : j < 3 := (List.getElem?_eq_some_iff.1 hv).1
            obtain ⟨y, hy, hfy⟩ := mapM_at hc j j (by simp [List.getElem?_range hj])
            rw [hv] at hy
            injection hy with hy
            rw [hy]
            exact hfy
          refine ⟨?_, atA_of hat⟩
          have hb := World.block_lt_of_cell? _ _ (hat 0 _ rfl)
          rw [block_of_add, block_of_add] at hb
          exact hb
        · simp at hc
      · exact ⟨⟨0, 0, 0⟩, fun h => absurd h hi⟩
    obtain ⟨f, hf⟩ := Classical.axiomOfChoice each
    refine ⟨some a, len, _, (List.range len).map f, rfl, by simp, by omega, hl, fun e => (by cases e), fun k x hk => ?_⟩
    have hk' : k < len := by have := (List.getElem?_eq_some_iff.1 hk).1; simpa using this
    obtain ⟨h1, h2⟩ := hf k hk'
    refine ⟨a, rfl, h1, ?_⟩
    have : f k = x := by simpa [hk'] using hk
    rw [← this]
    exact h2

end Go.Proofs.Ytkjbimoflmkekaa.Spot
