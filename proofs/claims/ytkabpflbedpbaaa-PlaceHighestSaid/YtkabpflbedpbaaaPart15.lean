/- Texts of this proof that follow each other, in one file. -/
import Derived.Test.YtkabpflbedpbaaaPart14
import Derived.Test.YtkabpflbedpbaaaPart4
import Derived.Test.YtkabpflbedpbaaaPart12
/-! Wants that came in: a list of them, and one by itself. -/
namespace Go.Proofs.Ytkabpflbedpbaaa.Place
open Go.ChangeShapes Go.WideShapes Go.ChangeAt Go.RowKit Go.Proofs.Ytkabpflbedpbaaa.Rect Go.Proofs.Ytkabpflbedpbaaa.Shelf
set_option linter.unusedVariables false
set_option maxRecDepth 100000

theorem cellsW : Try.prog.cellsOf 24 = 7 := by kernel_rfl

def cellsWt (x : Wt) : List Value := [.int .i64 x.s, .int .i64 x.c, .int .i64 x.f, .int .i64 x.t, .int .i64 x.wd, .int .i64 x.ht, .int .i64 x.y]

/-- A want that lies at an address. -/
def AtP (w : World) (p : Addr) (x : Wt) : Prop :=
  w.cell? p = some (.int .i64 x.s) ∧ w.cell? ⟨p.block, p.off + 1, none⟩ = some (.int .i64 x.c) ∧ w.cell? ⟨p.block, p.off + 2, none⟩ = some (.int .i64 x.f) ∧ w.cell? ⟨p.block, p.off + 3, none⟩ = some (.int .i64 x.t) ∧ w.cell? ⟨p.block, p.off + 4, none⟩ = some (.int .i64 x.wd) ∧ w.cell? ⟨p.block, p.off + 5, none⟩ = some (.int .i64 x.ht) ∧ w.cell? ⟨p.block, p.off + 6, none⟩ = some (.int .i64 x.y)

theorem AtP.below {w w' : World} {B : Nat} {p : Addr} {x : Wt} (h : AtP w p x) (hp : p.block < B) (k : Below B w w') : AtP w' p x := by
  have e0 : w'.cell? p = w.cell? p := k.cell hp
  have e : ∀ o, w'.cell? ⟨p.block, o, none⟩ = w.cell? ⟨p.block, o, none⟩ := fun o => k.cell (p := ⟨p.block, o, none⟩) hp
  unfold AtP at *
  simp only [e, e0]
  exact h

theorem atP_of {w : World} {p : Addr} {x : Wt} (h : ∀ j v, (cellsWt x)[j]? = some v → w.cell? (p.add j) = some v) : AtP w p x := by
  refine ⟨?_, cell_off _ _ _ _ (by omega) (h 1 _ rfl), cell_off _ _ _ _ (by omega) (h 2 _ rfl), cell_off _ _ _ _ (by omega) (h 3 _ rfl), cell_off _ _ _ _ (by omega) (h 4 _ rfl), cell_off _ _ _ _ (by omega) (h 5 _ rfl), cell_off _ _ _ _ (by omega) (h 6 _ rfl)⟩
  have := h 0 _ rfl
  simpa [Addr.add] using this

/-- The wants of a slice, below block B. -/
def Wants (w : World) (B : Nat) (A : Option Addr) (xs : List Wt) : Prop :=
  ∀ k x, xs[k]? = some x → ∃ ad : Addr, A = some ad ∧ ad.block < B ∧ AtP w (ad.add (k * 7)) x

theorem Wants.below {w w' : World} {B : Nat} {A : Option Addr} {xs : List Wt} (h : Wants w B A xs) (k : Below B w w') : Wants w' B A xs := fun i f hi => by
  obtain ⟨ad, e, hb, hc⟩ := h i f hi
  exact ⟨ad, e, hb, hc.below (by rw [block_of_add]; exact hb) k⟩
theorem Wants.more {w : World} {B C : Nat} {A : Option Addr} {xs : List Wt} (h : Wants w B A xs) (hc : B ≤ C) : Wants w C A xs := fun i f hi => by
  obtain ⟨ad, e, hb, hx⟩ := h i f hi
  exact ⟨ad, e, by omega, hx⟩
theorem Wants.thru {w w' : World} {A : Option Addr} {xs : List Wt} (h : Wants w w.heap.size A xs) (k : Below w.heap.size w w') : Wants w' w'.heap.size A xs := (h.below k).more k.size

section
variable {H : Type} {enc : TypeId × Value → H} {w : World} {base : Nat} {spare : Nat → Bool} {held : Bool}

theorem list7 {α : Type} {l : List α} (h : l.length = 7) : ∃ c0 c1 c2 c3 c4 c5 c6, l = [c0, c1, c2, c3, c4, c5, c6] := by
  match l, h with
  | [c0, c1, c2, c3, c4, c5, c6], _ => exact ⟨c0, c1, c2, c3, c4, c5, c6, rfl⟩

/-- The cells of a want that is read. -/
theorem cells_want {n : Nat} {cs : List Value} {y : DataW H × List MemPlace} (hl : cs.length = 7) (h : DataW.trod enc Try.prog w base spare held n 24 cs = some y) : ∃ x : Wt, cs = cellsWt x := by
  obtain ⟨c0, c1, c2, c3, c4, c5, c6, rfl⟩ := list7 hl
  obtain ⟨xs, n, _, _, _, hlen, hf⟩ := DataW.trod_struct Try.underlying24 h
  match xs, hlen with
  | [y0, y1, y2, y3, y4, y5, y6], _ =>
    have f0 : DataW.trod enc Try.prog w base spare held n 3 ((([c0, c1, c2, c3, c4, c5, c6] : List Value).drop 0).take (Try.prog.cellsOf 3)) = some y0 := hf 0 _ rfl
    have f1 : DataW.trod enc Try.prog w base spare held n 3 ((([c0, c1, c2, c3, c4, c5, c6] : List Value).drop 1).take (Try.prog.cellsOf 3)) = some y1 := hf 1 _ rfl
    have f2 : DataW.trod enc Try.prog w base spare held n 3 ((([c0, c1, c2, c3, c4, c5, c6] : List Value).drop 2).take (Try.prog.cellsOf 3)) = some y2 := hf 2 _ rfl
    have f3 : DataW.trod enc Try.prog w base spare held n 3 ((([c0, c1, c2, c3, c4, c5, c6] : List Value).drop 3).take (Try.prog.cellsOf 3)) = some y3 := hf 3 _ rfl
    have f4 : DataW.trod enc Try.prog w base spare held n 3 ((([c0, c1, c2, c3, c4, c5, c6] : List Value).drop 4).take (Try.prog.cellsOf 3)) = some y4 := hf 4 _ rfl
    have f5 : DataW.trod enc Try.prog w base spare held n 3 ((([c0, c1, c2, c3, c4, c5, c6] : List Value).drop 5).take (Try.prog.cellsOf 3)) = some y5 := hf 5 _ rfl
    have f6 : DataW.trod enc Try.prog w base spare held n 3 ((([c0, c1, c2, c3, c4, c5, c6] : List Value).drop 6).take (Try.prog.cellsOf 3)) = some y6 := hf 6 _ rfl
    rw [cellsI] at f0 f1 f2 f3 f4 f5 f6
    simp only [List.drop_succ_cons, List.drop_zero, List.take_succ_cons, List.take_zero] at f0 f1 f2 f3 f4 f5 f6
    obtain ⟨x0, e0, -, -⟩ := DataW.trod_int Try.underlying3 f0
    obtain ⟨x1, e1, -, -⟩ := DataW.trod_int Try.underlying3 f1
    obtain ⟨x2, e2, -, -⟩ := DataW.trod_int Try.underlying3 f2
    obtain ⟨x3, e3, -, -⟩ := DataW.trod_int Try.underlying3 f3
    obtain ⟨x4, e4, -, -⟩ := DataW.trod_int Try.underlying3 f4
    obtain ⟨x5, e5, -, -⟩ := DataW.trod_int Try.underlying3 f5
    obtain ⟨x6, e6, -, -⟩ := DataW.trod_int Try.underlying3 f6
    simp only [List.cons.injEq, and_true] at e0 e1 e2 e3 e4 e5 e6
    subst e0 e1 e2 e3 e4 e5 e6
    exact ⟨⟨x0, x1, x2, x3, x4, x5, x6⟩, rfl⟩

/-- One want that came in. -/
theorem open_want {r : Reach} {b0 : Nat} {v : Value} {d : DataW H} {p : List MemPlace} (hv : Value.okWide Try.prog w r b0 24 v) (h : DataW.Trod enc Try.prog w base spare held 24 v d p) :
    ∃ x : Wt, v = x.v := by
  obtain ⟨cs, rfl, hsz⟩ := okWide_struct Try.underlying24 hv
  obtain ⟨fuel, hf⟩ := h
  obtain ⟨f, hf2⟩ := cells_want (by rw [show (Value.agg cs).cells.toList = cs.toList by simp [Value.cells], Array.length_toList]; exact hsz.trans cellsW) hf
  refine ⟨f, ?_⟩
  have e : cs.toList = cellsWt f := by simpa [Value.cells] using hf2
  have e2 : cs = (cellsWt f).toArray := by rw [← e]
  rw [e2]
  rfl

end

/-- A slice of wants that came in. -/
theorem open_wants {H : Type} {enc : TypeId × Value → H} {W : World} {v : Value} {d : DataW H} {ps : List MemPlace} (hv : ∃ a len cap, v = .slice a len cap)
    (h : DataW.Trod enc Try.prog W 0 (fun _ => true) true 50 v d ps) :
    ∃ A len cap xs, v = .slice A len cap ∧ len = xs.length ∧ len ≤ 9223372036854775807 ∧ len ≤ cap ∧ (A = none → cap = 0) ∧ Wants W W.heap.size A xs := by
  obtain ⟨a0, len, cap, rfl⟩ := hv
  obtain ⟨fuel, hf⟩ := h
  rcases Go.Deep.open_slice Try.underlying50 hf with ⟨hcs, hx⟩ | ⟨a, len', cap', m, n, D, Pl, hcs, _, hl, hm, hz, hx, hcell⟩
  · simp [Value.cells] at hcs
    obtain ⟨rfl, rfl, rfl⟩ := hcs
    exact ⟨none, 0, 0, [], rfl, rfl, by omega, by omega, fun _ => rfl, fun k f hk => by simp at hk⟩
  · simp [Value.cells] at hcs
    obtain ⟨rfl, rfl, rfl⟩ := hcs
    simp only [if_true] at hz
    subst hz
    unfold maxLen at hm
    have each : ∀ i, ∃ f : Wt, i < len → a.block < W.heap.size ∧ AtP W (a.add (i * 7)) f := fun i => by
      by_cases hi : i < len
      · obtain ⟨cs', hc, ht⟩ := hcell i (by omega)
        rw [cellsW] at hc
        unfold World.cells? at hc
        split at hc
        · have hl7 : cs'.length = 7 := by
            have := lenM hc
            simpa using this
          obtain ⟨f, rfl⟩ := cells_want hl7 ht
          refine ⟨f, fun _ => ?_⟩
          have hat : ∀ j v, (cellsWt f)[j]? = some v → W.cell? ((a.add (i * 7)).add j) = some v := fun j v hv => by
            have hj : j < 7 := (List.getElem?_eq_some_iff.1 hv).1
            obtain ⟨y, hy, hfy⟩ := mapM_at hc j j (by simp [List.getElem?_range hj])
            rw [hv] at hy
            injection hy with hy
            rw [hy]
            exact hfy
          refine ⟨?_, atP_of hat⟩
          have hb := World.block_lt_of_cell? _ _ (hat 0 _ rfl)
          rw [block_of_add, block_of_add] at hb
          exact hb
        · simp at hc
      · exact ⟨⟨0, 0, 0, 0, 0, 0, 0⟩, fun h => absurd h hi⟩
    obtain ⟨f, hf⟩ := Classical.axiomOfChoice each
    refine ⟨some a, len, _, (List.range len).map f, rfl, by simp, by omega, hl, fun e => (by cases e), fun k x hk => ?_⟩
    have hk' : k < len := by have := (List.getElem?_eq_some_iff.1 hk).1; simpa using this
    obtain ⟨h1, h2⟩ := hf k hk'
    refine ⟨a, rfl, h1, ?_⟩
    have : f k = x := by simpa [hk'] using hk
    rw [← this]
    exact h2

end Go.Proofs.Ytkabpflbedpbaaa.Place

/-! The contracts of alike and of slices.CompactFunc, on a part of a row. -/
namespace Go.Proofs.Ytkabpflbedpbaaa.Shelf
open Go.RowKit Go.Sort Go.Proofs.Ytkabpflbedpbaaa.Rect Go.Proofs.Ytkabpflbedpbaaa.More
set_option linter.unusedVariables false

set_option maxHeartbeats 400000 in
theorem alike_any (a b : Sh) (w : World) :
    Calls Try.prog 75 #[.agg #[.int .i64 a.1, .int .i64 a.2.1, .int .i64 a.2.2], .agg #[.int .i64 b.1, .int .i64 b.2.1, .int .i64 b.2.2]] w fun e w' => e = .returned (.bool (decide (a.2 = b.2))) ∧ Below w.heap.size w w' := by
  obtain ⟨a1, a2, a3⟩ := a
  obtain ⟨b1, b2, b3⟩ := b
  have hv : decide (((a2, a3) : Int × Int) = (b2, b3)) = (decide (a2 = b2) && decide (a3 = b3)) := by simp [Prod.mk.injEq]
  dsimp only
  rw [hv]
  clear hv
  by_cases h1 : a2 = b2
  · subst h1
    by_cases h2 : a3 = b3
    · subst h2
      go_enter Try.func75, Try.ntmps75
      go_wp2
      go_ret
      exact ⟨by simp, ba2 _ _ _⟩
    · go_enter Try.func75, Try.ntmps75
      go_wp2
      go_ret
      exact ⟨by simp [h2], ba2 _ _ _⟩
  · go_enter Try.func75, Try.ntmps75
    go_wp2
    go_ret
    exact ⟨by simp [h1], ba2 _ _ _⟩

/-! Lists without what is like the one ahead. -/

def compL : List Sh → List Sh
  | [] => []
  | x :: r => x :: compR x r

theorem compR_snoc : ∀ (l : List Sh) (q y z : Sh), (q :: l).getLast? = some z → compR q (l ++ [y]) = compR q l ++ (if y.2 = z.2 then [] else [y])
  | [], q, y, z, h => by
    have h' : q = z := by simpa using h
    subst h'
    simp [compR]
  | x :: l, q, y, z, h => by
    rw [List.getLast?_cons_cons] at h
    rw [List.cons_append, compR, compR, compR_snoc l x y z h, List.append_assoc]

theorem compL_snoc (l : List Sh) (y z : Sh) (h : l.getLast? = some z) : compL (l ++ [y]) = compL l ++ (if y.2 = z.2 then [] else [y]) := by
  cases l with
  | nil => simp at h
  | cons x r =>
    rw [List.cons_append]
    show x :: compR x (r ++ [y]) = x :: compR x r ++ _
    rw [compR_snoc r x y z h, List.cons_append]

/-- One more is looked at. -/
theorem compL_next {mid : List Sh} {k : Nat} {y z : Sh} (hy : mid[k + 1]? = some y) (hz : mid[k]? = some z) : compL (mid.take (k + 2)) = compL (mid.take (k + 1)) ++ (if y.2 = z.2 then [] else [y]) := by
  rw [show k + 2 = (k + 1) + 1 by omega, List.take_add_one, hy]
  refine compL_snoc _ y z ?_
  rw [List.take_add_one, hz]
  simp

theorem compL_one {mid : List Sh} (h : 1 ≤ mid.length) : compL (mid.take 1) = mid.take 1 := by
  cases mid with
  | nil => simp at h
  | cons x r => rfl

/-- The numbers of one of a row. -/
theorem row_at {w : World} {B g n c : Nat} {xs : List Sh} (h : MineE encSh 95 w B (some ⟨g, 0, none⟩) n c xs) {k j : Nat} {x : Sh} (hx : xs[k]? = some x) (hj : k * 3 = j) :
    w.cell? ⟨g, j, none⟩ = some (.int .i64 x.1) ∧ w.cell? ⟨g, j + 1, none⟩ = some (.int .i64 x.2.1) ∧ w.cell? ⟨g, j + 2, none⟩ = some (.int .i64 x.2.2) := by
  subst hj
  exact ⟨MineE.at h k x hx 0 (by decide), MineE.at h k x hx 1 (by decide), MineE.at h k x hx 2 (by decide)⟩

/-- One of a row is written. -/
theorem row_put {w : World} {B g n c : Nat} {xs : List Sh} (h : MineE encSh 95 w B (some ⟨g, 0, none⟩) n c xs) {k j : Nat} {x : Sh} (hx : xs[k]? = some x) (hj : k * 3 = j) (y : Sh) :
    MineE encSh 95 (((w.setCell ⟨g, j, none⟩ (.int .i64 y.1)).setCell ⟨g, j + 1, none⟩ (.int .i64 y.2.1)).setCell ⟨g, j + 2, none⟩ (.int .i64 y.2.2)) B (some ⟨g, 0, none⟩) n c (xs.set k y) ∧
      w.grownBy (((w.setCell ⟨g, j, none⟩ (.int .i64 y.1)).setCell ⟨g, j + 1, none⟩ (.int .i64 y.2.1)).setCell ⟨g, j + 2, none⟩ (.int .i64 y.2.2)) (some g) := by
  subst hj
  have hk := (List.getElem?_eq_some_iff.1 hx).1
  obtain ⟨h1, g1⟩ := MineE.stored h k x (y.1, x.2) hx 0 (by decide) (.int .i64 y.1) rfl
  obtain ⟨h2, g2⟩ := MineE.stored h1 k (y.1, x.2) (y.1, (y.2.1, x.2.2)) (List.getElem?_set_self hk) 1 (by decide) (.int .i64 y.2.1) rfl
  rw [List.set_set] at h2
  obtain ⟨h3, g3⟩ := MineE.stored h2 k (y.1, (y.2.1, x.2.2)) y (List.getElem?_set_self hk) 2 (by decide) (.int .i64 y.2.2) rfl
  rw [List.set_set] at h3
  exact ⟨h3, (g1.trans g2).trans g3⟩

theorem zeroSh (w : World) : (zeroValue 95).run Try.prog w = .ok (.agg #[.int .i64 0, .int .i64 0, .int .i64 0]) w := by kernel_rfl

/-- What CompactFunc leaves. -/
def Compacted (w : World) (B g n c b0 cc : Nat) (pre mid post : List Sh) (r : Ending) (w' : World) : Prop :=
  r = .returned (.slice (some ⟨g, b0, none⟩) (compL mid).length cc) ∧ (∃ tl : List Sh, (compL mid).length + tl.length = mid.length ∧ MineE encSh 95 w' B (some ⟨g, 0, none⟩) n c (pre ++ (compL mid ++ tl) ++ post)) ∧ w.grownBy w' (some g)

/-- While it looks for two that are alike, and what it has when it goes on. -/
structure Comp2 (B g n c : Nat) (pre mid post : List Sh) (w wr : World) (k j : Nat) : Prop where
  len : (compL (mid.take (j + 1))).length = k
  lt : k ≤ j
  row : MineE encSh 95 wr B (some ⟨g, 0, none⟩) n c (pre ++ (compL (mid.take (j + 1)) ++ mid.drop k) ++ post)
  grown : w.grownBy wr (some g)

theorem comp_at {pre A D post : List Sh} {k i : Nat} {mid : List Sh} (hA : A.length = k) (hD : D = mid.drop k) (hki : k ≤ i) {x : Sh} (hx : mid[i]? = some x) : (pre ++ (A ++ D) ++ post)[pre.length + i]? = some x := by
  have hi := (List.getElem?_eq_some_iff.1 hx).1
  have hdl : D.length = mid.length - k := by rw [hD, List.length_drop]
  rw [List.append_assoc, List.getElem?_append_right (by omega), Nat.add_sub_cancel_left, List.getElem?_append_left (by rw [List.length_append]; omega), List.getElem?_append_right (by omega), hD, List.getElem?_drop, show k + (i - A.length) = i by omega]
  exact hx

theorem comp_set {pre A post mid : List Sh} {k : Nat} (hA : A.length = k) (hk : k < mid.length) (y : Sh) : (pre ++ (A ++ mid.drop k) ++ post).set (pre.length + k) y = pre ++ ((A ++ [y]) ++ mid.drop (k + 1)) ++ post := by
  rw [List.append_assoc, List.set_append_right _ _ (by omega), Nat.add_sub_cancel_left, List.set_append_left _ _ (by rw [List.length_append, List.length_drop]; omega), List.set_append_right _ _ (by omega), hA, Nat.sub_self, List.drop_eq_getElem_cons hk, List.set_cons_zero]
  simp [List.append_assoc]

end Go.Proofs.Ytkabpflbedpbaaa.Shelf
