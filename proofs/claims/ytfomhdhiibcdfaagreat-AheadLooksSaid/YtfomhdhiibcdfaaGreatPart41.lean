/- The contracts of alike and of slices.CompactFunc, on a part of a row. -/
import Derived.Test.YtfomhdhiibcdfaaGreatPart27
namespace Go.Proofs.YtfomhdhiibcdfaaGreat.Shelf
open Go.RowKit Go.Sort Go.Proofs.YtfomhdhiibcdfaaGreat.Rect Go.Proofs.YtfomhdhiibcdfaaGreat.More
set_option linter.unusedVariables false

set_option maxHeartbeats 400000 in
theorem alike_any (a b : Sh) (w : World) :
    Calls Tryz.prog 97 #[.agg #[.int .i64 a.1, .int .i64 a.2.1, .int .i64 a.2.2], .agg #[.int .i64 b.1, .int .i64 b.2.1, .int .i64 b.2.2]] w fun e w' => e = .returned (.bool (decide (a.2 = b.2))) ∧ Below w.heap.size w w' := by
  obtain ⟨a1, a2, a3⟩ := a
  obtain ⟨b1, b2, b3⟩ := b
  have hv : decide (((a2, a3) : Int × Int) = (b2, b3)) = (decide (a2 = b2) && decide (a3 = b3)) := by simp [Prod.mk.injEq]
  dsimp only
  rw [hv]
  clear hv
  by_cases h1 : a2 = b2
  · subst h1
    by_cases h2 : a3 = b3
    · subst h2
      go_enter Tryz.func97, Tryz.ntmps97
      go_wp2
      go_ret
      exact ⟨by simp, ba2 _ _ _⟩
    · go_enter Tryz.func97, Tryz.ntmps97
      go_wp2
      go_ret
      exact ⟨by simp [h2], ba2 _ _ _⟩
  · go_enter Tryz.func97, Tryz.ntmps97
    go_wp2
    go_ret
    exact ⟨by simp [h1], ba2 _ _ _⟩

/-! Lists without what is like the one ahead. -/

def compL : List Sh → List Sh
  | [] => []
  | x :: r => x :: compR x r

theorem compR_snoc : ∀ (l : List Sh) (q y z : Sh), (q :: l).getLast? = some z → compR q (l ++ [y]) = compR q l ++ (if y.2 = z.2 then [] else [y])
  | [], q, y, z, h => by
    have h' : q = z := by simpa using h
    subst h'
    simp [compR]
  | x :: l, q, y, z, h => by
    rw [List.getLast?_cons_cons] at h
    rw [List.cons_append, compR, compR, compR_snoc l x y z h, List.append_assoc]

theorem compL_snoc (l : List Sh) (y z : Sh) (h : l.getLast? = some z) : compL (l ++ [y]) = compL l ++ (if y.2 = z.2 then [] else [y]) := by
  cases l with
  | nil => simp at h
  | cons x r =>
    rw [List.cons_append]
    show x :: compR x (r ++ [y]) = x :: compR x r ++ _
    rw [compR_snoc r x y z h, List.cons_append]

/-- One more is looked at. -/
theorem compL_next {mid : List Sh} {k : Nat} {y z : Sh} (hy : mid[k + 1]? = some y) (hz : mid[k]? = some z) : compL (mid.take (k + 2)) = compL (mid.take (k + 1)) ++ (if y.2 = z.2 then [] else [y]) := by
  rw [show k + 2 = (k + 1) + 1 by omega, List.take_add_one, hy]
  refine compL_snoc _ y z ?_
  rw [List.take_add_one, hz]
  simp

theorem compL_one {mid : List Sh} (h : 1 ≤ mid.length) : compL (mid.take 1) = mid.take 1 := by
  cases mid with
  | nil => simp at h
  | cons x r => rfl

/-- The numbers of one of a row. -/
theorem row_at {w : World} {B g n c : Nat} {xs : List Sh} (h : MineE encSh 120 w B (some ⟨g, 0, none⟩) n c xs) {k j : Nat} {x : Sh} (hx : xs[k]? = some x) (hj : k * 3 = j) :
    w.cell? ⟨g, j, none⟩ = some (.int .i64 x.1) ∧ w.cell? ⟨g, j + 1, none⟩ = some (.int .i64 x.2.1) ∧ w.cell? ⟨g, j + 2, none⟩ = some (.int .i64 x.2.2) := by
  subst hj
  exact ⟨MineE.at h k x hx 0 (by decide), MineE.at h k x hx 1 (by decide), MineE.at h k x hx 2 (by decide)⟩

/-- One of a row is written. -/
theorem row_put {w : World} {B g n c : Nat} {xs : List Sh} (h : MineE encSh 120 w B (some ⟨g, 0, none⟩) n c xs) {k j : Nat} {x : Sh} (hx : xs[k]? = some x) (hj : k * 3 = j) (y : Sh) :
    MineE encSh 120 (((w.setCell ⟨g, j, none⟩ (.int .i64 y.1)).setCell ⟨g, j + 1, none⟩ (.int .i64 y.2.1)).setCell ⟨g, j + 2, none⟩ (.int .i64 y.2.2)) B (some ⟨g, 0, none⟩) n c (xs.set k y) ∧
      w.grownBy (((w.setCell ⟨g, j, none⟩ (.int .i64 y.1)).setCell ⟨g, j + 1, none⟩ (.int .i64 y.2.1)).setCell ⟨g, j + 2, none⟩ (.int .i64 y.2.2)) (some g) := by
  subst hj
  have hk := (List.getElem?_eq_some_iff.1 hx).1
  obtain ⟨h1, g1⟩ := MineE.stored h k x (y.1, x.2) hx 0 (by decide) (.int .i64 y.1) rfl
  obtain ⟨h2, g2⟩ := MineE.stored h1 k (y.1, x.2) (y.1, (y.2.1, x.2.2)) (List.getElem?_set_self hk) 1 (by decide) (.int .i64 y.2.1) rfl
  rw [List.set_set] at h2
  obtain ⟨h3, g3⟩ := MineE.stored h2 k (y.1, (y.2.1, x.2.2)) y (List.getElem?_set_self hk) 2 (by decide) (.int .i64 y.2.2) rfl
  rw [List.set_set] at h3
  exact ⟨h3, (g1.trans g2).trans g3⟩

theorem zeroSh (w : World) : (zeroValue 120).run Tryz.prog w = .ok (.agg #[.int .i64 0, .int .i64 0, .int .i64 0]) w := by kernel_rfl

/-- What CompactFunc leaves. -/
def Compacted (w : World) (B g n c b0 cc : Nat) (pre mid post : List Sh) (r : Ending) (w' : World) : Prop :=
  r = .returned (.slice (some ⟨g, b0, none⟩) (compL mid).length cc) ∧ (∃ tl : List Sh, (compL mid).length + tl.length = mid.length ∧ MineE encSh 120 w' B (some ⟨g, 0, none⟩) n c (pre ++ (compL mid ++ tl) ++ post)) ∧ w.grownBy w' (some g)

/-- While it looks for two that are alike, and what it has when it goes on. -/
structure Comp2 (B g n c : Nat) (pre mid post : List Sh) (w wr : World) (k j : Nat) : Prop where
  len : (compL (mid.take (j + 1))).length = k
  lt : k ≤ j
  row : MineE encSh 120 wr B (some ⟨g, 0, none⟩) n c (pre ++ (compL (mid.take (j + 1)) ++ mid.drop k) ++ post)
  grown : w.grownBy wr (some g)

theorem comp_at {pre A D post : List Sh} {k i : Nat} {mid : List Sh} (hA : A.length = k) (hD : D = mid.drop k) (hki : k ≤ i) {x : Sh} (hx : mid[i]? = some x) : (pre ++ (A ++ D) ++ post)[pre.length + i]? = some x := by
  have hi := (List.getElem?_eq_some_iff.1 hx).1
  have hdl : D.length = mid.length - k := by rw [hD, List.length_drop]
  rw [List.append_assoc, List.getElem?_append_right (by omega), Nat.add_sub_cancel_left, List.getElem?_append_left (by rw [List.length_append]; omega), List.getElem?_append_right (by omega), hD, List.getElem?_drop, show k + (i - A.length) = i by omega]
  exact hx

theorem comp_set {pre A post mid : List Sh} {k : Nat} (hA : A.length = k) (hk : k < mid.length) (y : Sh) : (pre ++ (A ++ mid.drop k) ++ post).set (pre.length + k) y = pre ++ ((A ++ [y]) ++ mid.drop (k + 1)) ++ post := by
  rw [List.append_assoc, List.set_append_right _ _ (by omega), Nat.add_sub_cancel_left, List.set_append_left _ _ (by rw [List.length_append, List.length_drop]; omega), List.set_append_right _ _ (by omega), hA, Nat.sub_self, List.drop_eq_getElem_cons hk, List.set_cons_zero]
  simp [List.append_assoc]

end Go.Proofs.YtfomhdhiibcdfaaGreat.Shelf
