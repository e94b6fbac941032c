/- The contract of Contexts: a range over slices.Backward, whose body appends to a captured list. -/
import Derived.Test.YtnmfgcdenngpfaaTreeSetE
import Derived.Test.YtnmfgcdenngpfaaMoreInLaws
namespace Go.Proofs.Ytnmfgcdenngpfaa.Tree
open Go.RowKit Go.Shelf Go.Sort Go.Proofs.Ytnmfgcdenngpfaa.Record Go.Proofs.Ytnmfgcdenngpfaa.Script Go.Proofs.Ytnmfgcdenngpfaa.More

attribute [local go_sem] Oper.semAt_some

/-- The contexts among the places that have come. -/
def opensBack (bs : List Bx) {n : Nat} (pre : List (Pl n)) : List Int := ((pre.map Pl.ix).filter (oOf bs)).map Int.ofNat

theorem opensBack_yes (bs : List Bx) {n : Nat} (pre : List (Pl n)) (x : Pl n) (h : oOf bs x.1.1 = true) : opensBack bs (pre ++ [x]) = opensBack bs pre ++ [(x.1.1 : Int)] := by
  simp [opensBack, List.filter_append, Pl.ix, h]

theorem opensBack_no (bs : List Bx) {n : Nat} (pre : List (Pl n)) (x : Pl n) (h : oOf bs x.1.1 = false) : opensBack bs (pre ++ [x]) = opensBack bs pre := by
  simp [opensBack, List.filter_append, Pl.ix, h]

theorem opensBack_len (bs : List Bx) {n : Nat} (pre : List (Pl n)) : (opensBack bs pre).length ≤ pre.length := by
  unfold opensBack
  rw [List.length_map]
  have := List.length_filter_le (oOf bs) (pre.map Pl.ix)
  rwa [List.length_map] at this

theorem opensBack_all (bs : List Bx) {ys : List (Pl bs.length)} (h : ys.map Pl.ix = (List.range' 0 bs.length).reverse) : opensBack bs ys = opensT bs := by
  unfold opensBack opensT
  rw [h, ← List.range_eq_range', List.filter_reverse, List.map_reverse]

section
variable (bs : List Bx) (n a c bt bl : Nat) (w0 : World)

/-- What a round keeps, and what it has told. -/
structure StO (pre : List (Pl n)) (W : World) : Prop where
  l : Boxed W bl 61 (.slice (some ⟨a, 0, none⟩) n c)
  m : MineN W 0 (some ⟨a, 0, none⟩) n c (nodesOf bs)
  v : ∃ A' c', Boxed W bt 79 (.slice A' (opensBack bs pre).length c') ∧ Mine W w0.heap.size A' (opensBack bs pre).length c' (opensBack bs pre)
  w : Below w0.heap.size w0 W

def KpO (W W' : World) : Prop := W'.cell? ⟨bl, 0, none⟩ = W.cell? ⟨bl, 0, none⟩ ∧ (MineN W 0 (some ⟨a, 0, none⟩) n c (nodesOf bs) → MineN W' 0 (some ⟨a, 0, none⟩) n c (nodesOf bs))

theorem row_not_other {W : World} {B T s : Nat} {v : Value} {m : Nat} {ys : List Value} {row : Option Nat} (h : W.ownsRow B T s v m ys) (hr : ∀ r, row = some r → ∃ o : Obj, W.heap[r]? = some o ∧ o.isCells = false) : v.ownBlock = none ∨ v.ownBlock ≠ row := by
  rcases h.2 with ⟨rfl, _⟩ | ⟨g, cap, cur, rfl, _, hg, _⟩
  · exact .inl rfl
  · refine .inr fun e => ?_
    obtain ⟨o, ho, hc⟩ := hr g e.symm
    rw [hg] at ho
    cases ho
    cases hc

theorem stO_own {N : Nat} (h5 : w0.heap.size ≤ N) : OwnFrom N (StO bs n a c bt bl w0) := by
  rintro pre W W' row ⟨l, m, ⟨A', c', hv, hm⟩, hw⟩ hg hr
  have hr' := fun r e => (hr r e).2
  have nb : ∀ {B t v}, Boxed W B t v → some B ≠ row := fun {B t v} h e => by
    obtain ⟨o, ho, hc⟩ := hr' B e.symm
    rw [show W.heap[B]? = _ from h] at ho; cases ho; cases hc
  exact ⟨l.kept hg (nb l), World.ownsRow.kept m hg (row_not_other m hr'), ⟨A', c', hv.kept hg (nb hv), World.ownsRow.kept hm hg (row_not_other hm hr')⟩, hw.grown hg hw.size (fun k hk => by have := (hr k hk).1; omega)⟩

end

theorem kpO_trans {bs : List Bx} {n a c bl : Nat} {X Y Z : World} (h : KpO bs n a c bl X Y) (k : KpO bs n a c bl Y Z) : KpO bs n a c bl X Z := ⟨k.1.trans h.1, fun m => k.2 (h.2 m)⟩
theorem kpO_refl {bs : List Bx} {n a c bl : Nat} (W : World) : KpO bs n a c bl W W := ⟨rfl, fun m => m⟩

theorem kpO_put {bs : List Bx} {n a c bl N : Nat} (h1 : bl < N) (h2 : a < N) (W : World) (l : Nat) (o o' : Obj) (hl : N ≤ l) (_ : W.heap[l]? = some o) (_ : o.isCells = false) (_ : o.isWalk = false) : KpO bs n a c bl W (W.putObj l o') := by
  refine ⟨?_, fun he => he.kept (grownBy_putObj' W l o') (fun k hk e => ?_)⟩
  · have : (W.putObj l o').heap[bl]? = W.heap[bl]? := World.putObj_heap_other (by omega)
    simp [World.cell?, this]
  · injection hk with hk
    injection e with e
    have hk' : a = k := hk
    omega

def ndO (bs : List Bx) (k : Nat) : Nd := ⟨bs.getD k noB, par (dOf bs) k, endsOf bs k, (ctx (dOf bs) (oOf bs) k : Int)⟩

theorem nodesOf_read {bs : List Bx} {n a c : Nat} (hn : bs.length = n) {W : World} (h : MineN W 0 (some ⟨a, 0, none⟩) n c (nodesOf bs)) (k : Nat) (hk : k < n) : AtN W ⟨a, k * 17, none⟩ (ndO bs k) := by
  subst hn
  exact nodes_read h k hk

/-- In a round: the second variable's own block. -/
def VarO (bs : List Bx) {n : Nat} (f : Nat → Act) (x : Pl n) (a' : Act) (W : World) : Prop :=
  ∃ b5, a' = f b5 ∧ W.heap[b5]? = some (.cells (cellsOfN (ndO bs x.1.1)).toArray 58)

theorem stO_below {bs : List Bx} {n a c bt bl N : Nat} {w0 : World} {pre : List (Pl n)} {W W' : World} (h : StO bs n a c bt bl w0 pre W) (k : Below W.heap.size W W') : KeepsFrom N W W' ∧ KpO bs n a c bl W W' ∧ StO bs n a c bt bl w0 pre W' := by
  have hg := grown_of_below k
  obtain ⟨A', c', hv, hm⟩ := h.v
  exact ⟨⟨k.size, fun i o _ hi _ => (k.block i (Array.getElem?_eq_some_iff.1 hi).1).trans hi⟩, ⟨by rw [(h.l.kept hg (by simp)).cell, h.l.cell], fun m => m.below k⟩, h.l.kept hg (by simp), h.m.below k, ⟨A', c', hv.kept hg (by simp), hm.below k⟩, thru h.w k⟩

theorem varO_own (bs : List Bx) {n : Nat} (f : Nat → Act) (x : Pl n) (a' : Act) (N : Nat) : OwnFrom N (fun (_ : Unit) W => VarO bs f x a' W) := by
  rintro _ W W' row ⟨b5, e, hb⟩ hg hr
  refine ⟨b5, e, (hg.block b5 (Array.getElem?_eq_some_iff.1 hb).1 (fun e => ?_)).trans hb⟩
  obtain ⟨o, ho, hc⟩ := (hr b5 e.symm).2
  rw [hb] at ho; cases ho; cases hc

end Go.Proofs.Ytnmfgcdenngpfaa.Tree
