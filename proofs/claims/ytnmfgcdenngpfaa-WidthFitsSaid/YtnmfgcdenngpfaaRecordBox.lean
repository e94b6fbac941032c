/- Boxes by value and in memory; the contract of the law's own conversion. -/
import Derived.Test.YtnmfgcdenngpfaaRecordList
namespace Go.Proofs.Ytnmfgcdenngpfaa.Record
open Go.RowKit Go.Sort

/-- The numbers of a box. -/
structure Bx where
  d : Int
  k : Int
  s : Int
  c : Int
  w : Int
  h : Int
  m0 : Int
  m1 : Int
  m2 : Int
  m3 : Int
  e0 : Int
  e1 : Int
  e2 : Int
  e3 : Int

/-- A box by value. -/
abbrev Bx.v (b : Bx) : Value :=
  .agg #[.int .i64 b.d, .int .i64 b.k, .int .i64 b.s, .int .i64 b.c, .int .i64 b.w, .int .i64 b.h, .int .i64 b.m0, .int .i64 b.m1, .int .i64 b.m2, .int .i64 b.m3, .int .i64 b.e0, .int .i64 b.e1, .int .i64 b.e2, .int .i64 b.e3]

/-- A box that lies in a block. -/
def At (w : World) (g : Nat) (b : Bx) : Prop :=
  w.cell? ⟨g, 0, none⟩ = some (.int .i64 b.d) ∧ w.cell? ⟨g, 1, none⟩ = some (.int .i64 b.k) ∧ w.cell? ⟨g, 2, none⟩ = some (.int .i64 b.s) ∧ w.cell? ⟨g, 3, none⟩ = some (.int .i64 b.c) ∧
  w.cell? ⟨g, 4, none⟩ = some (.int .i64 b.w) ∧ w.cell? ⟨g, 5, none⟩ = some (.int .i64 b.h) ∧
  w.cell? ⟨g, 6, none⟩ = some (.int .i64 b.m0) ∧ w.cell? ⟨g, 7, none⟩ = some (.int .i64 b.m1) ∧ w.cell? ⟨g, 8, none⟩ = some (.int .i64 b.m2) ∧ w.cell? ⟨g, 9, none⟩ = some (.int .i64 b.m3) ∧
  w.cell? ⟨g, 10, none⟩ = some (.int .i64 b.e0) ∧ w.cell? ⟨g, 11, none⟩ = some (.int .i64 b.e1) ∧ w.cell? ⟨g, 12, none⟩ = some (.int .i64 b.e2) ∧ w.cell? ⟨g, 13, none⟩ = some (.int .i64 b.e3)

theorem At.lt {w : World} {g : Nat} {b : Bx} (h : At w g b) : g < w.heap.size := block_lt_of_cell h.1

theorem At.below {w w' : World} {B : Nat} {g : Nat} {b : Bx} (h : At w g b) (hg : g < B) (k : Below B w w') : At w' g b := by
  have e : ∀ o, w'.cell? ⟨g, o, none⟩ = w.cell? ⟨g, o, none⟩ := fun o => k.cell (p := ⟨g, o, none⟩) hg
  unfold At at *
  simp only [e]
  exact h

theorem At.of_block {w : World} {g : Nat} {b : Bx} {T : TypeId} (h : w.heap[g]? = some (.cells #[.int .i64 b.d, .int .i64 b.k, .int .i64 b.s, .int .i64 b.c, .int .i64 b.w, .int .i64 b.h, .int .i64 b.m0, .int .i64 b.m1, .int .i64 b.m2, .int .i64 b.m3, .int .i64 b.e0, .int .i64 b.e1, .int .i64 b.e2, .int .i64 b.e3] T)) : At w g b := by
  unfold At
  simp [World.cell?, h]

theorem At.margins {w : World} {g : Nat} {b : Bx} (h : At w g b) : Nums w w.heap.size (some ⟨g, 6, none⟩) [b.m0, b.m1, b.m2, b.m3] := fun k hk => by
  have hg := h.lt
  obtain ⟨_, _, _, _, _, _, c0, c1, c2, c3, _⟩ := h
  refine ⟨_, rfl, hg, ?_⟩
  simp at hk
  obtain rfl | rfl | rfl | rfl : k = 0 ∨ k = 1 ∨ k = 2 ∨ k = 3 := by omega
  all_goals simpa [Addr.add] using ‹_›

theorem At.edges {w : World} {g : Nat} {b : Bx} (h : At w g b) : Nums w w.heap.size (some ⟨g, 10, none⟩) [b.e0, b.e1, b.e2, b.e3] := fun k hk => by
  have hg := h.lt
  obtain ⟨_, _, _, _, _, _, _, _, _, _, c0, c1, c2, c3⟩ := h
  refine ⟨_, rfl, hg, ?_⟩
  simp at hk
  obtain rfl | rfl | rfl | rfl : k = 0 ∨ k = 1 ∨ k = 2 ∨ k = 3 := by omega
  all_goals simpa [Addr.add] using ‹_›

set_option maxHeartbeats 1000000 in
theorem of_any (b : Bx) (w : World) : Calls Try.prog 10 #[b.v] w fun e w' => e = .returned b.v ∧ Below w.heap.size w w' := by
  go_enter Try.func10, Try.ntmps10
  go_wp2
  all_goals exact bodyPost_ret (v := b.v) (by simp [results, Try.results10, go_sem]) rfl ⟨rfl, ba2 _ _ _⟩

theorem box_in (b : Bx) {w W : World} {T : TypeId} (hW : w.alloc (.cells #[.int .i64 b.d, .int .i64 b.k, .int .i64 b.s, .int .i64 b.c, .int .i64 b.w, .int .i64 b.h, .int .i64 b.m0, .int .i64 b.m1, .int .i64 b.m2, .int .i64 b.m3, .int .i64 b.e0, .int .i64 b.e1, .int .i64 b.e2, .int .i64 b.e3] T) = W) : At W w.heap.size b ∧ Below w.heap.size w W := by
  subst hW
  exact ⟨by unfold At; simp [go_sem], ba1 _ _⟩

theorem add_flat (g o k : Nat) : (⟨g, o, none⟩ : Addr).add k = ⟨g, o + k, none⟩ := by
  unfold Addr.add
  split
  · subst_vars; rfl
  · rfl

theorem fresh_in (b : Bx) {w W : World} {T : TypeId} (hW : w.alloc (.cells #[.int .i64 b.d, .int .i64 b.k, .int .i64 b.s, .int .i64 b.c, .int .i64 b.w, .int .i64 b.h, .int .i64 b.m0, .int .i64 b.m1, .int .i64 b.m2, .int .i64 b.m3, .int .i64 b.e0, .int .i64 b.e1, .int .i64 b.e2, .int .i64 b.e3] T) = W) :
    W.heap[w.heap.size]? = some (.cells #[.int .i64 b.d, .int .i64 b.k, .int .i64 b.s, .int .i64 b.c, .int .i64 b.w, .int .i64 b.h, .int .i64 b.m0, .int .i64 b.m1, .int .i64 b.m2, .int .i64 b.m3, .int .i64 b.e0, .int .i64 b.e1, .int .i64 b.e2, .int .i64 b.e3] T) := by
  subst hW
  show (w.heap.push _)[w.heap.size]? = _
  simp

theorem thawed_in {w : World} {g : Nat} {cs : Array Value} {T : TypeId} (h : w.heap[g]? = some (.cells cs T)) (o : Nat) : w.frozen? ⟨g, o, none⟩ = false := by
  simp [World.frozen?, h]

end Go.Proofs.Ytnmfgcdenngpfaa.Record
