/- The program's box: an array of fourteen numbers as a box. -/
import Derived.Test.YtleikbpikmineaaScriptRound

import Derived.BigQuiet
namespace Go.Proofs.Ytleikbpikmineaa.Script
open Go.RowKit Go.Sort Go.Proofs.Ytleikbpikmineaa.Record

/-- A slice that is long enough, as an array. -/
theorem run_arrayAt (P : Program) (w : World) (arr el : TypeId) (k n c : Nat) (a : Option Addr) (h : P.underlying arr = some (.array k el)) (hk : k ≤ n) : Sem.run P (Instr.arrayAt arr (.slice a n c)) w = .ok (.pointer a) w := by
  unfold Instr.arrayAt
  have : ¬ n < k := by omega
  have hu := run_underlying h w
  simp [go_sem, hu, this]

/-- Fourteen numbers, as an array. -/
def fourteen (b : Bx) : Value := .agg (cellsOfB b).toArray

set_option maxRecDepth 100000 in
set_option maxHeartbeats 2000000 in
theorem box_any (b : Bx) (w : World) :
    Calls Try.prog 18 #[fourteen b] w fun e w' => e = .returned b.v ∧ Below w.heap.size w w' := by
  obtain ⟨x0, x1, x2, x3, x4, x5, x6, x7, x8, x9, x10, x11, x12, x13⟩ := b
  unfold fourteen cellsOfB
  simp only
  go_enter Try.func18, Try.ntmps18
  go_wp2_with fail
  generalize hW0 : World.alloc w _ = W0
  generalize hW : World.alloc W0 _ = W
  have hs0 : W0.heap.size = w.heap.size + 1 := by rw [← hW0]; simp
  have hb0 : W.heap[w.heap.size]? = some (.cells #[.int .i64 x0, .int .i64 x1, .int .i64 x2, .int .i64 x3, .int .i64 x4, .int .i64 x5, .int .i64 x6, .int .i64 x7, .int .i64 x8, .int .i64 x9, .int .i64 x10, .int .i64 x11, .int .i64 x12, .int .i64 x13] 50) := by rw [← hW]; exact (Below.heap_alloc _ _ _ (by omega)).trans (by rw [← hW0]; exact World.alloc_heap_new _ _)
  have hg : W.heap[w.heap.size + 1]? = some (.cells #[.int .i64 0, .int .i64 0, .int .i64 0, .int .i64 0, .int .i64 0, .int .i64 0, .int .i64 0, .int .i64 0, .int .i64 0, .int .i64 0, .int .i64 0, .int .i64 0, .int .i64 0, .int .i64 0] 35) := by rw [← hW, ← hs0]; exact World.alloc_heap_new _ _
  have hB : Below w.heap.size w W := by rw [← hW, ← hW0]; exact ba2 _ _ _
  clear hW hW0 hs0
  have c0 : W.cell? ⟨w.heap.size, 0, none⟩ = some (.int .i64 x0) := by simp [World.cell?, hb0]
  have d0 := fun d os => cell_regrown c0 (d := d) (os := os)
  have c1 : W.cell? ⟨w.heap.size, 1, none⟩ = some (.int .i64 x1) := by simp [World.cell?, hb0]
  have d1 := fun d os => cell_regrown c1 (d := d) (os := os)
  have c2 : W.cell? ⟨w.heap.size, 2, none⟩ = some (.int .i64 x2) := by simp [World.cell?, hb0]
  have d2 := fun d os => cell_regrown c2 (d := d) (os := os)
  have c3 : W.cell? ⟨w.heap.size, 3, none⟩ = some (.int .i64 x3) := by simp [World.cell?, hb0]
  have d3 := fun d os => cell_regrown c3 (d := d) (os := os)
  have c4 : W.cell? ⟨w.heap.size, 4, none⟩ = some (.int .i64 x4) := by simp [World.cell?, hb0]
  have d4 := fun d os => cell_regrown c4 (d := d) (os := os)
  have c5 : W.cell? ⟨w.heap.size, 5, none⟩ = some (.int .i64 x5) := by simp [World.cell?, hb0]
  have d5 := fun d os => cell_regrown c5 (d := d) (os := os)
  have c6 : W.cell? ⟨w.heap.size, 6, none⟩ = some (.int .i64 x6) := by simp [World.cell?, hb0]
  have d6 := fun d os => cell_regrown c6 (d := d) (os := os)
  have c7 : W.cell? ⟨w.heap.size, 7, none⟩ = some (.int .i64 x7) := by simp [World.cell?, hb0]
  have d7 := fun d os => cell_regrown c7 (d := d) (os := os)
  have c8 : W.cell? ⟨w.heap.size, 8, none⟩ = some (.int .i64 x8) := by simp [World.cell?, hb0]
  have d8 := fun d os => cell_regrown c8 (d := d) (os := os)
  have c9 : W.cell? ⟨w.heap.size, 9, none⟩ = some (.int .i64 x9) := by simp [World.cell?, hb0]
  have d9 := fun d os => cell_regrown c9 (d := d) (os := os)
  have c10 : W.cell? ⟨w.heap.size, 10, none⟩ = some (.int .i64 x10) := by simp [World.cell?, hb0]
  have d10 := fun d os => cell_regrown c10 (d := d) (os := os)
  have c11 : W.cell? ⟨w.heap.size, 11, none⟩ = some (.int .i64 x11) := by simp [World.cell?, hb0]
  have d11 := fun d os => cell_regrown c11 (d := d) (os := os)
  have c12 : W.cell? ⟨w.heap.size, 12, none⟩ = some (.int .i64 x12) := by simp [World.cell?, hb0]
  have d12 := fun d os => cell_regrown c12 (d := d) (os := os)
  have c13 : W.cell? ⟨w.heap.size, 13, none⟩ = some (.int .i64 x13) := by simp [World.cell?, hb0]
  have d13 := fun d os => cell_regrown c13 (d := d) (os := os)
  refine wp_region_quiet_below_tail 19 (by kernel_rfl) (by kernel_rfl) ?_
  simp only [List.take_succ_cons, List.take_zero, List.drop_succ_cons, List.drop_zero]
  have m5 := fun w' a c' => run_arrayAt Try.prog w' 33 3 4 4 c' a Try.underlying33 (Nat.le_refl _)
  repeat (quiet_step (fail))
  refine wpQuiet_nil ?_
  intro _ hw'
  obtain ⟨⟨dq, os⟩, hw''⟩ := hw'
  subst hw''
  have hb := below_regrown W dq os
  have hgW := lt_of_block hg
  generalize grow (redrawn W dq) os = w2 at hb ⊢
  have hg2 : w2.heap[w.heap.size + 1]? = some _ := (hb.block _ hgW).trans hg
  have hB2 : Below w.heap.size w w2 := hB.trans (hb.mono (by omega))
  clear hb hg hb0
  clear c0 d0
  clear c1 d1
  clear c2 d2
  clear c3 d3
  clear c4 d4
  clear c5 d5
  clear c6 d6
  clear c7 d7
  clear c8 d8
  clear c9 d9
  clear c10 d10
  clear c11 d11
  clear c12 d12
  clear c13 d13
  have hz : ∀ k, w2.frozen? ⟨w.heap.size + 1, k, none⟩ = false := fun k => thawed_in hg2 k
  have z0 : w2.cell? ⟨w.heap.size + 1, 0, none⟩ = some (.int .i64 0) := by simp [World.cell?, hg2]
  have f0 := hz 0
  have z1 : w2.cell? ⟨w.heap.size + 1, 1, none⟩ = some (.int .i64 0) := by simp [World.cell?, hg2]
  have f1 := hz 1
  have z2 : w2.cell? ⟨w.heap.size + 1, 2, none⟩ = some (.int .i64 0) := by simp [World.cell?, hg2]
  have f2 := hz 2
  have z3 : w2.cell? ⟨w.heap.size + 1, 3, none⟩ = some (.int .i64 0) := by simp [World.cell?, hg2]
  have f3 := hz 3
  have z4 : w2.cell? ⟨w.heap.size + 1, 4, none⟩ = some (.int .i64 0) := by simp [World.cell?, hg2]
  have f4 := hz 4
  have z5 : w2.cell? ⟨w.heap.size + 1, 5, none⟩ = some (.int .i64 0) := by simp [World.cell?, hg2]
  have f5 := hz 5
  have z6 : w2.cell? ⟨w.heap.size + 1, 6, none⟩ = some (.int .i64 0) := by simp [World.cell?, hg2]
  have f6 := hz 6
  have z7 : w2.cell? ⟨w.heap.size + 1, 7, none⟩ = some (.int .i64 0) := by simp [World.cell?, hg2]
  have f7 := hz 7
  have z8 : w2.cell? ⟨w.heap.size + 1, 8, none⟩ = some (.int .i64 0) := by simp [World.cell?, hg2]
  have f8 := hz 8
  have z9 : w2.cell? ⟨w.heap.size + 1, 9, none⟩ = some (.int .i64 0) := by simp [World.cell?, hg2]
  have f9 := hz 9
  have z10 : w2.cell? ⟨w.heap.size + 1, 10, none⟩ = some (.int .i64 0) := by simp [World.cell?, hg2]
  have f10 := hz 10
  have z11 : w2.cell? ⟨w.heap.size + 1, 11, none⟩ = some (.int .i64 0) := by simp [World.cell?, hg2]
  have f11 := hz 11
  have z12 : w2.cell? ⟨w.heap.size + 1, 12, none⟩ = some (.int .i64 0) := by simp [World.cell?, hg2]
  have f12 := hz 12
  have z13 : w2.cell? ⟨w.heap.size + 1, 13, none⟩ = some (.int .i64 0) := by simp [World.cell?, hg2]
  have f13 := hz 13
  clear hz
  go_wp2_with fail
  have hend := set14 hg2 (.int .i64 x0) (.int .i64 x1) (.int .i64 x2) (.int .i64 x3) (.int .i64 x4) (.int .i64 x5) (.int .i64 x6) (.int .i64 x7) (.int .i64 x8) (.int .i64 x9) (.int .i64 x10) (.int .i64 x11) (.int .i64 x12) (.int .i64 x13)
  have hbe : Below w.heap.size w _ := set14_below (W := w) (g := w.heap.size + 1) hB2 (Nat.le_succ _) (.int .i64 x0) (.int .i64 x1) (.int .i64 x2) (.int .i64 x3) (.int .i64 x4) (.int .i64 x5) (.int .i64 x6) (.int .i64 x7) (.int .i64 x8) (.int .i64 x9) (.int .i64 x10) (.int .i64 x11) (.int .i64 x12) (.int .i64 x13)
  generalize World.setCell _ _ _ = w3 at hend hbe ⊢
  have q0 : w3.cell? ⟨w.heap.size + 1, 0, none⟩ = some (.int .i64 x0) := by simp [World.cell?, hend]
  have q1 : w3.cell? ⟨w.heap.size + 1, 1, none⟩ = some (.int .i64 x1) := by simp [World.cell?, hend]
  have q2 : w3.cell? ⟨w.heap.size + 1, 2, none⟩ = some (.int .i64 x2) := by simp [World.cell?, hend]
  have q3 : w3.cell? ⟨w.heap.size + 1, 3, none⟩ = some (.int .i64 x3) := by simp [World.cell?, hend]
  have q4 : w3.cell? ⟨w.heap.size + 1, 4, none⟩ = some (.int .i64 x4) := by simp [World.cell?, hend]
  have q5 : w3.cell? ⟨w.heap.size + 1, 5, none⟩ = some (.int .i64 x5) := by simp [World.cell?, hend]
  have q6 : w3.cell? ⟨w.heap.size + 1, 6, none⟩ = some (.int .i64 x6) := by simp [World.cell?, hend]
  have q7 : w3.cell? ⟨w.heap.size + 1, 7, none⟩ = some (.int .i64 x7) := by simp [World.cell?, hend]
  have q8 : w3.cell? ⟨w.heap.size + 1, 8, none⟩ = some (.int .i64 x8) := by simp [World.cell?, hend]
  have q9 : w3.cell? ⟨w.heap.size + 1, 9, none⟩ = some (.int .i64 x9) := by simp [World.cell?, hend]
  have q10 : w3.cell? ⟨w.heap.size + 1, 10, none⟩ = some (.int .i64 x10) := by simp [World.cell?, hend]
  have q11 : w3.cell? ⟨w.heap.size + 1, 11, none⟩ = some (.int .i64 x11) := by simp [World.cell?, hend]
  have q12 : w3.cell? ⟨w.heap.size + 1, 12, none⟩ = some (.int .i64 x12) := by simp [World.cell?, hend]
  have q13 : w3.cell? ⟨w.heap.size + 1, 13, none⟩ = some (.int .i64 x13) := by simp [World.cell?, hend]
  exact bodyPost_ret (v := Bx.v ⟨x0, x1, x2, x3, x4, x5, x6, x7, x8, x9, x10, x11, x12, x13⟩) (by simp [results, Try.results18, go_sem, *]) rfl ⟨rfl, hbe⟩

end Go.Proofs.Ytleikbpikmineaa.Script
