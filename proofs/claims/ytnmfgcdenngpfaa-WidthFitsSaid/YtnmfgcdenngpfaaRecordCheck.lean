/- The contracts of the rules that a box may break, and of Check. -/
import Derived.Test.YtnmfgcdenngpfaaRecordShut
import Derived.Test.YtnmfgcdenngpfaaRecordBig
namespace Go.Proofs.Ytnmfgcdenngpfaa.Record
open Go.RowKit Go.Sort

/-- The rules as they lie in a block. -/
def Rl (w : World) (q g a : Nat) : Prop :=
  w.cell? ⟨q, 0, none⟩ = some (.int .i64 4) ∧ w.cell? ⟨q, 1, none⟩ = some (.func (.func 48) #[] #[.pointer (some ⟨g, 0, none⟩)]) ∧
  w.cell? ⟨q, 2, none⟩ = some (.int .i64 10) ∧ w.cell? ⟨q, 3, none⟩ = some (.func (.func 50) #[] #[.pointer (some ⟨g, 0, none⟩)]) ∧
  w.cell? ⟨q, 4, none⟩ = some (.int .i64 5) ∧ w.cell? ⟨q, 5, none⟩ = some (.func (.func 52) #[] #[.pointer (some ⟨g, 0, none⟩)]) ∧
  w.cell? ⟨q, 6, none⟩ = some (.int .i64 6) ∧ w.cell? ⟨q, 7, none⟩ = some (.func (.func 54) #[] #[.pointer (some ⟨g, 0, none⟩), .pointer (some ⟨a, 0, none⟩)]) ∧
  w.cell? ⟨q, 8, none⟩ = some (.int .i64 7) ∧ w.cell? ⟨q, 9, none⟩ = some (.func (.func 55) #[] #[.pointer (some ⟨g, 0, none⟩)]) ∧
  w.cell? ⟨q, 10, none⟩ = some (.int .i64 8) ∧ w.cell? ⟨q, 11, none⟩ = some (.func (.func 58) #[] #[.pointer (some ⟨a, 0, none⟩), .pointer (some ⟨g, 0, none⟩)]) ∧
  w.cell? ⟨q, 12, none⟩ = some (.int .i64 9) ∧ w.cell? ⟨q, 13, none⟩ = some (.func (.func 59) #[] #[.pointer (some ⟨g, 0, none⟩), .pointer (some ⟨a, 0, none⟩)]) ∧
  w.cell? ⟨q, 14, none⟩ = some (.int .i64 11) ∧ w.cell? ⟨q, 15, none⟩ = some (.func (.func 61) #[] #[.pointer (some ⟨g, 0, none⟩)])

theorem Rl.below {w w' : World} {q g a : Nat} (h : Rl w q g a) (k : Below w.heap.size w w') : Rl w' q g a := by
  have hq : q < w.heap.size := block_lt_of_cell h.1
  have e : ∀ o, w'.cell? ⟨q, o, none⟩ = w.cell? ⟨q, o, none⟩ := fun o => k.cell (p := ⟨q, o, none⟩) hq
  unfold Rl at *
  simp only [e]
  exact h

/-- What Check reads after it has asked for the rules. -/
def Ready (w : World) (q g a : Nat) (b : Bx) : Prop := At w g b ∧ w.cell? ⟨a, 0, none⟩ = some (.bool (b.k == 5)) ∧ Rl w q g a

theorem Ready.below {w w' : World} {q g a : Nat} {b : Bx} (h : Ready w q g a b) (k : Below w.heap.size w w') : Ready w' q g a b := by
  obtain ⟨h1, h2, h3⟩ := h
  exact ⟨h1.below h1.lt k, by rw [k.cell (p := ⟨a, 0, none⟩) (block_lt_of_cell h2)]; exact h2, h3.below k⟩

set_option maxHeartbeats 1000000 in
theorem rules_any (b : Bx) (w : World) :
    Calls Try.prog 44 #[b.v] w fun e w' => (∃ q g a, e = .returned (.slice (some ⟨q, 0, none⟩) 8 8) ∧ Ready w' q g a b) ∧ Below w.heap.size w w' := by
  go_enter Try.func44, Try.ntmps44
  go_wp2
  go_ret
  refine ⟨⟨_, w.heap.size, w.heap.size + 1, rfl, ?_, ?_, ?_⟩, ba3 _ _ _ _⟩
  · unfold At; simp [go_sem]
  · simp [go_sem]
  · unfold Rl; simp [go_sem]

end Go.Proofs.Ytnmfgcdenngpfaa.Record
