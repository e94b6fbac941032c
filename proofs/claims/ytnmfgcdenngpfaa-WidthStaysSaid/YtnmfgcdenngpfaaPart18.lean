/- A fresh list of zeros of whatever lies in several cells: make([]T, n). -/
import Derived.Test.YtnmfgcdenngpfaaPart9
namespace Go.Proofs.Ytnmfgcdenngpfaa.More
open Go.RowKit

section
variable {α : Type} (E : Enc α)

theorem made_cells (z : α) (zv : Value) (hz : zv.cells.toList = E.cells z) (n : Nat) : (madeCells zv.cells (n * E.size)).toList = (List.replicate n z).flatMap E.cells := by
  have hs : zv.cells.size = E.size := by rw [← Array.length_toList, hz, E.len]
  have hpos := E.pos
  apply List.ext_getElem?
  intro k
  by_cases hk : k < n * E.size
  · have hq : k / E.size < n := Nat.div_lt_of_lt_mul (by rw [Nat.mul_comm]; exact hk)
    have hr : k % E.size < E.size := Nat.mod_lt _ hpos
    have hkk : k = k / E.size * E.size + k % E.size := by rw [Nat.mul_comm]; exact (Nat.div_add_mod k E.size).symm
    have h1 : ((List.replicate n z).flatMap E.cells)[k]? = (E.cells z)[k % E.size]? := by
      conv => lhs; rw [hkk]
      exact E.flat_at _ (k / E.size) z (by simp [hq]) _ hr
    rw [h1]
    have h2 : (E.cells z)[k % E.size]? = zv.cells[k % zv.cells.size]? := by rw [← hz, hs]; simp
    rw [h2]
    have h3 : k % zv.cells.size < zv.cells.size := by rw [hs]; exact hr
    simp [madeCells, hk, h3]
  · have h1 : ((List.replicate n z).flatMap E.cells).length = n * E.size := by rw [E.flat_len]; simp
    rw [List.getElem?_eq_none (by simp [madeCells]; omega), List.getElem?_eq_none (by omega)]

/-- make of a list of structs. -/
theorem run_make_E {T TS : TypeId} {bytes : Nat} (z : α) (zv : Value) (hz : zv.cells.toList = E.cells z) (hS : Try.prog.underlying TS = some (.slice T)) (hi : (Try.prog.info? T).map (fun i => (i.zero, i.size, i.bytes)) = some (some zv, E.size, bytes)) (hb : bytes ≤ 100000) (w : World) (n : Nat) (hn : n ≤ 1000000) :
    ∃ w', (Instr.makeSlice TS (.int .i64 (n : Int)) (.int .i64 (n : Int))).run Try.prog w = .ok (.slice (some ⟨w.heap.size, 0, none⟩) n n) w' ∧
      MineE E T w' w.heap.size (some ⟨w.heap.size, 0, none⟩) n n (List.replicate n z) ∧ Below w.heap.size w w' := by
  obtain ⟨i0, hi0, hi1⟩ : ∃ i, Try.prog.info? T = some i ∧ (i.zero, i.size, i.bytes) = (some zv, E.size, bytes) := by
    cases h : Try.prog.info? T with
    | none => rw [h] at hi; cases hi
    | some i => rw [h] at hi; exact ⟨i, rfl, by simpa using hi⟩
  simp only [Prod.mk.injEq] at hi1
  obtain ⟨h1, h2, h3⟩ := hi1
  obtain ⟨w', hmk, hown, hg⟩ := run_make_full (P := Try.prog) w w.heap.size TS T i0 zv E.size hS hi0 h1 h2 .i64 .i64 n (by rw [h3]; exact Nat.le_trans (Nat.mul_le_mul hb hn) (by decide)) (by unfold maxLen; omega) (Nat.le_refl _)
  rw [made_cells E z zv hz] at hown
  exact ⟨w', hmk, hown, (Below.refl w.heap.size w).grown hg (Nat.le_refl _) (fun j e => by cases e)⟩
end

end Go.Proofs.Ytnmfgcdenngpfaa.More
