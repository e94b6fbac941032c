/- A line is equal to itself; where an atom is among the atoms. -/
import Derived.Test.YtdibdfalahjmbaaPart44
namespace Go.Proofs.Ytdibdfalahjmbaa.Text
open Go.RowKit Go.Sort Go.Proofs.Ytdibdfalahjmbaa.Rect Go.Proofs.Ytdibdfalahjmbaa.More Go.Proofs.Ytdibdfalahjmbaa.Shelf Go.Proofs.Ytdibdfalahjmbaa.Space Go.Proofs.Ytdibdfalahjmbaa.Place Go.Proofs.Ytdibdfalahjmbaa.Line
set_option linter.unusedVariables false
set_option linter.unusedSimpArgs false

theorem eqR4_in (a b c d : Int) (w : World) : (Op.equalIn 9999 39 (.agg #[.int .i64 a, .int .i64 b, .int .i64 c, .int .i64 d]) (.agg #[.int .i64 a, .int .i64 b, .int .i64 c, .int .i64 d])).run Try.prog w = .ok true w := by
  have u3 := Try.underlying3
  have a3 := Try.isAgg3
  have z3 := Try.sizeOf3
  have hS : Try.prog.underlying 39 = some (.struct (Try.prog.fieldsOf 39)) := by kernel_rfl
  rw [show (9999 : Nat) = 9998 + 1 from rfl, run_equalIn_agg w 9998 39 _ _ hS (by kernel_rfl)]
  simp only [Program.fieldsOf, Try.underlying39]
  go_simp

theorem eqLn_same (a b c d e f : Int) (w : World) : (Op.equalIn 10000 41 (.agg #[.int .i64 a, .int .i64 b, .int .i64 c, .int .i64 d, .int .i64 e, .int .i64 f]) (.agg #[.int .i64 a, .int .i64 b, .int .i64 c, .int .i64 d, .int .i64 e, .int .i64 f])).run Try.prog w = .ok true w := by
  have u3 := Try.underlying3
  have a3 := Try.isAgg3
  have z3 := Try.sizeOf3
  have u4 := Try.underlying39
  have a4 := Try.isAgg39
  have z4 := Try.sizeOf39
  have hS : Try.prog.underlying 41 = some (.struct (Try.prog.fieldsOf 41)) := by kernel_rfl
  have q := eqR4_in a b c d w
  rw [show (10000 : Nat) = 9999 + 1 from rfl, run_equalIn_agg w 9999 41 _ _ hS (by kernel_rfl)]
  simp only [Program.fieldsOf, Try.underlying41]
  go_simp

/-- The place of an atom among the atoms. -/
theorem atoms_place {its : List It} {k n : Nat} (hk : k < n) (h0 : (itAt its k).sd = 0) : (atomsK its n)[(atomsK its k).length]? = some k := by
  obtain ⟨d, rfl⟩ : ∃ d, n = k + 1 + d := ⟨n - (k + 1), by omega⟩
  clear hk
  induction d with
  | zero =>
    rw [Nat.add_zero, atomsK_yes h0, List.getElem?_concat_length]
  | succ d ih =>
    have hl := (List.getElem?_eq_some_iff.1 ih).1
    by_cases h : (itAt its (k + 1 + d)).sd = 0
    · rw [show k + 1 + (d + 1) = k + 1 + d + 1 by omega, atomsK_yes h, List.getElem?_append_left hl]
      exact ih
    · rw [show k + 1 + (d + 1) = k + 1 + d + 1 by omega, atomsK_no h]
      exact ih

end Go.Proofs.Ytdibdfalahjmbaa.Text
