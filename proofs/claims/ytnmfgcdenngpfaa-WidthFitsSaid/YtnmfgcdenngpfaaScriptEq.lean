/- Boxes that are held against each other. -/
import Derived.Test.YtnmfgcdenngpfaaScriptBoxes
import Derived.Laws.StructEq
namespace Go.Proofs.Ytnmfgcdenngpfaa.Script
open Go.RowKit Go.Sort Go.Proofs.Ytnmfgcdenngpfaa.Record

theorem eqArr (dd : Nat) (a b c d x y z u : Int) (w : World) : (Op.equalIn (dd + 2) 22 (.agg #[.int .i64 a, .int .i64 b, .int .i64 c, .int .i64 d]) (.agg #[.int .i64 x, .int .i64 y, .int .i64 z, .int .i64 u])).run Try.prog w = .ok (a == x && b == y && c == z && d == u) w := by
  have u3 := Try.underlying3
  have a3 := Try.isAgg3
  have z3 := Try.sizeOf3
  rw [show dd + 2 = (dd + 1) + 1 from rfl, Op.equalIn]
  simp only [Sem.run_bind, run_underlying Try.underlying22, Result.andThen_ok]
  simp only [Std.Legacy.Range.forIn_eq_forIn_range', Std.Legacy.Range.size, Nat.sub_zero, Nat.add_sub_cancel, Nat.div_one, List.range'_succ, List.range'_zero, List.forIn_cons, List.forIn_nil]
  go_simp
  by_cases h1 : a = x <;> by_cases h2 : b = y <;> by_cases h3 : c = z <;> by_cases h4 : d = u <;> simp [h1, h2, h3, h4]

theorem eqBox (b : Bx) (w : World) : (Op.equalIn 10000 28 b.v b.v).run Try.prog w = .ok true w := by
  have u3 := Try.underlying3
  have a3 := Try.isAgg3
  have z3 := Try.sizeOf3
  have a33 := Try.isAgg22
  have z33 := Try.sizeOf22
  have hS : Try.prog.underlying 28 = some (.struct (Try.prog.fieldsOf 28)) := by kernel_rfl
  rw [show (10000 : Nat) = 9999 + 1 from rfl, run_equalIn_agg w 9999 28 _ _ hS (by kernel_rfl)]
  simp only [Program.fieldsOf, Try.underlying28]
  have E := fun a b c d x y z u => eqArr 9997 a b c d x y z u w
  go_simp

end Go.Proofs.Ytnmfgcdenngpfaa.Script
