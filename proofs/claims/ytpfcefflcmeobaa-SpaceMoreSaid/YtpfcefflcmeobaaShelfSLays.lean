/- The law's example; the law of the shelves. -/
import Derived.Test.YtpfcefflcmeobaaShelfSOk
import Derived.Laws.StructEq
namespace Go.Proofs.Ytpfcefflcmeobaa.Shelf
open Go.RowKit Go.Sort Go.Proofs.Ytpfcefflcmeobaa.Rect Go.Proofs.Ytpfcefflcmeobaa.More

theorem eqSh_same (a b c : Int) (w : World) : (Op.equalIn 10000 63 (.agg #[.int .i64 a, .int .i64 b, .int .i64 c]) (.agg #[.int .i64 a, .int .i64 b, .int .i64 c])).run Try.prog w = .ok true w := by
  have u3 := Try.underlying3
  have a3 := Try.isAgg3
  have z3 := Try.sizeOf3
  have hS : Try.prog.underlying 63 = some (.struct (Try.prog.fieldsOf 63)) := by kernel_rfl
  rw [show (10000 : Nat) = 9999 + 1 from rfl, run_equalIn_agg w 9999 63 _ _ hS (by kernel_rfl)]
  simp only [Program.fieldsOf, Try.underlying63]
  go_simp

theorem field_sp (a b : Int) (w : World) : (Instr.field 49 (.agg #[.int .i64 a, .int .i64 b]) 0).run Try.prog w = .ok (.int .i64 a) w := by
  kernel_rfl

/-- The example's float. -/
def exF : Fl := ⟨1, 0, 2, 3, 5⟩

section
variable {L : World → Nat → Addr → List Fl → Prop}

end

end Go.Proofs.Ytpfcefflcmeobaa.Shelf
