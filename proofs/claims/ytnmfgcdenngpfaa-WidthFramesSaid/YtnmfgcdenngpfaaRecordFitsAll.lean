/- The walk of RecordFits. -/
import Derived.Test.YtnmfgcdenngpfaaRecordFits
namespace Go.Proofs.Ytnmfgcdenngpfaa.Record
open Go.RowKit Go.Sort

theorem fits_is (p c : Int) (v : Bool) (hv : fitsB p c = v) (w : World) :
    Calls Try.prog 46 #[.int .i64 p, .int .i64 c] w fun e w' => e = .returned (.bool v) ∧ w = w' := by
  subst hv; exact fits_any p c w

theorem reffits_is (p c : Int) (v : Bool) (hv : fitsB p c = v) (w : World) :
    Calls Try.prog 28 #[.int .i64 p, .int .i64 c] w fun e w' => e = .returned (.bool v) ∧ Below w.heap.size w w' := by
  subst hv; exact reffits_any p c w

end Go.Proofs.Ytnmfgcdenngpfaa.Record
