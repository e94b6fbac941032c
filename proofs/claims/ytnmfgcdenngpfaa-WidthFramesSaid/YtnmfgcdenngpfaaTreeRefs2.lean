/- The contracts of the document's Context, Children and Same. -/
import Derived.Test.YtnmfgcdenngpfaaTreeRefs
namespace Go.Proofs.Ytnmfgcdenngpfaa.Tree
open Go.RowKit Go.Sort Go.Proofs.Ytnmfgcdenngpfaa.Record Go.Proofs.Ytnmfgcdenngpfaa.Script

/-- Which boxes of a list have a context of their own. -/
def oOf (bs : List Bx) (k : Nat) : Bool := openB (bs.getD k noB).k

end Go.Proofs.Ytnmfgcdenngpfaa.Tree
