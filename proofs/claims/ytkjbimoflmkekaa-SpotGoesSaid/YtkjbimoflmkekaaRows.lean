/-
  No cell of these rows narrows 'for every input' (looked for: loops, veiled, ifaces, maps, wideKeys, modest, calm, conditions, laid).
  DERIVED. THE GIVEN ROWS OF THIS SEAT. 4 by the template 'for every input the law returns true; each argument reads behind the call as it read before'; 0 by the template 'total and deterministic' (their statements: YtkjbimoflmkekaaTotals.lean).
  GIVEN WITH THE SEED: the statements are not yours to turn. If you find one false, say at which input.
  Laid BY PROGRAM, IN A SANDBOX (cutbox-rows.mjs): the forced cells as the released guide's own fill.sh prints them over the translation f846c008f77bfa7b… (all of the seat's roots in one cut). By AI agents, Wed Nov 11 2026. No macro, syntax, notation, axiom, sorry.
-/
import Derived.Test.YtkjbimoflmkekaaChecked
import GoSem.Claim
import GoSem.ClaimJoined
import GoSem.ClaimMapViews
import Derived.JoinedTies
import Derived.KernelRfl
namespace Go.Proofs.Ytkjbimoflmkekaa
/- THE CELL 'sum', in the pinned program and in every row, IS THE sha256 OF THE DUMP (.gsa) THAT YtkjbimoflmkekaaProg.lean LOADS. Nothing in Lean hashes anything: it is a label: what it is worth is what the hold of that sum in a sandbox is worth. -/
noncomputable def Try.pinned : Pinned := { name := "ytkjbimoflmkekaa", sum := "f846c008f77bfa7b347e76c2eecc34c6964421b575444fc3fed927617d2423dd", checked := Try.checked }
namespace Rows
def none {H : Type} : Left H := { results := [], args := [] }

/-- 'runaroundlaw15.SpotGoes': WHATEVER THE INPUT: true; the input reads as it did. -/
def spotGoesSpec : ChangeSpec := { name := "spotGoes", fn := fun _ => fun
  | [d] => { results := [.lit (.bool true)], args := [d] }
  | _ => none }
def spotGoesRow : OpenClaim := { program := "ytkjbimoflmkekaa", sum := "f846c008f77bfa7b347e76c2eecc34c6964421b575444fc3fed927617d2423dd", func := "runaround/runaroundlaw15.SpotGoes", spec := "spotGoes", apart := false }
def SpotGoesSaid : Prop := spotGoesRow.holds Try.pinned (OpenSpec.ofChange spotGoesSpec)

/-- ITS FALSE NEIGHBOUR: 'it returns false'. Refute it at one input. -/
def spotGoesWrong : ChangeSpec := { name := "spotGoes", fn := fun _ => fun
  | [d] => { results := [.lit (.bool false)], args := [d] }
  | _ => none }
def SpotGoesWrongFalsely : Prop := spotGoesRow.holds Try.pinned (OpenSpec.ofChange spotGoesWrong)

/-- 'runaroundlaw15.SpotCollapses': WHATEVER THE INPUT: true; the input reads as it did. -/
def spotCollapsesSpec : ChangeSpec := { name := "spotCollapses", fn := fun _ => fun
  | [d1, d2, d3] => { results := [.lit (.bool true)], args := [d1, d2, d3] }
  | _ => none }
def spotCollapsesRow : OpenClaim := { program := "ytkjbimoflmkekaa", sum := "f846c008f77bfa7b347e76c2eecc34c6964421b575444fc3fed927617d2423dd", func := "runaround/runaroundlaw15.SpotCollapses", spec := "spotCollapses", apart := false }
def SpotCollapsesSaid : Prop := spotCollapsesRow.holds Try.pinned (OpenSpec.ofChange spotCollapsesSpec)

/-- ITS FALSE NEIGHBOUR: 'it returns false'. Refute it at one input. -/
def spotCollapsesWrong : ChangeSpec := { name := "spotCollapses", fn := fun _ => fun
  | [d1, d2, d3] => { results := [.lit (.bool false)], args := [d1, d2, d3] }
  | _ => none }
def SpotCollapsesWrongFalsely : Prop := spotCollapsesRow.holds Try.pinned (OpenSpec.ofChange spotCollapsesWrong)

/-- 'runaroundlaw15.SpotFixes': WHATEVER THE INPUT: true; the input reads as it did. -/
def spotFixesSpec : ChangeSpec := { name := "spotFixes", fn := fun _ => fun
  | [d1, d2, d3, d4] => { results := [.lit (.bool true)], args := [d1, d2, d3, d4] }
  | _ => none }
def spotFixesRow : OpenClaim := { program := "ytkjbimoflmkekaa", sum := "f846c008f77bfa7b347e76c2eecc34c6964421b575444fc3fed927617d2423dd", func := "runaround/runaroundlaw15.SpotFixes", spec := "spotFixes", apart := false }
def SpotFixesSaid : Prop := spotFixesRow.holds Try.pinned (OpenSpec.ofChange spotFixesSpec)

/-- ITS FALSE NEIGHBOUR: 'it returns false'. Refute it at one input. -/
def spotFixesWrong : ChangeSpec := { name := "spotFixes", fn := fun _ => fun
  | [d1, d2, d3, d4] => { results := [.lit (.bool false)], args := [d1, d2, d3, d4] }
  | _ => none }
def SpotFixesWrongFalsely : Prop := spotFixesRow.holds Try.pinned (OpenSpec.ofChange spotFixesWrong)

/-- 'runaroundlaw15.SpotZero': WHATEVER THE INPUT: true; the input reads as it did. -/
def spotZeroSpec : ChangeSpec := { name := "spotZero", fn := fun _ => fun
  | [d1, d2, d3] => { results := [.lit (.bool true)], args := [d1, d2, d3] }
  | _ => none }
def spotZeroRow : OpenClaim := { program := "ytkjbimoflmkekaa", sum := "f846c008f77bfa7b347e76c2eecc34c6964421b575444fc3fed927617d2423dd", func := "runaround/runaroundlaw15.SpotZero", spec := "spotZero", apart := false }
def SpotZeroSaid : Prop := spotZeroRow.holds Try.pinned (OpenSpec.ofChange spotZeroSpec)

/-- ITS FALSE NEIGHBOUR: 'it returns false'. Refute it at one input. -/
def spotZeroWrong : ChangeSpec := { name := "spotZero", fn := fun _ => fun
  | [d1, d2, d3] => { results := [.lit (.bool false)], args := [d1, d2, d3] }
  | _ => none }
def SpotZeroWrongFalsely : Prop := spotZeroRow.holds Try.pinned (OpenSpec.ofChange spotZeroWrong)

/- THE SECOND FORM. 'bulk': how many values and letters a reading holds, each counted each time it is reached (what is shared counts as often as it is met; a slice's spare places count too). A statement '..UptoSaid' is the law's where the arguments, and the package variables that the reading takes, are together of bulk at most 1048576: NARROWER than '..Said'. Prove '..Said' where nothing that the law and all that it calls make is longer than what came in: it says more and counts as full. Else prove '..UptoSaid'. A law counts once. -/
mutual
def uptoBulk {H : Type} : DataW H → Nat
  | .lit (.string bytes) => bytes.length + 1
  | .lit _ => 1
  | .nil => 1
  | .ptr d => uptoBulk d + 1
  | .slice elems spare => uptoBulkAll elems + uptoBulkAll spare + 1
  | .agg parts => uptoBulkAll parts + 1
  | .iface _ d => uptoBulk d + 1
  | .map entries => uptoBulkEntries entries + 1
  | .held _ => 1
def uptoBulkAll {H : Type} : List (DataW H) → Nat
  | [] => 0
  | d :: r => uptoBulk d + uptoBulkAll r
def uptoBulkEntries {H : Type} : List (Lit × DataW H) → Nat
  | [] => 0
  | x :: r => uptoBulkEntry x + uptoBulkEntries r
def uptoBulkEntry {H : Type} : Lit × DataW H → Nat
  | (.string bytes, d) => bytes.length + uptoBulk d + 1
  | (_, d) => uptoBulk d + 1
 end
def uptoSmall : (H : Type) → List (DataW H) → Bool := fun _ ds => decide (uptoBulkAll ds ≤ 1048576)
def OpenSpec.upto (s : _root_.Go.ChangeSpec) : _root_.Go.OpenSpec := { _root_.Go.OpenSpec.ofChange s with cond := some uptoSmall }

/-- 'runaroundlaw15.SpotGoes', WHERE WHAT IT READS IS OF BULK AT MOST 1048576: true; the input reads as it did. -/
def spotGoesUptoRow : OpenClaim := { program := "ytkjbimoflmkekaa", sum := "f846c008f77bfa7b347e76c2eecc34c6964421b575444fc3fed927617d2423dd", func := "runaround/runaroundlaw15.SpotGoes", spec := "spotGoes", apart := false, narrowed := true }
def SpotGoesUptoSaid : Prop := spotGoesUptoRow.holds Try.pinned (OpenSpec.upto spotGoesSpec)

/-- 'runaroundlaw15.SpotCollapses', WHERE WHAT IT READS IS OF BULK AT MOST 1048576: true; the input reads as it did. -/
def spotCollapsesUptoRow : OpenClaim := { program := "ytkjbimoflmkekaa", sum := "f846c008f77bfa7b347e76c2eecc34c6964421b575444fc3fed927617d2423dd", func := "runaround/runaroundlaw15.SpotCollapses", spec := "spotCollapses", apart := false, narrowed := true }
def SpotCollapsesUptoSaid : Prop := spotCollapsesUptoRow.holds Try.pinned (OpenSpec.upto spotCollapsesSpec)

/-- 'runaroundlaw15.SpotFixes', WHERE WHAT IT READS IS OF BULK AT MOST 1048576: true; the input reads as it did. -/
def spotFixesUptoRow : OpenClaim := { program := "ytkjbimoflmkekaa", sum := "f846c008f77bfa7b347e76c2eecc34c6964421b575444fc3fed927617d2423dd", func := "runaround/runaroundlaw15.SpotFixes", spec := "spotFixes", apart := false, narrowed := true }
def SpotFixesUptoSaid : Prop := spotFixesUptoRow.holds Try.pinned (OpenSpec.upto spotFixesSpec)

/-- 'runaroundlaw15.SpotZero', WHERE WHAT IT READS IS OF BULK AT MOST 1048576: true; the input reads as it did. -/
def spotZeroUptoRow : OpenClaim := { program := "ytkjbimoflmkekaa", sum := "f846c008f77bfa7b347e76c2eecc34c6964421b575444fc3fed927617d2423dd", func := "runaround/runaroundlaw15.SpotZero", spec := "spotZero", apart := false, narrowed := true }
def SpotZeroUptoSaid : Prop := spotZeroUptoRow.holds Try.pinned (OpenSpec.upto spotZeroSpec)

end Rows
end Go.Proofs.Ytkjbimoflmkekaa
