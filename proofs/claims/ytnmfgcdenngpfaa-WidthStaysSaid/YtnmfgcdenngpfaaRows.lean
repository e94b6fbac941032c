/-
  No cell of these rows narrows 'for every input' (looked for: loops, veiled, ifaces, maps, wideKeys, modest, calm, conditions, laid).
  DERIVED. THE GIVEN ROWS OF THIS SEAT. 4 by the template 'for every input the law returns true; each argument reads behind the call as it read before'; 0 by the template 'total and deterministic' (their statements: YtnmfgcdenngpfaaTotals.lean).
  GIVEN WITH THE SEED: the statements are not yours to turn. If you find one false, say at which input.
  Laid BY PROGRAM, IN A SANDBOX (cutbox-rows.mjs): the forced cells as the released guide's own fill.sh prints them over the translation eca18506cd9d6126… (all of the seat's roots in one cut). By AI agents, Wed Nov 11 2026. No macro, syntax, notation, axiom, sorry.
-/
import Derived.Test.YtnmfgcdenngpfaaChecked
import GoSem.Claim
import GoSem.ClaimJoined
import GoSem.ClaimMapViews
import Derived.JoinedTies
import Derived.KernelRfl
namespace Go.Proofs.Ytnmfgcdenngpfaa
/- THE CELL 'sum', in the pinned program and in every row, IS THE sha256 OF THE DUMP (.gsa) THAT YtnmfgcdenngpfaaProg.lean LOADS. Nothing in Lean hashes anything: it is a label: what it is worth is what the hold of that sum in a sandbox is worth. -/
noncomputable def Try.pinned : Pinned := { name := "ytnmfgcdenngpfaa", sum := "eca18506cd9d6126756684e5fa3b65cddc8c54f64db00a0decd3d9231f6d8ba1", checked := Try.checked }
namespace Rows
def none {H : Type} : Left H := { results := [], args := [] }

/-- 'runaroundlaw08.WidthTells': WHATEVER THE INPUT: true; the input reads as it did. -/
def widthTellsSpec : ChangeSpec := { name := "widthTells", fn := fun _ => fun
  | [d1, d2] => { results := [.lit (.bool true)], args := [d1, d2] }
  | _ => none }
def widthTellsRow : OpenClaim := { program := "ytnmfgcdenngpfaa", sum := "eca18506cd9d6126756684e5fa3b65cddc8c54f64db00a0decd3d9231f6d8ba1", func := "runaround/runaroundlaw08.WidthTells", spec := "widthTells", apart := false }
def WidthTellsSaid : Prop := widthTellsRow.holds Try.pinned (OpenSpec.ofChange widthTellsSpec)

/-- ITS FALSE NEIGHBOUR: 'it returns false'. Refute it at one input. -/
def widthTellsWrong : ChangeSpec := { name := "widthTells", fn := fun _ => fun
  | [d1, d2] => { results := [.lit (.bool false)], args := [d1, d2] }
  | _ => none }
def WidthTellsWrongFalsely : Prop := widthTellsRow.holds Try.pinned (OpenSpec.ofChange widthTellsWrong)

/-- 'runaroundlaw08.WidthFrames': WHATEVER THE INPUT: true; the input reads as it did. -/
def widthFramesSpec : ChangeSpec := { name := "widthFrames", fn := fun _ => fun
  | [d] => { results := [.lit (.bool true)], args := [d] }
  | _ => none }
def widthFramesRow : OpenClaim := { program := "ytnmfgcdenngpfaa", sum := "eca18506cd9d6126756684e5fa3b65cddc8c54f64db00a0decd3d9231f6d8ba1", func := "runaround/runaroundlaw08.WidthFrames", spec := "widthFrames", unfollowed := true, recurses := true, apart := false }
def WidthFramesSaid : Prop := widthFramesRow.holds Try.pinned (OpenSpec.ofChange widthFramesSpec)

/-- ITS FALSE NEIGHBOUR: 'it returns false'. Refute it at one input. -/
def widthFramesWrong : ChangeSpec := { name := "widthFrames", fn := fun _ => fun
  | [d] => { results := [.lit (.bool false)], args := [d] }
  | _ => none }
def WidthFramesWrongFalsely : Prop := widthFramesRow.holds Try.pinned (OpenSpec.ofChange widthFramesWrong)

/-- 'runaroundlaw08.WidthFits': WHATEVER THE INPUT: true; the input reads as it did. -/
def widthFitsSpec : ChangeSpec := { name := "widthFits", fn := fun _ => fun
  | [d] => { results := [.lit (.bool true)], args := [d] }
  | _ => none }
def widthFitsRow : OpenClaim := { program := "ytnmfgcdenngpfaa", sum := "eca18506cd9d6126756684e5fa3b65cddc8c54f64db00a0decd3d9231f6d8ba1", func := "runaround/runaroundlaw08.WidthFits", spec := "widthFits", unfollowed := true, recurses := true, apart := false }
def WidthFitsSaid : Prop := widthFitsRow.holds Try.pinned (OpenSpec.ofChange widthFitsSpec)

/-- ITS FALSE NEIGHBOUR: 'it returns false'. Refute it at one input. -/
def widthFitsWrong : ChangeSpec := { name := "widthFits", fn := fun _ => fun
  | [d] => { results := [.lit (.bool false)], args := [d] }
  | _ => none }
def WidthFitsWrongFalsely : Prop := widthFitsRow.holds Try.pinned (OpenSpec.ofChange widthFitsWrong)

/-- 'runaroundlaw08.WidthStays': WHATEVER THE INPUT: true; the input reads as it did. -/
def widthStaysSpec : ChangeSpec := { name := "widthStays", fn := fun _ => fun
  | [d1, d2, d3] => { results := [.lit (.bool true)], args := [d1, d2, d3] }
  | _ => none }
def widthStaysRow : OpenClaim := { program := "ytnmfgcdenngpfaa", sum := "eca18506cd9d6126756684e5fa3b65cddc8c54f64db00a0decd3d9231f6d8ba1", func := "runaround/runaroundlaw08.WidthStays", spec := "widthStays", unfollowed := true, recurses := true, apart := false }
def WidthStaysSaid : Prop := widthStaysRow.holds Try.pinned (OpenSpec.ofChange widthStaysSpec)

/-- ITS FALSE NEIGHBOUR: 'it returns false'. Refute it at one input. -/
def widthStaysWrong : ChangeSpec := { name := "widthStays", fn := fun _ => fun
  | [d1, d2, d3] => { results := [.lit (.bool false)], args := [d1, d2, d3] }
  | _ => none }
def WidthStaysWrongFalsely : Prop := widthStaysRow.holds Try.pinned (OpenSpec.ofChange widthStaysWrong)

/- THE SECOND FORM. 'bulk': how many values and letters a reading holds, each counted each time it is reached (what is shared counts as often as it is met; a slice's spare places count too). A statement '..UptoSaid' is the law's where the arguments, and the package variables that the reading takes, are together of bulk at most 1048576: NARROWER than '..Said'. Prove '..Said' where nothing that the law and all that it calls make is longer than what came in: it says more and counts as full. Else prove '..UptoSaid'. A law counts once. -/
mutual
def uptoBulk {H : Type} : DataW H → Nat
  | .lit (.string bytes) => bytes.length + 1
  | .lit _ => 1
  | .nil => 1
  | .ptr d => uptoBulk d + 1
  | .slice elems spare => uptoBulkAll elems + uptoBulkAll spare + 1
  | .agg parts => uptoBulkAll parts + 1
  | .iface _ d => uptoBulk d + 1
  | .map entries => uptoBulkEntries entries + 1
  | .held _ => 1
def uptoBulkAll {H : Type} : List (DataW H) → Nat
  | [] => 0
  | d :: r => uptoBulk d + uptoBulkAll r
def uptoBulkEntries {H : Type} : List (Lit × DataW H) → Nat
  | [] => 0
  | x :: r => uptoBulkEntry x + uptoBulkEntries r
def uptoBulkEntry {H : Type} : Lit × DataW H → Nat
  | (.string bytes, d) => bytes.length + uptoBulk d + 1
  | (_, d) => uptoBulk d + 1
 end
def uptoSmall : (H : Type) → List (DataW H) → Bool := fun _ ds => decide (uptoBulkAll ds ≤ 1048576)
def OpenSpec.upto (s : _root_.Go.ChangeSpec) : _root_.Go.OpenSpec := { _root_.Go.OpenSpec.ofChange s with cond := some uptoSmall }

/-- 'runaroundlaw08.WidthTells', WHERE WHAT IT READS IS OF BULK AT MOST 1048576: true; the input reads as it did. -/
def widthTellsUptoRow : OpenClaim := { program := "ytnmfgcdenngpfaa", sum := "eca18506cd9d6126756684e5fa3b65cddc8c54f64db00a0decd3d9231f6d8ba1", func := "runaround/runaroundlaw08.WidthTells", spec := "widthTells", apart := false, narrowed := true }
def WidthTellsUptoSaid : Prop := widthTellsUptoRow.holds Try.pinned (OpenSpec.upto widthTellsSpec)

/-- 'runaroundlaw08.WidthFrames', WHERE WHAT IT READS IS OF BULK AT MOST 1048576: true; the input reads as it did. -/
def widthFramesUptoRow : OpenClaim := { program := "ytnmfgcdenngpfaa", sum := "eca18506cd9d6126756684e5fa3b65cddc8c54f64db00a0decd3d9231f6d8ba1", func := "runaround/runaroundlaw08.WidthFrames", spec := "widthFrames", unfollowed := true, recurses := true, apart := false, narrowed := true }
def WidthFramesUptoSaid : Prop := widthFramesUptoRow.holds Try.pinned (OpenSpec.upto widthFramesSpec)

/-- 'runaroundlaw08.WidthFits', WHERE WHAT IT READS IS OF BULK AT MOST 1048576: true; the input reads as it did. -/
def widthFitsUptoRow : OpenClaim := { program := "ytnmfgcdenngpfaa", sum := "eca18506cd9d6126756684e5fa3b65cddc8c54f64db00a0decd3d9231f6d8ba1", func := "runaround/runaroundlaw08.WidthFits", spec := "widthFits", unfollowed := true, recurses := true, apart := false, narrowed := true }
def WidthFitsUptoSaid : Prop := widthFitsUptoRow.holds Try.pinned (OpenSpec.upto widthFitsSpec)

/-- 'runaroundlaw08.WidthStays', WHERE WHAT IT READS IS OF BULK AT MOST 1048576: true; the input reads as it did. -/
def widthStaysUptoRow : OpenClaim := { program := "ytnmfgcdenngpfaa", sum := "eca18506cd9d6126756684e5fa3b65cddc8c54f64db00a0decd3d9231f6d8ba1", func := "runaround/runaroundlaw08.WidthStays", spec := "widthStays", unfollowed := true, recurses := true, apart := false, narrowed := true }
def WidthStaysUptoSaid : Prop := widthStaysUptoRow.holds Try.pinned (OpenSpec.upto widthStaysSpec)

end Rows
end Go.Proofs.Ytnmfgcdenngpfaa
