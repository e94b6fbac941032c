/-
  No cell of these rows narrows 'for every input' (looked for: loops, veiled, ifaces, maps, wideKeys, modest, calm, conditions, laid).
  DERIVED. THE GIVEN ROWS OF THIS SEAT. 5 by the template 'for every input the law returns true; each argument reads behind the call as it read before'; 0 by the template 'total and deterministic' (their statements: YtmgokpdeolnidaaTotals.lean).
  GIVEN WITH THE SEED: the statements are not yours to turn. If you find one false, say at which input.
  Laid BY PROGRAM, IN A SANDBOX (cutbox-rows.mjs): the forced cells as the released guide's own fill.sh prints them over the translation f56cb73fec4f5642… (all of the seat's roots in one cut). By AI agents, Wed Nov 11 2026. No macro, syntax, notation, axiom, sorry.
-/
import Derived.Test.YtmgokpdeolnidaaChecked
import GoSem.Claim
import GoSem.ClaimJoined
import GoSem.ClaimMapViews
import Derived.JoinedTies
import Derived.KernelRfl
namespace Go.Proofs.Ytmgokpdeolnidaa
/- THE CELL 'sum', in the pinned program and in every row, IS THE sha256 OF THE DUMP (.gsa) THAT YtmgokpdeolnidaaProg.lean LOADS. Nothing in Lean hashes anything: it is a label: what it is worth is what the hold of that sum in a sandbox is worth. -/
noncomputable def Try.pinned : Pinned := { name := "ytmgokpdeolnidaa", sum := "f56cb73fec4f5642070a3e9fa890536a7fd24de3f6f6b1f92eb8a9f70d98fced", checked := Try.checked }
namespace Rows
def none {H : Type} : Left H := { results := [], args := [] }

/-- 'runaroundlaw13.LineBreaks': WHATEVER THE INPUT: true; the input reads as it did. -/
def lineBreaksSpec : ChangeSpec := { name := "lineBreaks", fn := fun _ => fun
  | [d1, d2, d3, d4, d5] => { results := [.lit (.bool true)], args := [d1, d2, d3, d4, d5] }
  | _ => none }
def lineBreaksRow : OpenClaim := { program := "ytmgokpdeolnidaa", sum := "f56cb73fec4f5642070a3e9fa890536a7fd24de3f6f6b1f92eb8a9f70d98fced", func := "runaround/runaroundlaw13.LineBreaks", spec := "lineBreaks", inPlace := ["slices.overlaps[runaround/shelf.Shelf]"], unfollowed := true, recurses := true, apart := false }
def LineBreaksSaid : Prop := lineBreaksRow.holds Try.pinned (OpenSpec.ofChange lineBreaksSpec)

/-- ITS FALSE NEIGHBOUR: 'it returns false'. Refute it at one input. -/
def lineBreaksWrong : ChangeSpec := { name := "lineBreaks", fn := fun _ => fun
  | [d1, d2, d3, d4, d5] => { results := [.lit (.bool false)], args := [d1, d2, d3, d4, d5] }
  | _ => none }
def LineBreaksWrongFalsely : Prop := lineBreaksRow.holds Try.pinned (OpenSpec.ofChange lineBreaksWrong)

/-- 'runaroundlaw13.LineApart': WHATEVER THE INPUT: true; the input reads as it did. -/
def lineApartSpec : ChangeSpec := { name := "lineApart", fn := fun _ => fun
  | [d1, d2, d3, d4, d5] => { results := [.lit (.bool true)], args := [d1, d2, d3, d4, d5] }
  | _ => none }
def lineApartRow : OpenClaim := { program := "ytmgokpdeolnidaa", sum := "f56cb73fec4f5642070a3e9fa890536a7fd24de3f6f6b1f92eb8a9f70d98fced", func := "runaround/runaroundlaw13.LineApart", spec := "lineApart", inPlace := ["slices.overlaps[runaround/shelf.Shelf]"], unfollowed := true, recurses := true, apart := false }
def LineApartSaid : Prop := lineApartRow.holds Try.pinned (OpenSpec.ofChange lineApartSpec)

/-- ITS FALSE NEIGHBOUR: 'it returns false'. Refute it at one input. -/
def lineApartWrong : ChangeSpec := { name := "lineApart", fn := fun _ => fun
  | [d1, d2, d3, d4, d5] => { results := [.lit (.bool false)], args := [d1, d2, d3, d4, d5] }
  | _ => none }
def LineApartWrongFalsely : Prop := lineApartRow.holds Try.pinned (OpenSpec.ofChange lineApartWrong)

/-- 'runaroundlaw13.LineGreedy': WHATEVER THE INPUT: true; the input reads as it did. -/
def lineGreedySpec : ChangeSpec := { name := "lineGreedy", fn := fun _ => fun
  | [d1, d2, d3, d4, d5] => { results := [.lit (.bool true)], args := [d1, d2, d3, d4, d5] }
  | _ => none }
def lineGreedyRow : OpenClaim := { program := "ytmgokpdeolnidaa", sum := "f56cb73fec4f5642070a3e9fa890536a7fd24de3f6f6b1f92eb8a9f70d98fced", func := "runaround/runaroundlaw13.LineGreedy", spec := "lineGreedy", inPlace := ["slices.overlaps[runaround/shelf.Shelf]"], unfollowed := true, recurses := true, apart := false }
def LineGreedySaid : Prop := lineGreedyRow.holds Try.pinned (OpenSpec.ofChange lineGreedySpec)

/-- ITS FALSE NEIGHBOUR: 'it returns false'. Refute it at one input. -/
def lineGreedyWrong : ChangeSpec := { name := "lineGreedy", fn := fun _ => fun
  | [d1, d2, d3, d4, d5] => { results := [.lit (.bool false)], args := [d1, d2, d3, d4, d5] }
  | _ => none }
def LineGreedyWrongFalsely : Prop := lineGreedyRow.holds Try.pinned (OpenSpec.ofChange lineGreedyWrong)

/-- 'runaroundlaw13.LineAlone': WHATEVER THE INPUT: true; the input reads as it did. -/
def lineAloneSpec : ChangeSpec := { name := "lineAlone", fn := fun _ => fun
  | [d1, d2, d3, d4] => { results := [.lit (.bool true)], args := [d1, d2, d3, d4] }
  | _ => none }
def lineAloneRow : OpenClaim := { program := "ytmgokpdeolnidaa", sum := "f56cb73fec4f5642070a3e9fa890536a7fd24de3f6f6b1f92eb8a9f70d98fced", func := "runaround/runaroundlaw13.LineAlone", spec := "lineAlone", inPlace := ["slices.overlaps[runaround/shelf.Shelf]"], unfollowed := true, recurses := true, apart := false }
def LineAloneSaid : Prop := lineAloneRow.holds Try.pinned (OpenSpec.ofChange lineAloneSpec)

/-- ITS FALSE NEIGHBOUR: 'it returns false'. Refute it at one input. -/
def lineAloneWrong : ChangeSpec := { name := "lineAlone", fn := fun _ => fun
  | [d1, d2, d3, d4] => { results := [.lit (.bool false)], args := [d1, d2, d3, d4] }
  | _ => none }
def LineAloneWrongFalsely : Prop := lineAloneRow.holds Try.pinned (OpenSpec.ofChange lineAloneWrong)

/-- 'runaroundlaw13.LineFirst': WHATEVER THE INPUT: true; the input reads as it did. -/
def lineFirstSpec : ChangeSpec := { name := "lineFirst", fn := fun _ => fun
  | [d1, d2, d3, d4, d5] => { results := [.lit (.bool true)], args := [d1, d2, d3, d4, d5] }
  | _ => none }
def lineFirstRow : OpenClaim := { program := "ytmgokpdeolnidaa", sum := "f56cb73fec4f5642070a3e9fa890536a7fd24de3f6f6b1f92eb8a9f70d98fced", func := "runaround/runaroundlaw13.LineFirst", spec := "lineFirst", inPlace := ["slices.overlaps[runaround/shelf.Shelf]"], unfollowed := true, recurses := true, apart := false }
def LineFirstSaid : Prop := lineFirstRow.holds Try.pinned (OpenSpec.ofChange lineFirstSpec)

/-- ITS FALSE NEIGHBOUR: 'it returns false'. Refute it at one input. -/
def lineFirstWrong : ChangeSpec := { name := "lineFirst", fn := fun _ => fun
  | [d1, d2, d3, d4, d5] => { results := [.lit (.bool false)], args := [d1, d2, d3, d4, d5] }
  | _ => none }
def LineFirstWrongFalsely : Prop := lineFirstRow.holds Try.pinned (OpenSpec.ofChange lineFirstWrong)

/- THE SECOND FORM. 'bulk': how many values and letters a reading holds, each counted each time it is reached (what is shared counts as often as it is met; a slice's spare places count too). A statement '..UptoSaid' is the law's where the arguments, and the package variables that the reading takes, are together of bulk at most 1048576: NARROWER than '..Said'. Prove '..Said' where nothing that the law and all that it calls make is longer than what came in: it says more and counts as full. Else prove '..UptoSaid'. A law counts once. -/
mutual
def uptoBulk {H : Type} : DataW H → Nat
  | .lit (.string bytes) => bytes.length + 1
  | .lit _ => 1
  | .nil => 1
  | .ptr d => uptoBulk d + 1
  | .slice elems spare => uptoBulkAll elems + uptoBulkAll spare + 1
  | .agg parts => uptoBulkAll parts + 1
  | .iface _ d => uptoBulk d + 1
  | .map entries => uptoBulkEntries entries + 1
  | .held _ => 1
def uptoBulkAll {H : Type} : List (DataW H) → Nat
  | [] => 0
  | d :: r => uptoBulk d + uptoBulkAll r
def uptoBulkEntries {H : Type} : List (Lit × DataW H) → Nat
  | [] => 0
  | x :: r => uptoBulkEntry x + uptoBulkEntries r
def uptoBulkEntry {H : Type} : Lit × DataW H → Nat
  | (.string bytes, d) => bytes.length + uptoBulk d + 1
  | (_, d) => uptoBulk d + 1
 end
def uptoSmall : (H : Type) → List (DataW H) → Bool := fun _ ds => decide (uptoBulkAll ds ≤ 1048576)
def OpenSpec.upto (s : _root_.Go.ChangeSpec) : _root_.Go.OpenSpec := { _root_.Go.OpenSpec.ofChange s with cond := some uptoSmall }

/-- 'runaroundlaw13.LineBreaks', WHERE WHAT IT READS IS OF BULK AT MOST 1048576: true; the input reads as it did. -/
def lineBreaksUptoRow : OpenClaim := { program := "ytmgokpdeolnidaa", sum := "f56cb73fec4f5642070a3e9fa890536a7fd24de3f6f6b1f92eb8a9f70d98fced", func := "runaround/runaroundlaw13.LineBreaks", spec := "lineBreaks", inPlace := ["slices.overlaps[runaround/shelf.Shelf]"], unfollowed := true, recurses := true, apart := false, narrowed := true }
def LineBreaksUptoSaid : Prop := lineBreaksUptoRow.holds Try.pinned (OpenSpec.upto lineBreaksSpec)

/-- 'runaroundlaw13.LineApart', WHERE WHAT IT READS IS OF BULK AT MOST 1048576: true; the input reads as it did. -/
def lineApartUptoRow : OpenClaim := { program := "ytmgokpdeolnidaa", sum := "f56cb73fec4f5642070a3e9fa890536a7fd24de3f6f6b1f92eb8a9f70d98fced", func := "runaround/runaroundlaw13.LineApart", spec := "lineApart", inPlace := ["slices.overlaps[runaround/shelf.Shelf]"], unfollowed := true, recurses := true, apart := false, narrowed := true }
def LineApartUptoSaid : Prop := lineApartUptoRow.holds Try.pinned (OpenSpec.upto lineApartSpec)

/-- 'runaroundlaw13.LineGreedy', WHERE WHAT IT READS IS OF BULK AT MOST 1048576: true; the input reads as it did. -/
def lineGreedyUptoRow : OpenClaim := { program := "ytmgokpdeolnidaa", sum := "f56cb73fec4f5642070a3e9fa890536a7fd24de3f6f6b1f92eb8a9f70d98fced", func := "runaround/runaroundlaw13.LineGreedy", spec := "lineGreedy", inPlace := ["slices.overlaps[runaround/shelf.Shelf]"], unfollowed := true, recurses := true, apart := false, narrowed := true }
def LineGreedyUptoSaid : Prop := lineGreedyUptoRow.holds Try.pinned (OpenSpec.upto lineGreedySpec)

/-- 'runaroundlaw13.LineAlone', WHERE WHAT IT READS IS OF BULK AT MOST 1048576: true; the input reads as it did. -/
def lineAloneUptoRow : OpenClaim := { program := "ytmgokpdeolnidaa", sum := "f56cb73fec4f5642070a3e9fa890536a7fd24de3f6f6b1f92eb8a9f70d98fced", func := "runaround/runaroundlaw13.LineAlone", spec := "lineAlone", inPlace := ["slices.overlaps[runaround/shelf.Shelf]"], unfollowed := true, recurses := true, apart := false, narrowed := true }
def LineAloneUptoSaid : Prop := lineAloneUptoRow.holds Try.pinned (OpenSpec.upto lineAloneSpec)

/-- 'runaroundlaw13.LineFirst', WHERE WHAT IT READS IS OF BULK AT MOST 1048576: true; the input reads as it did. -/
def lineFirstUptoRow : OpenClaim := { program := "ytmgokpdeolnidaa", sum := "f56cb73fec4f5642070a3e9fa890536a7fd24de3f6f6b1f92eb8a9f70d98fced", func := "runaround/runaroundlaw13.LineFirst", spec := "lineFirst", inPlace := ["slices.overlaps[runaround/shelf.Shelf]"], unfollowed := true, recurses := true, apart := false, narrowed := true }
def LineFirstUptoSaid : Prop := lineFirstUptoRow.holds Try.pinned (OpenSpec.upto lineFirstSpec)

end Rows
end Go.Proofs.Ytmgokpdeolnidaa
