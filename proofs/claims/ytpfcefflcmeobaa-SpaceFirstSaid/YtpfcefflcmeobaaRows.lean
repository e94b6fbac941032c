/-
  No cell of these rows narrows 'for every input' (looked for: loops, veiled, ifaces, maps, wideKeys, modest, calm, conditions, laid).
  DERIVED. THE GIVEN ROWS OF THIS SEAT. 5 by the template 'for every input the law returns true; each argument reads behind the call as it read before'; 0 by the template 'total and deterministic' (their statements: YtpfcefflcmeobaaTotals.lean).
  GIVEN WITH THE SEED: the statements are not yours to turn. If you find one false, say at which input.
  Laid BY PROGRAM, IN A SANDBOX (cutbox-rows.mjs): the forced cells as the released guide's own fill.sh prints them over the translation a891dc15b0518470… (all of the seat's roots in one cut). By AI agents, Wed Nov 11 2026. No macro, syntax, notation, axiom, sorry.
-/
import Derived.Test.YtpfcefflcmeobaaChecked
import GoSem.Claim
import GoSem.ClaimJoined
import GoSem.ClaimMapViews
import Derived.JoinedTies
import Derived.KernelRfl
namespace Go.Proofs.Ytpfcefflcmeobaa
/- THE CELL 'sum', in the pinned program and in every row, IS THE sha256 OF THE DUMP (.gsa) THAT YtpfcefflcmeobaaProg.lean LOADS. Nothing in Lean hashes anything: it is a label: what it is worth is what the hold of that sum in a sandbox is worth. -/
noncomputable def Try.pinned : Pinned := { name := "ytpfcefflcmeobaa", sum := "a891dc15b0518470adbc21f26f73a65c4c1fb82e6de0e1a28f34664781baf361", checked := Try.checked }
namespace Rows
def none {H : Type} : Left H := { results := [], args := [] }

/-- 'runaroundlaw10.SpaceTells': WHATEVER THE INPUT: true; the input reads as it did. -/
def spaceTellsSpec : ChangeSpec := { name := "spaceTells", fn := fun _ => fun
  | [d1, d2, d3] => { results := [.lit (.bool true)], args := [d1, d2, d3] }
  | _ => none }
def spaceTellsRow : OpenClaim := { program := "ytpfcefflcmeobaa", sum := "a891dc15b0518470adbc21f26f73a65c4c1fb82e6de0e1a28f34664781baf361", func := "runaround/runaroundlaw10.SpaceTells", spec := "spaceTells", inPlace := ["slices.overlaps[runaround/shelf.Shelf]"], unfollowed := true, recurses := true, apart := false }
def SpaceTellsSaid : Prop := spaceTellsRow.holds Try.pinned (OpenSpec.ofChange spaceTellsSpec)

/-- ITS FALSE NEIGHBOUR: 'it returns false'. Refute it at one input. -/
def spaceTellsWrong : ChangeSpec := { name := "spaceTells", fn := fun _ => fun
  | [d1, d2, d3] => { results := [.lit (.bool false)], args := [d1, d2, d3] }
  | _ => none }
def SpaceTellsWrongFalsely : Prop := spaceTellsRow.holds Try.pinned (OpenSpec.ofChange spaceTellsWrong)

/-- 'runaroundlaw10.SpaceFrees': WHATEVER THE INPUT: true; the input reads as it did. -/
def spaceFreesSpec : ChangeSpec := { name := "spaceFrees", fn := fun _ => fun
  | [d1, d2, d3, d4, d5] => { results := [.lit (.bool true)], args := [d1, d2, d3, d4, d5] }
  | _ => none }
def spaceFreesRow : OpenClaim := { program := "ytpfcefflcmeobaa", sum := "a891dc15b0518470adbc21f26f73a65c4c1fb82e6de0e1a28f34664781baf361", func := "runaround/runaroundlaw10.SpaceFrees", spec := "spaceFrees", inPlace := ["slices.overlaps[runaround/shelf.Shelf]"], unfollowed := true, recurses := true, apart := false }
def SpaceFreesSaid : Prop := spaceFreesRow.holds Try.pinned (OpenSpec.ofChange spaceFreesSpec)

/-- ITS FALSE NEIGHBOUR: 'it returns false'. Refute it at one input. -/
def spaceFreesWrong : ChangeSpec := { name := "spaceFrees", fn := fun _ => fun
  | [d1, d2, d3, d4, d5] => { results := [.lit (.bool false)], args := [d1, d2, d3, d4, d5] }
  | _ => none }
def SpaceFreesWrongFalsely : Prop := spaceFreesRow.holds Try.pinned (OpenSpec.ofChange spaceFreesWrong)

/-- 'runaroundlaw10.SpaceFirst': WHATEVER THE INPUT: true; the input reads as it did. -/
def spaceFirstSpec : ChangeSpec := { name := "spaceFirst", fn := fun _ => fun
  | [d1, d2, d3, d4] => { results := [.lit (.bool true)], args := [d1, d2, d3, d4] }
  | _ => none }
def spaceFirstRow : OpenClaim := { program := "ytpfcefflcmeobaa", sum := "a891dc15b0518470adbc21f26f73a65c4c1fb82e6de0e1a28f34664781baf361", func := "runaround/runaroundlaw10.SpaceFirst", spec := "spaceFirst", inPlace := ["slices.overlaps[runaround/shelf.Shelf]"], unfollowed := true, recurses := true, apart := false }
def SpaceFirstSaid : Prop := spaceFirstRow.holds Try.pinned (OpenSpec.ofChange spaceFirstSpec)

/-- ITS FALSE NEIGHBOUR: 'it returns false'. Refute it at one input. -/
def spaceFirstWrong : ChangeSpec := { name := "spaceFirst", fn := fun _ => fun
  | [d1, d2, d3, d4] => { results := [.lit (.bool false)], args := [d1, d2, d3, d4] }
  | _ => none }
def SpaceFirstWrongFalsely : Prop := spaceFirstRow.holds Try.pinned (OpenSpec.ofChange spaceFirstWrong)

/-- 'runaroundlaw10.SpaceMore': WHATEVER THE INPUT: true; the input reads as it did. -/
def spaceMoreSpec : ChangeSpec := { name := "spaceMore", fn := fun _ => fun
  | [d1, d2, d3, d4] => { results := [.lit (.bool true)], args := [d1, d2, d3, d4] }
  | _ => none }
def spaceMoreRow : OpenClaim := { program := "ytpfcefflcmeobaa", sum := "a891dc15b0518470adbc21f26f73a65c4c1fb82e6de0e1a28f34664781baf361", func := "runaround/runaroundlaw10.SpaceMore", spec := "spaceMore", inPlace := ["slices.overlaps[runaround/shelf.Shelf]"], unfollowed := true, recurses := true, apart := false }
def SpaceMoreSaid : Prop := spaceMoreRow.holds Try.pinned (OpenSpec.ofChange spaceMoreSpec)

/-- ITS FALSE NEIGHBOUR: 'it returns false'. Refute it at one input. -/
def spaceMoreWrong : ChangeSpec := { name := "spaceMore", fn := fun _ => fun
  | [d1, d2, d3, d4] => { results := [.lit (.bool false)], args := [d1, d2, d3, d4] }
  | _ => none }
def SpaceMoreWrongFalsely : Prop := spaceMoreRow.holds Try.pinned (OpenSpec.ofChange spaceMoreWrong)

/-- 'runaroundlaw10.SpaceSides': WHATEVER THE INPUT: true; the input reads as it did. -/
def spaceSidesSpec : ChangeSpec := { name := "spaceSides", fn := fun _ => fun
  | [d1, d2] => { results := [.lit (.bool true)], args := [d1, d2] }
  | _ => none }
def spaceSidesRow : OpenClaim := { program := "ytpfcefflcmeobaa", sum := "a891dc15b0518470adbc21f26f73a65c4c1fb82e6de0e1a28f34664781baf361", func := "runaround/runaroundlaw10.SpaceSides", spec := "spaceSides", inPlace := ["slices.overlaps[runaround/shelf.Shelf]"], unfollowed := true, recurses := true, apart := false }
def SpaceSidesSaid : Prop := spaceSidesRow.holds Try.pinned (OpenSpec.ofChange spaceSidesSpec)

/-- ITS FALSE NEIGHBOUR: 'it returns false'. Refute it at one input. -/
def spaceSidesWrong : ChangeSpec := { name := "spaceSides", fn := fun _ => fun
  | [d1, d2] => { results := [.lit (.bool false)], args := [d1, d2] }
  | _ => none }
def SpaceSidesWrongFalsely : Prop := spaceSidesRow.holds Try.pinned (OpenSpec.ofChange spaceSidesWrong)

/- THE SECOND FORM. 'bulk': how many values and letters a reading holds, each counted each time it is reached (what is shared counts as often as it is met; a slice's spare places count too). A statement '..UptoSaid' is the law's where the arguments, and the package variables that the reading takes, are together of bulk at most 1048576: NARROWER than '..Said'. Prove '..Said' where nothing that the law and all that it calls make is longer than what came in: it says more and counts as full. Else prove '..UptoSaid'. A law counts once. -/
mutual
def uptoBulk {H : Type} : DataW H → Nat
  | .lit (.string bytes) => bytes.length + 1
  | .lit _ => 1
  | .nil => 1
  | .ptr d => uptoBulk d + 1
  | .slice elems spare => uptoBulkAll elems + uptoBulkAll spare + 1
  | .agg parts => uptoBulkAll parts + 1
  | .iface _ d => uptoBulk d + 1
  | .map entries => uptoBulkEntries entries + 1
  | .held _ => 1
def uptoBulkAll {H : Type} : List (DataW H) → Nat
  | [] => 0
  | d :: r => uptoBulk d + uptoBulkAll r
def uptoBulkEntries {H : Type} : List (Lit × DataW H) → Nat
  | [] => 0
  | x :: r => uptoBulkEntry x + uptoBulkEntries r
def uptoBulkEntry {H : Type} : Lit × DataW H → Nat
  | (.string bytes, d) => bytes.length + uptoBulk d + 1
  | (_, d) => uptoBulk d + 1
 end
def uptoSmall : (H : Type) → List (DataW H) → Bool := fun _ ds => decide (uptoBulkAll ds ≤ 1048576)
def OpenSpec.upto (s : _root_.Go.ChangeSpec) : _root_.Go.OpenSpec := { _root_.Go.OpenSpec.ofChange s with cond := some uptoSmall }

/-- 'runaroundlaw10.SpaceTells', WHERE WHAT IT READS IS OF BULK AT MOST 1048576: true; the input reads as it did. -/
def spaceTellsUptoRow : OpenClaim := { program := "ytpfcefflcmeobaa", sum := "a891dc15b0518470adbc21f26f73a65c4c1fb82e6de0e1a28f34664781baf361", func := "runaround/runaroundlaw10.SpaceTells", spec := "spaceTells", inPlace := ["slices.overlaps[runaround/shelf.Shelf]"], unfollowed := true, recurses := true, apart := false, narrowed := true }
def SpaceTellsUptoSaid : Prop := spaceTellsUptoRow.holds Try.pinned (OpenSpec.upto spaceTellsSpec)

/-- 'runaroundlaw10.SpaceFrees', WHERE WHAT IT READS IS OF BULK AT MOST 1048576: true; the input reads as it did. -/
def spaceFreesUptoRow : OpenClaim := { program := "ytpfcefflcmeobaa", sum := "a891dc15b0518470adbc21f26f73a65c4c1fb82e6de0e1a28f34664781baf361", func := "runaround/runaroundlaw10.SpaceFrees", spec := "spaceFrees", inPlace := ["slices.overlaps[runaround/shelf.Shelf]"], unfollowed := true, recurses := true, apart := false, narrowed := true }
def SpaceFreesUptoSaid : Prop := spaceFreesUptoRow.holds Try.pinned (OpenSpec.upto spaceFreesSpec)

/-- 'runaroundlaw10.SpaceFirst', WHERE WHAT IT READS IS OF BULK AT MOST 1048576: true; the input reads as it did. -/
def spaceFirstUptoRow : OpenClaim := { program := "ytpfcefflcmeobaa", sum := "a891dc15b0518470adbc21f26f73a65c4c1fb82e6de0e1a28f34664781baf361", func := "runaround/runaroundlaw10.SpaceFirst", spec := "spaceFirst", inPlace := ["slices.overlaps[runaround/shelf.Shelf]"], unfollowed := true, recurses := true, apart := false, narrowed := true }
def SpaceFirstUptoSaid : Prop := spaceFirstUptoRow.holds Try.pinned (OpenSpec.upto spaceFirstSpec)

/-- 'runaroundlaw10.SpaceMore', WHERE WHAT IT READS IS OF BULK AT MOST 1048576: true; the input reads as it did. -/
def spaceMoreUptoRow : OpenClaim := { program := "ytpfcefflcmeobaa", sum := "a891dc15b0518470adbc21f26f73a65c4c1fb82e6de0e1a28f34664781baf361", func := "runaround/runaroundlaw10.SpaceMore", spec := "spaceMore", inPlace := ["slices.overlaps[runaround/shelf.Shelf]"], unfollowed := true, recurses := true, apart := false, narrowed := true }
def SpaceMoreUptoSaid : Prop := spaceMoreUptoRow.holds Try.pinned (OpenSpec.upto spaceMoreSpec)

/-- 'runaroundlaw10.SpaceSides', WHERE WHAT IT READS IS OF BULK AT MOST 1048576: true; the input reads as it did. -/
def spaceSidesUptoRow : OpenClaim := { program := "ytpfcefflcmeobaa", sum := "a891dc15b0518470adbc21f26f73a65c4c1fb82e6de0e1a28f34664781baf361", func := "runaround/runaroundlaw10.SpaceSides", spec := "spaceSides", inPlace := ["slices.overlaps[runaround/shelf.Shelf]"], unfollowed := true, recurses := true, apart := false, narrowed := true }
def SpaceSidesUptoSaid : Prop := spaceSidesUptoRow.holds Try.pinned (OpenSpec.upto spaceSidesSpec)

end Rows
end Go.Proofs.Ytpfcefflcmeobaa
