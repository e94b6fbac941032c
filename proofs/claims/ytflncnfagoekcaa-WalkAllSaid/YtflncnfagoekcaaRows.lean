/-
  No cell of these rows narrows 'for every input' (looked for: loops, veiled, ifaces, maps, wideKeys, modest, calm, conditions, laid).
  DERIVED. THE GIVEN ROWS OF THIS SEAT. 6 by the template 'for every input the law returns true; each argument reads behind the call as it read before'; 0 by the template 'total and deterministic' (their statements: YtflncnfagoekcaaTotals.lean).
  GIVEN WITH THE SEED: the statements are not yours to turn. If you find one false, say at which input.
  Laid BY PROGRAM, IN A SANDBOX (cutbox-rows.mjs): the forced cells as the released guide's own fill.sh prints them over the translation d141002154395a2b… (all of the seat's roots in one cut). By AI agents, Wed Nov 11 2026. No macro, syntax, notation, axiom, sorry.
-/
import Derived.Test.YtflncnfagoekcaaChecked
import GoSem.Claim
import GoSem.ClaimJoined
import GoSem.ClaimMapViews
import Derived.JoinedTies
import Derived.KernelRfl
namespace Go.Proofs.Ytflncnfagoekcaa
/- THE CELL 'sum', in the pinned program and in every row, IS THE sha256 OF THE DUMP (.gsa) THAT YtflncnfagoekcaaProg.lean LOADS. Nothing in Lean hashes anything: it is a label: what it is worth is what the hold of that sum in a sandbox is worth. -/
noncomputable def Try.pinned : Pinned := { name := "ytflncnfagoekcaa", sum := "d141002154395a2bea2b2effe3b48ec28332eea69d8a9e3ed1194e94c2b4a195", checked := Try.checked }
namespace Rows
def none {H : Type} : Left H := { results := [], args := [] }

/-- 'runaroundlaw07.WalkAll': WHATEVER THE INPUT: true; the input reads as it did. -/
def walkAllSpec : ChangeSpec := { name := "walkAll", fn := fun _ => fun
  | [d] => { results := [.lit (.bool true)], args := [d] }
  | _ => none }
def walkAllRow : OpenClaim := { program := "ytflncnfagoekcaa", sum := "d141002154395a2bea2b2effe3b48ec28332eea69d8a9e3ed1194e94c2b4a195", func := "runaround/runaroundlaw07.WalkAll", spec := "walkAll", unfollowed := true, recurses := true, apart := false }
def WalkAllSaid : Prop := walkAllRow.holds Try.pinned (OpenSpec.ofChange walkAllSpec)

/-- ITS FALSE NEIGHBOUR: 'it returns false'. Refute it at one input. -/
def walkAllWrong : ChangeSpec := { name := "walkAll", fn := fun _ => fun
  | [d] => { results := [.lit (.bool false)], args := [d] }
  | _ => none }
def WalkAllWrongFalsely : Prop := walkAllRow.holds Try.pinned (OpenSpec.ofChange walkAllWrong)

/-- 'runaroundlaw07.WalkContexts': WHATEVER THE INPUT: true; the input reads as it did. -/
def walkContextsSpec : ChangeSpec := { name := "walkContexts", fn := fun _ => fun
  | [d1, d2] => { results := [.lit (.bool true)], args := [d1, d2] }
  | _ => none }
def walkContextsRow : OpenClaim := { program := "ytflncnfagoekcaa", sum := "d141002154395a2bea2b2effe3b48ec28332eea69d8a9e3ed1194e94c2b4a195", func := "runaround/runaroundlaw07.WalkContexts", spec := "walkContexts", unfollowed := true, recurses := true, apart := false }
def WalkContextsSaid : Prop := walkContextsRow.holds Try.pinned (OpenSpec.ofChange walkContextsSpec)

/-- ITS FALSE NEIGHBOUR: 'it returns false'. Refute it at one input. -/
def walkContextsWrong : ChangeSpec := { name := "walkContexts", fn := fun _ => fun
  | [d1, d2] => { results := [.lit (.bool false)], args := [d1, d2] }
  | _ => none }
def WalkContextsWrongFalsely : Prop := walkContextsRow.holds Try.pinned (OpenSpec.ofChange walkContextsWrong)

/-- 'runaroundlaw07.WalkCovers': WHATEVER THE INPUT: true; the input reads as it did. -/
def walkCoversSpec : ChangeSpec := { name := "walkCovers", fn := fun _ => fun
  | [d] => { results := [.lit (.bool true)], args := [d] }
  | _ => none }
def walkCoversRow : OpenClaim := { program := "ytflncnfagoekcaa", sum := "d141002154395a2bea2b2effe3b48ec28332eea69d8a9e3ed1194e94c2b4a195", func := "runaround/runaroundlaw07.WalkCovers", spec := "walkCovers", unfollowed := true, recurses := true, apart := false }
def WalkCoversSaid : Prop := walkCoversRow.holds Try.pinned (OpenSpec.ofChange walkCoversSpec)

/-- ITS FALSE NEIGHBOUR: 'it returns false'. Refute it at one input. -/
def walkCoversWrong : ChangeSpec := { name := "walkCovers", fn := fun _ => fun
  | [d] => { results := [.lit (.bool false)], args := [d] }
  | _ => none }
def WalkCoversWrongFalsely : Prop := walkCoversRow.holds Try.pinned (OpenSpec.ofChange walkCoversWrong)

/-- 'runaroundlaw07.WalkEnds': WHATEVER THE INPUT: true; the input reads as it did. -/
def walkEndsSpec : ChangeSpec := { name := "walkEnds", fn := fun _ => fun
  | [d1, d2, d3] => { results := [.lit (.bool true)], args := [d1, d2, d3] }
  | _ => none }
def walkEndsRow : OpenClaim := { program := "ytflncnfagoekcaa", sum := "d141002154395a2bea2b2effe3b48ec28332eea69d8a9e3ed1194e94c2b4a195", func := "runaround/runaroundlaw07.WalkEnds", spec := "walkEnds", unfollowed := true, recurses := true, apart := false }
def WalkEndsSaid : Prop := walkEndsRow.holds Try.pinned (OpenSpec.ofChange walkEndsSpec)

/-- ITS FALSE NEIGHBOUR: 'it returns false'. Refute it at one input. -/
def walkEndsWrong : ChangeSpec := { name := "walkEnds", fn := fun _ => fun
  | [d1, d2, d3] => { results := [.lit (.bool false)], args := [d1, d2, d3] }
  | _ => none }
def WalkEndsWrongFalsely : Prop := walkEndsRow.holds Try.pinned (OpenSpec.ofChange walkEndsWrong)

/-- 'runaroundlaw07.WalkContextsNest': WHATEVER THE INPUT: true; the input reads as it did. -/
def walkContextsNestSpec : ChangeSpec := { name := "walkContextsNest", fn := fun _ => fun
  | [d1, d2] => { results := [.lit (.bool true)], args := [d1, d2] }
  | _ => none }
def walkContextsNestRow : OpenClaim := { program := "ytflncnfagoekcaa", sum := "d141002154395a2bea2b2effe3b48ec28332eea69d8a9e3ed1194e94c2b4a195", func := "runaround/runaroundlaw07.WalkContextsNest", spec := "walkContextsNest", unfollowed := true, recurses := true, apart := false }
def WalkContextsNestSaid : Prop := walkContextsNestRow.holds Try.pinned (OpenSpec.ofChange walkContextsNestSpec)

/-- ITS FALSE NEIGHBOUR: 'it returns false'. Refute it at one input. -/
def walkContextsNestWrong : ChangeSpec := { name := "walkContextsNest", fn := fun _ => fun
  | [d1, d2] => { results := [.lit (.bool false)], args := [d1, d2] }
  | _ => none }
def WalkContextsNestWrongFalsely : Prop := walkContextsNestRow.holds Try.pinned (OpenSpec.ofChange walkContextsNestWrong)

/-- 'runaroundlaw07.WalkDepths': WHATEVER THE INPUT: true; the input reads as it did. -/
def walkDepthsSpec : ChangeSpec := { name := "walkDepths", fn := fun _ => fun
  | [d] => { results := [.lit (.bool true)], args := [d] }
  | _ => none }
def walkDepthsRow : OpenClaim := { program := "ytflncnfagoekcaa", sum := "d141002154395a2bea2b2effe3b48ec28332eea69d8a9e3ed1194e94c2b4a195", func := "runaround/runaroundlaw07.WalkDepths", spec := "walkDepths", unfollowed := true, recurses := true, apart := false }
def WalkDepthsSaid : Prop := walkDepthsRow.holds Try.pinned (OpenSpec.ofChange walkDepthsSpec)

/-- ITS FALSE NEIGHBOUR: 'it returns false'. Refute it at one input. -/
def walkDepthsWrong : ChangeSpec := { name := "walkDepths", fn := fun _ => fun
  | [d] => { results := [.lit (.bool false)], args := [d] }
  | _ => none }
def WalkDepthsWrongFalsely : Prop := walkDepthsRow.holds Try.pinned (OpenSpec.ofChange walkDepthsWrong)

/- THE SECOND FORM. 'bulk': how many values and letters a reading holds, each counted each time it is reached (what is shared counts as often as it is met; a slice's spare places count too). A statement '..UptoSaid' is the law's where the arguments, and the package variables that the reading takes, are together of bulk at most 1048576: NARROWER than '..Said'. Prove '..Said' where nothing that the law and all that it calls make is longer than what came in: it says more and counts as full. Else prove '..UptoSaid'. A law counts once. -/
mutual
def uptoBulk {H : Type} : DataW H → Nat
  | .lit (.string bytes) => bytes.length + 1
  | .lit _ => 1
  | .nil => 1
  | .ptr d => uptoBulk d + 1
  | .slice elems spare => uptoBulkAll elems + uptoBulkAll spare + 1
  | .agg parts => uptoBulkAll parts + 1
  | .iface _ d => uptoBulk d + 1
  | .map entries => uptoBulkEntries entries + 1
  | .held _ => 1
def uptoBulkAll {H : Type} : List (DataW H) → Nat
  | [] => 0
  | d :: r => uptoBulk d + uptoBulkAll r
def uptoBulkEntries {H : Type} : List (Lit × DataW H) → Nat
  | [] => 0
  | x :: r => uptoBulkEntry x + uptoBulkEntries r
def uptoBulkEntry {H : Type} : Lit × DataW H → Nat
  | (.string bytes, d) => bytes.length + uptoBulk d + 1
  | (_, d) => uptoBulk d + 1
 end
def uptoSmall : (H : Type) → List (DataW H) → Bool := fun _ ds => decide (uptoBulkAll ds ≤ 1048576)
def OpenSpec.upto (s : _root_.Go.ChangeSpec) : _root_.Go.OpenSpec := { _root_.Go.OpenSpec.ofChange s with cond := some uptoSmall }

/-- 'runaroundlaw07.WalkAll', WHERE WHAT IT READS IS OF BULK AT MOST 1048576: true; the input reads as it did. -/
def walkAllUptoRow : OpenClaim := { program := "ytflncnfagoekcaa", sum := "d141002154395a2bea2b2effe3b48ec28332eea69d8a9e3ed1194e94c2b4a195", func := "runaround/runaroundlaw07.WalkAll", spec := "walkAll", unfollowed := true, recurses := true, apart := false, narrowed := true }
def WalkAllUptoSaid : Prop := walkAllUptoRow.holds Try.pinned (OpenSpec.upto walkAllSpec)

/-- 'runaroundlaw07.WalkContexts', WHERE WHAT IT READS IS OF BULK AT MOST 1048576: true; the input reads as it did. -/
def walkContextsUptoRow : OpenClaim := { program := "ytflncnfagoekcaa", sum := "d141002154395a2bea2b2effe3b48ec28332eea69d8a9e3ed1194e94c2b4a195", func := "runaround/runaroundlaw07.WalkContexts", spec := "walkContexts", unfollowed := true, recurses := true, apart := false, narrowed := true }
def WalkContextsUptoSaid : Prop := walkContextsUptoRow.holds Try.pinned (OpenSpec.upto walkContextsSpec)

/-- 'runaroundlaw07.WalkCovers', WHERE WHAT IT READS IS OF BULK AT MOST 1048576: true; the input reads as it did. -/
def walkCoversUptoRow : OpenClaim := { program := "ytflncnfagoekcaa", sum := "d141002154395a2bea2b2effe3b48ec28332eea69d8a9e3ed1194e94c2b4a195", func := "runaround/runaroundlaw07.WalkCovers", spec := "walkCovers", unfollowed := true, recurses := true, apart := false, narrowed := true }
def WalkCoversUptoSaid : Prop := walkCoversUptoRow.holds Try.pinned (OpenSpec.upto walkCoversSpec)

/-- 'runaroundlaw07.WalkEnds', WHERE WHAT IT READS IS OF BULK AT MOST 1048576: true; the input reads as it did. -/
def walkEndsUptoRow : OpenClaim := { program := "ytflncnfagoekcaa", sum := "d141002154395a2bea2b2effe3b48ec28332eea69d8a9e3ed1194e94c2b4a195", func := "runaround/runaroundlaw07.WalkEnds", spec := "walkEnds", unfollowed := true, recurses := true, apart := false, narrowed := true }
def WalkEndsUptoSaid : Prop := walkEndsUptoRow.holds Try.pinned (OpenSpec.upto walkEndsSpec)

/-- 'runaroundlaw07.WalkContextsNest', WHERE WHAT IT READS IS OF BULK AT MOST 1048576: true; the input reads as it did. -/
def walkContextsNestUptoRow : OpenClaim := { program := "ytflncnfagoekcaa", sum := "d141002154395a2bea2b2effe3b48ec28332eea69d8a9e3ed1194e94c2b4a195", func := "runaround/runaroundlaw07.WalkContextsNest", spec := "walkContextsNest", unfollowed := true, recurses := true, apart := false, narrowed := true }
def WalkContextsNestUptoSaid : Prop := walkContextsNestUptoRow.holds Try.pinned (OpenSpec.upto walkContextsNestSpec)

/-- 'runaroundlaw07.WalkDepths', WHERE WHAT IT READS IS OF BULK AT MOST 1048576: true; the input reads as it did. -/
def walkDepthsUptoRow : OpenClaim := { program := "ytflncnfagoekcaa", sum := "d141002154395a2bea2b2effe3b48ec28332eea69d8a9e3ed1194e94c2b4a195", func := "runaround/runaroundlaw07.WalkDepths", spec := "walkDepths", unfollowed := true, recurses := true, apart := false, narrowed := true }
def WalkDepthsUptoSaid : Prop := walkDepthsUptoRow.holds Try.pinned (OpenSpec.upto walkDepthsSpec)

end Rows
end Go.Proofs.Ytflncnfagoekcaa
