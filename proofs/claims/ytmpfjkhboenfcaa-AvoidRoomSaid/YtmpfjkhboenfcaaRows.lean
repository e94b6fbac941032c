/-
  No cell of these rows narrows 'for every input' (looked for: loops, veiled, ifaces, maps, wideKeys, modest, calm, conditions, laid).
  DERIVED. THE GIVEN ROWS OF THIS SEAT. 6 by the template 'for every input the law returns true; each argument reads behind the call as it read before'; 0 by the template 'total and deterministic' (their statements: YtmpfjkhboenfcaaTotals.lean).
  GIVEN WITH THE SEED: the statements are not yours to turn. If you find one false, say at which input.
  Laid BY PROGRAM, IN A SANDBOX (cutbox-rows.mjs): the forced cells as the released guide's own fill.sh prints them over the translation abdbfab58caebcf0… (all of the seat's roots in one cut). By AI agents, Wed Nov 11 2026. No macro, syntax, notation, axiom, sorry.
-/
import Derived.Test.YtmpfjkhboenfcaaChecked
import GoSem.Claim
import GoSem.ClaimJoined
import GoSem.ClaimMapViews
import Derived.JoinedTies
import Derived.KernelRfl
namespace Go.Proofs.Ytmpfjkhboenfcaa
/- THE CELL 'sum', in the pinned program and in every row, IS THE sha256 OF THE DUMP (.gsa) THAT YtmpfjkhboenfcaaProg.lean LOADS. Nothing in Lean hashes anything: it is a label: what it is worth is what the hold of that sum in a sandbox is worth. -/
noncomputable def Try.pinned : Pinned := { name := "ytmpfjkhboenfcaa", sum := "abdbfab58caebcf07bc740ee4625bd558208e7e72fb22b4cbd142f22793a6c2b", checked := Try.checked }
namespace Rows
def none {H : Type} : Left H := { results := [], args := [] }

/-- 'runaroundlaw12.AvoidFinds': WHATEVER THE INPUT: true; the input reads as it did. -/
def avoidFindsSpec : ChangeSpec := { name := "avoidFinds", fn := fun _ => fun
  | [d1, d2, d3] => { results := [.lit (.bool true)], args := [d1, d2, d3] }
  | _ => none }
def avoidFindsRow : OpenClaim := { program := "ytmpfjkhboenfcaa", sum := "abdbfab58caebcf07bc740ee4625bd558208e7e72fb22b4cbd142f22793a6c2b", func := "runaround/runaroundlaw12.AvoidFinds", spec := "avoidFinds", inPlace := ["slices.overlaps[runaround/shelf.Shelf]"], unfollowed := true, recurses := true, apart := false }
def AvoidFindsSaid : Prop := avoidFindsRow.holds Try.pinned (OpenSpec.ofChange avoidFindsSpec)

/-- ITS FALSE NEIGHBOUR: 'it returns false'. Refute it at one input. -/
def avoidFindsWrong : ChangeSpec := { name := "avoidFinds", fn := fun _ => fun
  | [d1, d2, d3] => { results := [.lit (.bool false)], args := [d1, d2, d3] }
  | _ => none }
def AvoidFindsWrongFalsely : Prop := avoidFindsRow.holds Try.pinned (OpenSpec.ofChange avoidFindsWrong)

/-- 'runaroundlaw12.AvoidApart': WHATEVER THE INPUT: true; the input reads as it did. -/
def avoidApartSpec : ChangeSpec := { name := "avoidApart", fn := fun _ => fun
  | [d1, d2] => { results := [.lit (.bool true)], args := [d1, d2] }
  | _ => none }
def avoidApartRow : OpenClaim := { program := "ytmpfjkhboenfcaa", sum := "abdbfab58caebcf07bc740ee4625bd558208e7e72fb22b4cbd142f22793a6c2b", func := "runaround/runaroundlaw12.AvoidApart", spec := "avoidApart", inPlace := ["slices.overlaps[runaround/shelf.Shelf]"], unfollowed := true, recurses := true, apart := false }
def AvoidApartSaid : Prop := avoidApartRow.holds Try.pinned (OpenSpec.ofChange avoidApartSpec)

/-- ITS FALSE NEIGHBOUR: 'it returns false'. Refute it at one input. -/
def avoidApartWrong : ChangeSpec := { name := "avoidApart", fn := fun _ => fun
  | [d1, d2] => { results := [.lit (.bool false)], args := [d1, d2] }
  | _ => none }
def AvoidApartWrongFalsely : Prop := avoidApartRow.holds Try.pinned (OpenSpec.ofChange avoidApartWrong)

/-- 'runaroundlaw12.AvoidHighest': WHATEVER THE INPUT: true; the input reads as it did. -/
def avoidHighestSpec : ChangeSpec := { name := "avoidHighest", fn := fun _ => fun
  | [d1, d2] => { results := [.lit (.bool true)], args := [d1, d2] }
  | _ => none }
def avoidHighestRow : OpenClaim := { program := "ytmpfjkhboenfcaa", sum := "abdbfab58caebcf07bc740ee4625bd558208e7e72fb22b4cbd142f22793a6c2b", func := "runaround/runaroundlaw12.AvoidHighest", spec := "avoidHighest", inPlace := ["slices.overlaps[runaround/shelf.Shelf]"], unfollowed := true, recurses := true, apart := false }
def AvoidHighestSaid : Prop := avoidHighestRow.holds Try.pinned (OpenSpec.ofChange avoidHighestSpec)

/-- ITS FALSE NEIGHBOUR: 'it returns false'. Refute it at one input. -/
def avoidHighestWrong : ChangeSpec := { name := "avoidHighest", fn := fun _ => fun
  | [d1, d2] => { results := [.lit (.bool false)], args := [d1, d2] }
  | _ => none }
def AvoidHighestWrongFalsely : Prop := avoidHighestRow.holds Try.pinned (OpenSpec.ofChange avoidHighestWrong)

/-- 'runaroundlaw12.AvoidAlone': WHATEVER THE INPUT: true; the input reads as it did. -/
def avoidAloneSpec : ChangeSpec := { name := "avoidAlone", fn := fun _ => fun
  | [d1, d2, d3] => { results := [.lit (.bool true)], args := [d1, d2, d3] }
  | _ => none }
def avoidAloneRow : OpenClaim := { program := "ytmpfjkhboenfcaa", sum := "abdbfab58caebcf07bc740ee4625bd558208e7e72fb22b4cbd142f22793a6c2b", func := "runaround/runaroundlaw12.AvoidAlone", spec := "avoidAlone", inPlace := ["slices.overlaps[runaround/shelf.Shelf]"], unfollowed := true, recurses := true, apart := false }
def AvoidAloneSaid : Prop := avoidAloneRow.holds Try.pinned (OpenSpec.ofChange avoidAloneSpec)

/-- ITS FALSE NEIGHBOUR: 'it returns false'. Refute it at one input. -/
def avoidAloneWrong : ChangeSpec := { name := "avoidAlone", fn := fun _ => fun
  | [d1, d2, d3] => { results := [.lit (.bool false)], args := [d1, d2, d3] }
  | _ => none }
def AvoidAloneWrongFalsely : Prop := avoidAloneRow.holds Try.pinned (OpenSpec.ofChange avoidAloneWrong)

/-- 'runaroundlaw12.AvoidRoom': WHATEVER THE INPUT: true; the input reads as it did. -/
def avoidRoomSpec : ChangeSpec := { name := "avoidRoom", fn := fun _ => fun
  | [d1, d2, d3, d4] => { results := [.lit (.bool true)], args := [d1, d2, d3, d4] }
  | _ => none }
def avoidRoomRow : OpenClaim := { program := "ytmpfjkhboenfcaa", sum := "abdbfab58caebcf07bc740ee4625bd558208e7e72fb22b4cbd142f22793a6c2b", func := "runaround/runaroundlaw12.AvoidRoom", spec := "avoidRoom", inPlace := ["slices.overlaps[runaround/shelf.Shelf]"], unfollowed := true, recurses := true, apart := false }
def AvoidRoomSaid : Prop := avoidRoomRow.holds Try.pinned (OpenSpec.ofChange avoidRoomSpec)

/-- ITS FALSE NEIGHBOUR: 'it returns false'. Refute it at one input. -/
def avoidRoomWrong : ChangeSpec := { name := "avoidRoom", fn := fun _ => fun
  | [d1, d2, d3, d4] => { results := [.lit (.bool false)], args := [d1, d2, d3, d4] }
  | _ => none }
def AvoidRoomWrongFalsely : Prop := avoidRoomRow.holds Try.pinned (OpenSpec.ofChange avoidRoomWrong)

/-- 'runaroundlaw12.AvoidTall': WHATEVER THE INPUT: true; the input reads as it did. -/
def avoidTallSpec : ChangeSpec := { name := "avoidTall", fn := fun _ => fun
  | [d1, d2, d3] => { results := [.lit (.bool true)], args := [d1, d2, d3] }
  | _ => none }
def avoidTallRow : OpenClaim := { program := "ytmpfjkhboenfcaa", sum := "abdbfab58caebcf07bc740ee4625bd558208e7e72fb22b4cbd142f22793a6c2b", func := "runaround/runaroundlaw12.AvoidTall", spec := "avoidTall", inPlace := ["slices.overlaps[runaround/shelf.Shelf]"], unfollowed := true, recurses := true, apart := false }
def AvoidTallSaid : Prop := avoidTallRow.holds Try.pinned (OpenSpec.ofChange avoidTallSpec)

/-- ITS FALSE NEIGHBOUR: 'it returns false'. Refute it at one input. -/
def avoidTallWrong : ChangeSpec := { name := "avoidTall", fn := fun _ => fun
  | [d1, d2, d3] => { results := [.lit (.bool false)], args := [d1, d2, d3] }
  | _ => none }
def AvoidTallWrongFalsely : Prop := avoidTallRow.holds Try.pinned (OpenSpec.ofChange avoidTallWrong)

/- THE SECOND FORM. 'bulk': how many values and letters a reading holds, each counted each time it is reached (what is shared counts as often as it is met; a slice's spare places count too). A statement '..UptoSaid' is the law's where the arguments, and the package variables that the reading takes, are together of bulk at most 1048576: NARROWER than '..Said'. Prove '..Said' where nothing that the law and all that it calls make is longer than what came in: it says more and counts as full. Else prove '..UptoSaid'. A law counts once. -/
mutual
def uptoBulk {H : Type} : DataW H → Nat
  | .lit (.string bytes) => bytes.length + 1
  | .lit _ => 1
  | .nil => 1
  | .ptr d => uptoBulk d + 1
  | .slice elems spare => uptoBulkAll elems + uptoBulkAll spare + 1
  | .agg parts => uptoBulkAll parts + 1
  | .iface _ d => uptoBulk d + 1
  | .map entries => uptoBulkEntries entries + 1
  | .held _ => 1
def uptoBulkAll {H : Type} : List (DataW H) → Nat
  | [] => 0
  | d :: r => uptoBulk d + uptoBulkAll r
def uptoBulkEntries {H : Type} : List (Lit × DataW H) → Nat
  | [] => 0
  | x :: r => uptoBulkEntry x + uptoBulkEntries r
def uptoBulkEntry {H : Type} : Lit × DataW H → Nat
  | (.string bytes, d) => bytes.length + uptoBulk d + 1
  | (_, d) => uptoBulk d + 1
 end
def uptoSmall : (H : Type) → List (DataW H) → Bool := fun _ ds => decide (uptoBulkAll ds ≤ 1048576)
def OpenSpec.upto (s : _root_.Go.ChangeSpec) : _root_.Go.OpenSpec := { _root_.Go.OpenSpec.ofChange s with cond := some uptoSmall }

/-- 'runaroundlaw12.AvoidFinds', WHERE WHAT IT READS IS OF BULK AT MOST 1048576: true; the input reads as it did. -/
def avoidFindsUptoRow : OpenClaim := { program := "ytmpfjkhboenfcaa", sum := "abdbfab58caebcf07bc740ee4625bd558208e7e72fb22b4cbd142f22793a6c2b", func := "runaround/runaroundlaw12.AvoidFinds", spec := "avoidFinds", inPlace := ["slices.overlaps[runaround/shelf.Shelf]"], unfollowed := true, recurses := true, apart := false, narrowed := true }
def AvoidFindsUptoSaid : Prop := avoidFindsUptoRow.holds Try.pinned (OpenSpec.upto avoidFindsSpec)

/-- 'runaroundlaw12.AvoidApart', WHERE WHAT IT READS IS OF BULK AT MOST 1048576: true; the input reads as it did. -/
def avoidApartUptoRow : OpenClaim := { program := "ytmpfjkhboenfcaa", sum := "abdbfab58caebcf07bc740ee4625bd558208e7e72fb22b4cbd142f22793a6c2b", func := "runaround/runaroundlaw12.AvoidApart", spec := "avoidApart", inPlace := ["slices.overlaps[runaround/shelf.Shelf]"], unfollowed := true, recurses := true, apart := false, narrowed := true }
def AvoidApartUptoSaid : Prop := avoidApartUptoRow.holds Try.pinned (OpenSpec.upto avoidApartSpec)

/-- 'runaroundlaw12.AvoidHighest', WHERE WHAT IT READS IS OF BULK AT MOST 1048576: true; the input reads as it did. -/
def avoidHighestUptoRow : OpenClaim := { program := "ytmpfjkhboenfcaa", sum := "abdbfab58caebcf07bc740ee4625bd558208e7e72fb22b4cbd142f22793a6c2b", func := "runaround/runaroundlaw12.AvoidHighest", spec := "avoidHighest", inPlace := ["slices.overlaps[runaround/shelf.Shelf]"], unfollowed := true, recurses := true, apart := false, narrowed := true }
def AvoidHighestUptoSaid : Prop := avoidHighestUptoRow.holds Try.pinned (OpenSpec.upto avoidHighestSpec)

/-- 'runaroundlaw12.AvoidAlone', WHERE WHAT IT READS IS OF BULK AT MOST 1048576: true; the input reads as it did. -/
def avoidAloneUptoRow : OpenClaim := { program := "ytmpfjkhboenfcaa", sum := "abdbfab58caebcf07bc740ee4625bd558208e7e72fb22b4cbd142f22793a6c2b", func := "runaround/runaroundlaw12.AvoidAlone", spec := "avoidAlone", inPlace := ["slices.overlaps[runaround/shelf.Shelf]"], unfollowed := true, recurses := true, apart := false, narrowed := true }
def AvoidAloneUptoSaid : Prop := avoidAloneUptoRow.holds Try.pinned (OpenSpec.upto avoidAloneSpec)

/-- 'runaroundlaw12.AvoidRoom', WHERE WHAT IT READS IS OF BULK AT MOST 1048576: true; the input reads as it did. -/
def avoidRoomUptoRow : OpenClaim := { program := "ytmpfjkhboenfcaa", sum := "abdbfab58caebcf07bc740ee4625bd558208e7e72fb22b4cbd142f22793a6c2b", func := "runaround/runaroundlaw12.AvoidRoom", spec := "avoidRoom", inPlace := ["slices.overlaps[runaround/shelf.Shelf]"], unfollowed := true, recurses := true, apart := false, narrowed := true }
def AvoidRoomUptoSaid : Prop := avoidRoomUptoRow.holds Try.pinned (OpenSpec.upto avoidRoomSpec)

/-- 'runaroundlaw12.AvoidTall', WHERE WHAT IT READS IS OF BULK AT MOST 1048576: true; the input reads as it did. -/
def avoidTallUptoRow : OpenClaim := { program := "ytmpfjkhboenfcaa", sum := "abdbfab58caebcf07bc740ee4625bd558208e7e72fb22b4cbd142f22793a6c2b", func := "runaround/runaroundlaw12.AvoidTall", spec := "avoidTall", inPlace := ["slices.overlaps[runaround/shelf.Shelf]"], unfollowed := true, recurses := true, apart := false, narrowed := true }
def AvoidTallUptoSaid : Prop := avoidTallUptoRow.holds Try.pinned (OpenSpec.upto avoidTallSpec)

end Rows
end Go.Proofs.Ytmpfjkhboenfcaa
