/-
  No cell of these rows narrows 'for every input' (looked for: loops, veiled, ifaces, maps, wideKeys, modest, calm, conditions, laid).
  DERIVED. THE GIVEN ROWS OF THIS SEAT. 5 by the template 'for every input the law returns true; each argument reads behind the call as it read before'; 0 by the template 'total and deterministic' (their statements: YtdibdfalahjmbaaTotals.lean).
  GIVEN WITH THE SEED: the statements are not yours to turn. If you find one false, say at which input.
  Laid BY PROGRAM, IN A SANDBOX (cutbox-rows.mjs): the forced cells as the released guide's own fill.sh prints them over the translation 7bf78aaae61dc1cb… (all of the seat's roots in one cut). By AI agents, Wed Nov 11 2026. No macro, syntax, notation, axiom, sorry.
-/
import Derived.Test.YtdibdfalahjmbaaChecked
import GoSem.Claim
import GoSem.ClaimJoined
import GoSem.ClaimMapViews
import Derived.JoinedTies
import Derived.KernelRfl
namespace Go.Proofs.Ytdibdfalahjmbaa
/- THE CELL 'sum', in the pinned program and in every row, IS THE sha256 OF THE DUMP (.gsa) THAT YtdibdfalahjmbaaProg.lean LOADS. Nothing in Lean hashes anything: it is a label: what it is worth is what the hold of that sum in a sandbox is worth. -/
noncomputable def Try.pinned : Pinned := { name := "ytdibdfalahjmbaa", sum := "7bf78aaae61dc1cbf4b91919d8f1de27e2a38da6c8b32324eba21daff9115e2c", checked := Try.checked }
namespace Rows
def none {H : Type} : Left H := { results := [], args := [] }

/-- 'runaroundlaw14.TextApart': WHATEVER THE INPUT: true; the input reads as it did. -/
def textApartSpec : ChangeSpec := { name := "textApart", fn := fun _ => fun
  | [d1, d2, d3, d4, d5] => { results := [.lit (.bool true)], args := [d1, d2, d3, d4, d5] }
  | _ => none }
def textApartRow : OpenClaim := { program := "ytdibdfalahjmbaa", sum := "7bf78aaae61dc1cbf4b91919d8f1de27e2a38da6c8b32324eba21daff9115e2c", func := "runaround/runaroundlaw14.TextApart", spec := "textApart", inPlace := ["slices.overlaps[runaround/shelf.Shelf]"], unfollowed := true, recurses := true, apart := false }
def TextApartSaid : Prop := textApartRow.holds Try.pinned (OpenSpec.ofChange textApartSpec)

/-- ITS FALSE NEIGHBOUR: 'it returns false'. Refute it at one input. -/
def textApartWrong : ChangeSpec := { name := "textApart", fn := fun _ => fun
  | [d1, d2, d3, d4, d5] => { results := [.lit (.bool false)], args := [d1, d2, d3, d4, d5] }
  | _ => none }
def TextApartWrongFalsely : Prop := textApartRow.holds Try.pinned (OpenSpec.ofChange textApartWrong)

/-- 'runaroundlaw14.TextPlain': WHATEVER THE INPUT: true; the input reads as it did. -/
def textPlainSpec : ChangeSpec := { name := "textPlain", fn := fun _ => fun
  | [d1, d2, d3, d4, d5] => { results := [.lit (.bool true)], args := [d1, d2, d3, d4, d5] }
  | _ => none }
def textPlainRow : OpenClaim := { program := "ytdibdfalahjmbaa", sum := "7bf78aaae61dc1cbf4b91919d8f1de27e2a38da6c8b32324eba21daff9115e2c", func := "runaround/runaroundlaw14.TextPlain", spec := "textPlain", inPlace := ["slices.overlaps[runaround/shelf.Shelf]"], unfollowed := true, recurses := true, apart := false }
def TextPlainSaid : Prop := textPlainRow.holds Try.pinned (OpenSpec.ofChange textPlainSpec)

/-- ITS FALSE NEIGHBOUR: 'it returns false'. Refute it at one input. -/
def textPlainWrong : ChangeSpec := { name := "textPlain", fn := fun _ => fun
  | [d1, d2, d3, d4, d5] => { results := [.lit (.bool false)], args := [d1, d2, d3, d4, d5] }
  | _ => none }
def TextPlainWrongFalsely : Prop := textPlainRow.holds Try.pinned (OpenSpec.ofChange textPlainWrong)

/-- 'runaroundlaw14.TextOrder': WHATEVER THE INPUT: true; the input reads as it did. -/
def textOrderSpec : ChangeSpec := { name := "textOrder", fn := fun _ => fun
  | [d1, d2, d3, d4, d5] => { results := [.lit (.bool true)], args := [d1, d2, d3, d4, d5] }
  | _ => none }
def textOrderRow : OpenClaim := { program := "ytdibdfalahjmbaa", sum := "7bf78aaae61dc1cbf4b91919d8f1de27e2a38da6c8b32324eba21daff9115e2c", func := "runaround/runaroundlaw14.TextOrder", spec := "textOrder", inPlace := ["slices.overlaps[runaround/shelf.Shelf]"], unfollowed := true, recurses := true, apart := false }
def TextOrderSaid : Prop := textOrderRow.holds Try.pinned (OpenSpec.ofChange textOrderSpec)

/-- ITS FALSE NEIGHBOUR: 'it returns false'. Refute it at one input. -/
def textOrderWrong : ChangeSpec := { name := "textOrder", fn := fun _ => fun
  | [d1, d2, d3, d4, d5] => { results := [.lit (.bool false)], args := [d1, d2, d3, d4, d5] }
  | _ => none }
def TextOrderWrongFalsely : Prop := textOrderRow.holds Try.pinned (OpenSpec.ofChange textOrderWrong)

/-- 'runaroundlaw14.TextFloats': WHATEVER THE INPUT: true; the input reads as it did. -/
def textFloatsSpec : ChangeSpec := { name := "textFloats", fn := fun _ => fun
  | [d1, d2, d3, d4, d5] => { results := [.lit (.bool true)], args := [d1, d2, d3, d4, d5] }
  | _ => none }
def textFloatsRow : OpenClaim := { program := "ytdibdfalahjmbaa", sum := "7bf78aaae61dc1cbf4b91919d8f1de27e2a38da6c8b32324eba21daff9115e2c", func := "runaround/runaroundlaw14.TextFloats", spec := "textFloats", inPlace := ["slices.overlaps[runaround/shelf.Shelf]"], unfollowed := true, recurses := true, apart := false }
def TextFloatsSaid : Prop := textFloatsRow.holds Try.pinned (OpenSpec.ofChange textFloatsSpec)

/-- ITS FALSE NEIGHBOUR: 'it returns false'. Refute it at one input. -/
def textFloatsWrong : ChangeSpec := { name := "textFloats", fn := fun _ => fun
  | [d1, d2, d3, d4, d5] => { results := [.lit (.bool false)], args := [d1, d2, d3, d4, d5] }
  | _ => none }
def TextFloatsWrongFalsely : Prop := textFloatsRow.holds Try.pinned (OpenSpec.ofChange textFloatsWrong)

/-- 'runaroundlaw14.TextFronts': WHATEVER THE INPUT: true; the input reads as it did. -/
def textFrontsSpec : ChangeSpec := { name := "textFronts", fn := fun _ => fun
  | [d1, d2, d3, d4, d5, d6] => { results := [.lit (.bool true)], args := [d1, d2, d3, d4, d5, d6] }
  | _ => none }
def textFrontsRow : OpenClaim := { program := "ytdibdfalahjmbaa", sum := "7bf78aaae61dc1cbf4b91919d8f1de27e2a38da6c8b32324eba21daff9115e2c", func := "runaround/runaroundlaw14.TextFronts", spec := "textFronts", inPlace := ["slices.overlaps[runaround/shelf.Shelf]"], unfollowed := true, recurses := true, apart := false }
def TextFrontsSaid : Prop := textFrontsRow.holds Try.pinned (OpenSpec.ofChange textFrontsSpec)

/-- ITS FALSE NEIGHBOUR: 'it returns false'. Refute it at one input. -/
def textFrontsWrong : ChangeSpec := { name := "textFronts", fn := fun _ => fun
  | [d1, d2, d3, d4, d5, d6] => { results := [.lit (.bool false)], args := [d1, d2, d3, d4, d5, d6] }
  | _ => none }
def TextFrontsWrongFalsely : Prop := textFrontsRow.holds Try.pinned (OpenSpec.ofChange textFrontsWrong)

/- THE SECOND FORM. 'bulk': how many values and letters a reading holds, each counted each time it is reached (what is shared counts as often as it is met; a slice's spare places count too). A statement '..UptoSaid' is the law's where the arguments, and the package variables that the reading takes, are together of bulk at most 1048576: NARROWER than '..Said'. Prove '..Said' where nothing that the law and all that it calls make is longer than what came in: it says more and counts as full. Else prove '..UptoSaid'. A law counts once. -/
mutual
def uptoBulk {H : Type} : DataW H → Nat
  | .lit (.string bytes) => bytes.length + 1
  | .lit _ => 1
  | .nil => 1
  | .ptr d => uptoBulk d + 1
  | .slice elems spare => uptoBulkAll elems + uptoBulkAll spare + 1
  | .agg parts => uptoBulkAll parts + 1
  | .iface _ d => uptoBulk d + 1
  | .map entries => uptoBulkEntries entries + 1
  | .held _ => 1
def uptoBulkAll {H : Type} : List (DataW H) → Nat
  | [] => 0
  | d :: r => uptoBulk d + uptoBulkAll r
def uptoBulkEntries {H : Type} : List (Lit × DataW H) → Nat
  | [] => 0
  | x :: r => uptoBulkEntry x + uptoBulkEntries r
def uptoBulkEntry {H : Type} : Lit × DataW H → Nat
  | (.string bytes, d) => bytes.length + uptoBulk d + 1
  | (_, d) => uptoBulk d + 1
 end
def uptoSmall : (H : Type) → List (DataW H) → Bool := fun _ ds => decide (uptoBulkAll ds ≤ 1048576)
def OpenSpec.upto (s : _root_.Go.ChangeSpec) : _root_.Go.OpenSpec := { _root_.Go.OpenSpec.ofChange s with cond := some uptoSmall }

/-- 'runaroundlaw14.TextApart', WHERE WHAT IT READS IS OF BULK AT MOST 1048576: true; the input reads as it did. -/
def textApartUptoRow : OpenClaim := { program := "ytdibdfalahjmbaa", sum := "7bf78aaae61dc1cbf4b91919d8f1de27e2a38da6c8b32324eba21daff9115e2c", func := "runaround/runaroundlaw14.TextApart", spec := "textApart", inPlace := ["slices.overlaps[runaround/shelf.Shelf]"], unfollowed := true, recurses := true, apart := false, narrowed := true }
def TextApartUptoSaid : Prop := textApartUptoRow.holds Try.pinned (OpenSpec.upto textApartSpec)

/-- 'runaroundlaw14.TextPlain', WHERE WHAT IT READS IS OF BULK AT MOST 1048576: true; the input reads as it did. -/
def textPlainUptoRow : OpenClaim := { program := "ytdibdfalahjmbaa", sum := "7bf78aaae61dc1cbf4b91919d8f1de27e2a38da6c8b32324eba21daff9115e2c", func := "runaround/runaroundlaw14.TextPlain", spec := "textPlain", inPlace := ["slices.overlaps[runaround/shelf.Shelf]"], unfollowed := true, recurses := true, apart := false, narrowed := true }
def TextPlainUptoSaid : Prop := textPlainUptoRow.holds Try.pinned (OpenSpec.upto textPlainSpec)

/-- 'runaroundlaw14.TextOrder', WHERE WHAT IT READS IS OF BULK AT MOST 1048576: true; the input reads as it did. -/
def textOrderUptoRow : OpenClaim := { program := "ytdibdfalahjmbaa", sum := "7bf78aaae61dc1cbf4b91919d8f1de27e2a38da6c8b32324eba21daff9115e2c", func := "runaround/runaroundlaw14.TextOrder", spec := "textOrder", inPlace := ["slices.overlaps[runaround/shelf.Shelf]"], unfollowed := true, recurses := true, apart := false, narrowed := true }
def TextOrderUptoSaid : Prop := textOrderUptoRow.holds Try.pinned (OpenSpec.upto textOrderSpec)

/-- 'runaroundlaw14.TextFloats', WHERE WHAT IT READS IS OF BULK AT MOST 1048576: true; the input reads as it did. -/
def textFloatsUptoRow : OpenClaim := { program := "ytdibdfalahjmbaa", sum := "7bf78aaae61dc1cbf4b91919d8f1de27e2a38da6c8b32324eba21daff9115e2c", func := "runaround/runaroundlaw14.TextFloats", spec := "textFloats", inPlace := ["slices.overlaps[runaround/shelf.Shelf]"], unfollowed := true, recurses := true, apart := false, narrowed := true }
def TextFloatsUptoSaid : Prop := textFloatsUptoRow.holds Try.pinned (OpenSpec.upto textFloatsSpec)

/-- 'runaroundlaw14.TextFronts', WHERE WHAT IT READS IS OF BULK AT MOST 1048576: true; the input reads as it did. -/
def textFrontsUptoRow : OpenClaim := { program := "ytdibdfalahjmbaa", sum := "7bf78aaae61dc1cbf4b91919d8f1de27e2a38da6c8b32324eba21daff9115e2c", func := "runaround/runaroundlaw14.TextFronts", spec := "textFronts", inPlace := ["slices.overlaps[runaround/shelf.Shelf]"], unfollowed := true, recurses := true, apart := false, narrowed := true }
def TextFrontsUptoSaid : Prop := textFrontsUptoRow.holds Try.pinned (OpenSpec.upto textFrontsSpec)

end Rows
end Go.Proofs.Ytdibdfalahjmbaa
