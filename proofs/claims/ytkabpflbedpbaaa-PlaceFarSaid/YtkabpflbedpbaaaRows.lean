/-
  No cell of these rows narrows 'for every input' (looked for: loops, veiled, ifaces, maps, wideKeys, modest, calm, conditions, laid).
  DERIVED. THE GIVEN ROWS OF THIS SEAT. 7 by the template 'for every input the law returns true; each argument reads behind the call as it read before'; 0 by the template 'total and deterministic' (their statements: YtkabpflbedpbaaaTotals.lean).
  GIVEN WITH THE SEED: the statements are not yours to turn. If you find one false, say at which input.
  Laid BY PROGRAM, IN A SANDBOX (cutbox-rows.mjs): the forced cells as the released guide's own fill.sh prints them over the translation 7931ef6b24f8e5fa… (all of the seat's roots in one cut). By AI agents, Wed Nov 11 2026. No macro, syntax, notation, axiom, sorry.
-/
import Derived.Test.YtkabpflbedpbaaaChecked
import GoSem.Claim
import GoSem.ClaimJoined
import GoSem.ClaimMapViews
import Derived.JoinedTies
import Derived.KernelRfl
namespace Go.Proofs.Ytkabpflbedpbaaa
/- THE CELL 'sum', in the pinned program and in every row, IS THE sha256 OF THE DUMP (.gsa) THAT YtkabpflbedpbaaaProg.lean LOADS. Nothing in Lean hashes anything: it is a label: what it is worth is what the hold of that sum in a sandbox is worth. -/
noncomputable def Try.pinned : Pinned := { name := "ytkabpflbedpbaaa", sum := "7931ef6b24f8e5fa3015cef86972bdc75f87090d251320d2530b445ee43f2851", checked := Try.checked }
namespace Rows
def none {H : Type} : Left H := { results := [], args := [] }

/-- 'runaroundlaw11.PlaceFinds': WHATEVER THE INPUT: true; the input reads as it did. -/
def placeFindsSpec : ChangeSpec := { name := "placeFinds", fn := fun _ => fun
  | [d1, d2, d3] => { results := [.lit (.bool true)], args := [d1, d2, d3] }
  | _ => none }
def placeFindsRow : OpenClaim := { program := "ytkabpflbedpbaaa", sum := "7931ef6b24f8e5fa3015cef86972bdc75f87090d251320d2530b445ee43f2851", func := "runaround/runaroundlaw11.PlaceFinds", spec := "placeFinds", inPlace := ["slices.overlaps[runaround/shelf.Shelf]"], unfollowed := true, recurses := true, apart := false }
def PlaceFindsSaid : Prop := placeFindsRow.holds Try.pinned (OpenSpec.ofChange placeFindsSpec)

/-- ITS FALSE NEIGHBOUR: 'it returns false'. Refute it at one input. -/
def placeFindsWrong : ChangeSpec := { name := "placeFinds", fn := fun _ => fun
  | [d1, d2, d3] => { results := [.lit (.bool false)], args := [d1, d2, d3] }
  | _ => none }
def PlaceFindsWrongFalsely : Prop := placeFindsRow.holds Try.pinned (OpenSpec.ofChange placeFindsWrong)

/-- 'runaroundlaw11.PlaceHighest': WHATEVER THE INPUT: true; the input reads as it did. -/
def placeHighestSpec : ChangeSpec := { name := "placeHighest", fn := fun _ => fun
  | [d1, d2] => { results := [.lit (.bool true)], args := [d1, d2] }
  | _ => none }
def placeHighestRow : OpenClaim := { program := "ytkabpflbedpbaaa", sum := "7931ef6b24f8e5fa3015cef86972bdc75f87090d251320d2530b445ee43f2851", func := "runaround/runaroundlaw11.PlaceHighest", spec := "placeHighest", inPlace := ["slices.overlaps[runaround/shelf.Shelf]"], unfollowed := true, recurses := true, apart := false }
def PlaceHighestSaid : Prop := placeHighestRow.holds Try.pinned (OpenSpec.ofChange placeHighestSpec)

/-- ITS FALSE NEIGHBOUR: 'it returns false'. Refute it at one input. -/
def placeHighestWrong : ChangeSpec := { name := "placeHighest", fn := fun _ => fun
  | [d1, d2] => { results := [.lit (.bool false)], args := [d1, d2] }
  | _ => none }
def PlaceHighestWrongFalsely : Prop := placeHighestRow.holds Try.pinned (OpenSpec.ofChange placeHighestWrong)

/-- 'runaroundlaw11.PlaceApart': WHATEVER THE INPUT: true; the input reads as it did. -/
def placeApartSpec : ChangeSpec := { name := "placeApart", fn := fun _ => fun
  | [d] => { results := [.lit (.bool true)], args := [d] }
  | _ => none }
def placeApartRow : OpenClaim := { program := "ytkabpflbedpbaaa", sum := "7931ef6b24f8e5fa3015cef86972bdc75f87090d251320d2530b445ee43f2851", func := "runaround/runaroundlaw11.PlaceApart", spec := "placeApart", inPlace := ["slices.overlaps[runaround/shelf.Shelf]"], unfollowed := true, recurses := true, apart := false }
def PlaceApartSaid : Prop := placeApartRow.holds Try.pinned (OpenSpec.ofChange placeApartSpec)

/-- ITS FALSE NEIGHBOUR: 'it returns false'. Refute it at one input. -/
def placeApartWrong : ChangeSpec := { name := "placeApart", fn := fun _ => fun
  | [d] => { results := [.lit (.bool false)], args := [d] }
  | _ => none }
def PlaceApartWrongFalsely : Prop := placeApartRow.holds Try.pinned (OpenSpec.ofChange placeApartWrong)

/-- 'runaroundlaw11.PlaceFar': WHATEVER THE INPUT: true; the input reads as it did. -/
def placeFarSpec : ChangeSpec := { name := "placeFar", fn := fun _ => fun
  | [d1, d2] => { results := [.lit (.bool true)], args := [d1, d2] }
  | _ => none }
def placeFarRow : OpenClaim := { program := "ytkabpflbedpbaaa", sum := "7931ef6b24f8e5fa3015cef86972bdc75f87090d251320d2530b445ee43f2851", func := "runaround/runaroundlaw11.PlaceFar", spec := "placeFar", inPlace := ["slices.overlaps[runaround/shelf.Shelf]"], unfollowed := true, recurses := true, apart := false }
def PlaceFarSaid : Prop := placeFarRow.holds Try.pinned (OpenSpec.ofChange placeFarSpec)

/-- ITS FALSE NEIGHBOUR: 'it returns false'. Refute it at one input. -/
def placeFarWrong : ChangeSpec := { name := "placeFar", fn := fun _ => fun
  | [d1, d2] => { results := [.lit (.bool false)], args := [d1, d2] }
  | _ => none }
def PlaceFarWrongFalsely : Prop := placeFarRow.holds Try.pinned (OpenSpec.ofChange placeFarWrong)

/-- 'runaroundlaw11.PlaceNarrow': WHATEVER THE INPUT: true; the input reads as it did. -/
def placeNarrowSpec : ChangeSpec := { name := "placeNarrow", fn := fun _ => fun
  | [d1, d2, d3, d4] => { results := [.lit (.bool true)], args := [d1, d2, d3, d4] }
  | _ => none }
def placeNarrowRow : OpenClaim := { program := "ytkabpflbedpbaaa", sum := "7931ef6b24f8e5fa3015cef86972bdc75f87090d251320d2530b445ee43f2851", func := "runaround/runaroundlaw11.PlaceNarrow", spec := "placeNarrow", inPlace := ["slices.overlaps[runaround/shelf.Shelf]"], unfollowed := true, recurses := true, apart := false }
def PlaceNarrowSaid : Prop := placeNarrowRow.holds Try.pinned (OpenSpec.ofChange placeNarrowSpec)

/-- ITS FALSE NEIGHBOUR: 'it returns false'. Refute it at one input. -/
def placeNarrowWrong : ChangeSpec := { name := "placeNarrow", fn := fun _ => fun
  | [d1, d2, d3, d4] => { results := [.lit (.bool false)], args := [d1, d2, d3, d4] }
  | _ => none }
def PlaceNarrowWrongFalsely : Prop := placeNarrowRow.holds Try.pinned (OpenSpec.ofChange placeNarrowWrong)

/-- 'runaroundlaw11.PlaceMirror': WHATEVER THE INPUT: true; the input reads as it did. -/
def placeMirrorSpec : ChangeSpec := { name := "placeMirror", fn := fun _ => fun
  | [d1, d2] => { results := [.lit (.bool true)], args := [d1, d2] }
  | _ => none }
def placeMirrorRow : OpenClaim := { program := "ytkabpflbedpbaaa", sum := "7931ef6b24f8e5fa3015cef86972bdc75f87090d251320d2530b445ee43f2851", func := "runaround/runaroundlaw11.PlaceMirror", spec := "placeMirror", inPlace := ["slices.overlaps[runaround/shelf.Shelf]"], unfollowed := true, recurses := true, apart := false }
def PlaceMirrorSaid : Prop := placeMirrorRow.holds Try.pinned (OpenSpec.ofChange placeMirrorSpec)

/-- ITS FALSE NEIGHBOUR: 'it returns false'. Refute it at one input. -/
def placeMirrorWrong : ChangeSpec := { name := "placeMirror", fn := fun _ => fun
  | [d1, d2] => { results := [.lit (.bool false)], args := [d1, d2] }
  | _ => none }
def PlaceMirrorWrongFalsely : Prop := placeMirrorRow.holds Try.pinned (OpenSpec.ofChange placeMirrorWrong)

/-- 'runaroundlaw11.PlaceTall': WHATEVER THE INPUT: true; the input reads as it did. -/
def placeTallSpec : ChangeSpec := { name := "placeTall", fn := fun _ => fun
  | [d1, d2, d3] => { results := [.lit (.bool true)], args := [d1, d2, d3] }
  | _ => none }
def placeTallRow : OpenClaim := { program := "ytkabpflbedpbaaa", sum := "7931ef6b24f8e5fa3015cef86972bdc75f87090d251320d2530b445ee43f2851", func := "runaround/runaroundlaw11.PlaceTall", spec := "placeTall", inPlace := ["slices.overlaps[runaround/shelf.Shelf]"], unfollowed := true, recurses := true, apart := false }
def PlaceTallSaid : Prop := placeTallRow.holds Try.pinned (OpenSpec.ofChange placeTallSpec)

/-- ITS FALSE NEIGHBOUR: 'it returns false'. Refute it at one input. -/
def placeTallWrong : ChangeSpec := { name := "placeTall", fn := fun _ => fun
  | [d1, d2, d3] => { results := [.lit (.bool false)], args := [d1, d2, d3] }
  | _ => none }
def PlaceTallWrongFalsely : Prop := placeTallRow.holds Try.pinned (OpenSpec.ofChange placeTallWrong)

/- THE SECOND FORM. 'bulk': how many values and letters a reading holds, each counted each time it is reached (what is shared counts as often as it is met; a slice's spare places count too). A statement '..UptoSaid' is the law's where the arguments, and the package variables that the reading takes, are together of bulk at most 1048576: NARROWER than '..Said'. Prove '..Said' where nothing that the law and all that it calls make is longer than what came in: it says more and counts as full. Else prove '..UptoSaid'. A law counts once. -/
mutual
def uptoBulk {H : Type} : DataW H → Nat
  | .lit (.string bytes) => bytes.length + 1
  | .lit _ => 1
  | .nil => 1
  | .ptr d => uptoBulk d + 1
  | .slice elems spare => uptoBulkAll elems + uptoBulkAll spare + 1
  | .agg parts => uptoBulkAll parts + 1
  | .iface _ d => uptoBulk d + 1
  | .map entries => uptoBulkEntries entries + 1
  | .held _ => 1
def uptoBulkAll {H : Type} : List (DataW H) → Nat
  | [] => 0
  | d :: r => uptoBulk d + uptoBulkAll r
def uptoBulkEntries {H : Type} : List (Lit × DataW H) → Nat
  | [] => 0
  | x :: r => uptoBulkEntry x + uptoBulkEntries r
def uptoBulkEntry {H : Type} : Lit × DataW H → Nat
  | (.string bytes, d) => bytes.length + uptoBulk d + 1
  | (_, d) => uptoBulk d + 1
 end
def uptoSmall : (H : Type) → List (DataW H) → Bool := fun _ ds => decide (uptoBulkAll ds ≤ 1048576)
def OpenSpec.upto (s : _root_.Go.ChangeSpec) : _root_.Go.OpenSpec := { _root_.Go.OpenSpec.ofChange s with cond := some uptoSmall }

/-- 'runaroundlaw11.PlaceFinds', WHERE WHAT IT READS IS OF BULK AT MOST 1048576: true; the input reads as it did. -/
def placeFindsUptoRow : OpenClaim := { program := "ytkabpflbedpbaaa", sum := "7931ef6b24f8e5fa3015cef86972bdc75f87090d251320d2530b445ee43f2851", func := "runaround/runaroundlaw11.PlaceFinds", spec := "placeFinds", inPlace := ["slices.overlaps[runaround/shelf.Shelf]"], unfollowed := true, recurses := true, apart := false, narrowed := true }
def PlaceFindsUptoSaid : Prop := placeFindsUptoRow.holds Try.pinned (OpenSpec.upto placeFindsSpec)

/-- 'runaroundlaw11.PlaceHighest', WHERE WHAT IT READS IS OF BULK AT MOST 1048576: true; the input reads as it did. -/
def placeHighestUptoRow : OpenClaim := { program := "ytkabpflbedpbaaa", sum := "7931ef6b24f8e5fa3015cef86972bdc75f87090d251320d2530b445ee43f2851", func := "runaround/runaroundlaw11.PlaceHighest", spec := "placeHighest", inPlace := ["slices.overlaps[runaround/shelf.Shelf]"], unfollowed := true, recurses := true, apart := false, narrowed := true }
def PlaceHighestUptoSaid : Prop := placeHighestUptoRow.holds Try.pinned (OpenSpec.upto placeHighestSpec)

/-- 'runaroundlaw11.PlaceApart', WHERE WHAT IT READS IS OF BULK AT MOST 1048576: true; the input reads as it did. -/
def placeApartUptoRow : OpenClaim := { program := "ytkabpflbedpbaaa", sum := "7931ef6b24f8e5fa3015cef86972bdc75f87090d251320d2530b445ee43f2851", func := "runaround/runaroundlaw11.PlaceApart", spec := "placeApart", inPlace := ["slices.overlaps[runaround/shelf.Shelf]"], unfollowed := true, recurses := true, apart := false, narrowed := true }
def PlaceApartUptoSaid : Prop := placeApartUptoRow.holds Try.pinned (OpenSpec.upto placeApartSpec)

/-- 'runaroundlaw11.PlaceFar', WHERE WHAT IT READS IS OF BULK AT MOST 1048576: true; the input reads as it did. -/
def placeFarUptoRow : OpenClaim := { program := "ytkabpflbedpbaaa", sum := "7931ef6b24f8e5fa3015cef86972bdc75f87090d251320d2530b445ee43f2851", func := "runaround/runaroundlaw11.PlaceFar", spec := "placeFar", inPlace := ["slices.overlaps[runaround/shelf.Shelf]"], unfollowed := true, recurses := true, apart := false, narrowed := true }
def PlaceFarUptoSaid : Prop := placeFarUptoRow.holds Try.pinned (OpenSpec.upto placeFarSpec)

/-- 'runaroundlaw11.PlaceNarrow', WHERE WHAT IT READS IS OF BULK AT MOST 1048576: true; the input reads as it did. -/
def placeNarrowUptoRow : OpenClaim := { program := "ytkabpflbedpbaaa", sum := "7931ef6b24f8e5fa3015cef86972bdc75f87090d251320d2530b445ee43f2851", func := "runaround/runaroundlaw11.PlaceNarrow", spec := "placeNarrow", inPlace := ["slices.overlaps[runaround/shelf.Shelf]"], unfollowed := true, recurses := true, apart := false, narrowed := true }
def PlaceNarrowUptoSaid : Prop := placeNarrowUptoRow.holds Try.pinned (OpenSpec.upto placeNarrowSpec)

/-- 'runaroundlaw11.PlaceMirror', WHERE WHAT IT READS IS OF BULK AT MOST 1048576: true; the input reads as it did. -/
def placeMirrorUptoRow : OpenClaim := { program := "ytkabpflbedpbaaa", sum := "7931ef6b24f8e5fa3015cef86972bdc75f87090d251320d2530b445ee43f2851", func := "runaround/runaroundlaw11.PlaceMirror", spec := "placeMirror", inPlace := ["slices.overlaps[runaround/shelf.Shelf]"], unfollowed := true, recurses := true, apart := false, narrowed := true }
def PlaceMirrorUptoSaid : Prop := placeMirrorUptoRow.holds Try.pinned (OpenSpec.upto placeMirrorSpec)

/-- 'runaroundlaw11.PlaceTall', WHERE WHAT IT READS IS OF BULK AT MOST 1048576: true; the input reads as it did. -/
def placeTallUptoRow : OpenClaim := { program := "ytkabpflbedpbaaa", sum := "7931ef6b24f8e5fa3015cef86972bdc75f87090d251320d2530b445ee43f2851", func := "runaround/runaroundlaw11.PlaceTall", spec := "placeTall", inPlace := ["slices.overlaps[runaround/shelf.Shelf]"], unfollowed := true, recurses := true, apart := false, narrowed := true }
def PlaceTallUptoSaid : Prop := placeTallUptoRow.holds Try.pinned (OpenSpec.upto placeTallSpec)

end Rows
end Go.Proofs.Ytkabpflbedpbaaa
