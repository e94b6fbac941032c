/-
  No cell of these rows narrows 'for every input' (looked for: loops, veiled, ifaces, maps, wideKeys, modest, calm, conditions, laid).
  DERIVED. THE GIVEN ROWS OF THIS SEAT. 3 by the template 'for every input the law returns true; each argument reads behind the call as it read before'; 0 by the template 'total and deterministic' (their statements: YtfomhdhiibcdfaaTotals.lean).
  GIVEN WITH THE SEED: the statements are not yours to turn. If you find one false, say at which input.
  Laid BY PROGRAM, IN A SANDBOX (cutbox-rows.mjs): the forced cells as the released guide's own fill.sh prints them over the translation 15e1fd28c2938404… (all of the seat's roots in one cut). By AI agents, Wed Nov 11 2026. No macro, syntax, notation, axiom, sorry.
-/
import Derived.Test.YtfomhdhiibcdfaaChecked
import GoSem.Claim
import GoSem.ClaimJoined
import GoSem.ClaimMapViews
import Derived.JoinedTies
import Derived.KernelRfl
namespace Go.Proofs.Ytfomhdhiibcdfaa
/- THE CELL 'sum', in the pinned program and in every row, IS THE sha256 OF THE DUMP (.gsa) THAT YtfomhdhiibcdfaaProg.lean LOADS. Nothing in Lean hashes anything: it is a label: what it is worth is what the hold of that sum in a sandbox is worth. -/
noncomputable def Try.pinned : Pinned := { name := "ytfomhdhiibcdfaa", sum := "15e1fd28c293840441f7685cb9de737ffcd205022292c74912f1032bcdd8eace", checked := Try.checked }
namespace Rows
def none {H : Type} : Left H := { results := [], args := [] }

/-- 'runaroundlaw16.AheadClears': WHATEVER THE INPUT: true; the input reads as it did. -/
def aheadClearsSpec : ChangeSpec := { name := "aheadClears", fn := fun _ => fun
  | [d1, d2] => { results := [.lit (.bool true)], args := [d1, d2] }
  | _ => none }
def aheadClearsRow : OpenClaim := { program := "ytfomhdhiibcdfaa", sum := "15e1fd28c293840441f7685cb9de737ffcd205022292c74912f1032bcdd8eace", func := "runaround/runaroundlaw16.AheadClears", spec := "aheadClears", unfollowed := true, recurses := true, apart := false }
def AheadClearsSaid : Prop := aheadClearsRow.holds Try.pinned (OpenSpec.ofChange aheadClearsSpec)

/-- ITS FALSE NEIGHBOUR: 'it returns false'. Refute it at one input. -/
def aheadClearsWrong : ChangeSpec := { name := "aheadClears", fn := fun _ => fun
  | [d1, d2] => { results := [.lit (.bool false)], args := [d1, d2] }
  | _ => none }
def AheadClearsWrongFalsely : Prop := aheadClearsRow.holds Try.pinned (OpenSpec.ofChange aheadClearsWrong)

/-- 'runaroundlaw16.AheadPast': WHATEVER THE INPUT: true; the input reads as it did. -/
def aheadPastSpec : ChangeSpec := { name := "aheadPast", fn := fun _ => fun
  | [d1, d2, d3, d4] => { results := [.lit (.bool true)], args := [d1, d2, d3, d4] }
  | _ => none }
def aheadPastRow : OpenClaim := { program := "ytfomhdhiibcdfaa", sum := "15e1fd28c293840441f7685cb9de737ffcd205022292c74912f1032bcdd8eace", func := "runaround/runaroundlaw16.AheadPast", spec := "aheadPast", inPlace := ["slices.overlaps[runaround/shelf.Shelf]"], unfollowed := true, recurses := true, apart := false }
def AheadPastSaid : Prop := aheadPastRow.holds Try.pinned (OpenSpec.ofChange aheadPastSpec)

/-- ITS FALSE NEIGHBOUR: 'it returns false'. Refute it at one input. -/
def aheadPastWrong : ChangeSpec := { name := "aheadPast", fn := fun _ => fun
  | [d1, d2, d3, d4] => { results := [.lit (.bool false)], args := [d1, d2, d3, d4] }
  | _ => none }
def AheadPastWrongFalsely : Prop := aheadPastRow.holds Try.pinned (OpenSpec.ofChange aheadPastWrong)

/-- 'runaroundlaw16.AheadChain': WHATEVER THE INPUT: true; the input reads as it did. -/
def aheadChainSpec : ChangeSpec := { name := "aheadChain", fn := fun _ => fun
  | [d1, d2, d3] => { results := [.lit (.bool true)], args := [d1, d2, d3] }
  | _ => none }
def aheadChainRow : OpenClaim := { program := "ytfomhdhiibcdfaa", sum := "15e1fd28c293840441f7685cb9de737ffcd205022292c74912f1032bcdd8eace", func := "runaround/runaroundlaw16.AheadChain", spec := "aheadChain", inPlace := ["slices.overlaps[runaround/shelf.Shelf]"], unfollowed := true, recurses := true, apart := false }
def AheadChainSaid : Prop := aheadChainRow.holds Try.pinned (OpenSpec.ofChange aheadChainSpec)

/-- ITS FALSE NEIGHBOUR: 'it returns false'. Refute it at one input. -/
def aheadChainWrong : ChangeSpec := { name := "aheadChain", fn := fun _ => fun
  | [d1, d2, d3] => { results := [.lit (.bool false)], args := [d1, d2, d3] }
  | _ => none }
def AheadChainWrongFalsely : Prop := aheadChainRow.holds Try.pinned (OpenSpec.ofChange aheadChainWrong)

/- THE SECOND FORM. 'bulk': how many values and letters a reading holds, each counted each time it is reached (what is shared counts as often as it is met; a slice's spare places count too). A statement '..UptoSaid' is the law's where the arguments, and the package variables that the reading takes, are together of bulk at most 1048576: NARROWER than '..Said'. Prove '..Said' where nothing that the law and all that it calls make is longer than what came in: it says more and counts as full. Else prove '..UptoSaid'. A law counts once. -/
mutual
def uptoBulk {H : Type} : DataW H → Nat
  | .lit (.string bytes) => bytes.length + 1
  | .lit _ => 1
  | .nil => 1
  | .ptr d => uptoBulk d + 1
  | .slice elems spare => uptoBulkAll elems + uptoBulkAll spare + 1
  | .agg parts => uptoBulkAll parts + 1
  | .iface _ d => uptoBulk d + 1
  | .map entries => uptoBulkEntries entries + 1
  | .held _ => 1
def uptoBulkAll {H : Type} : List (DataW H) → Nat
  | [] => 0
  | d :: r => uptoBulk d + uptoBulkAll r
def uptoBulkEntries {H : Type} : List (Lit × DataW H) → Nat
  | [] => 0
  | x :: r => uptoBulkEntry x + uptoBulkEntries r
def uptoBulkEntry {H : Type} : Lit × DataW H → Nat
  | (.string bytes, d) => bytes.length + uptoBulk d + 1
  | (_, d) => uptoBulk d + 1
 end
def uptoSmall : (H : Type) → List (DataW H) → Bool := fun _ ds => decide (uptoBulkAll ds ≤ 1048576)
def OpenSpec.upto (s : _root_.Go.ChangeSpec) : _root_.Go.OpenSpec := { _root_.Go.OpenSpec.ofChange s with cond := some uptoSmall }

/-- 'runaroundlaw16.AheadClears', WHERE WHAT IT READS IS OF BULK AT MOST 1048576: true; the input reads as it did. -/
def aheadClearsUptoRow : OpenClaim := { program := "ytfomhdhiibcdfaa", sum := "15e1fd28c293840441f7685cb9de737ffcd205022292c74912f1032bcdd8eace", func := "runaround/runaroundlaw16.AheadClears", spec := "aheadClears", unfollowed := true, recurses := true, apart := false, narrowed := true }
def AheadClearsUptoSaid : Prop := aheadClearsUptoRow.holds Try.pinned (OpenSpec.upto aheadClearsSpec)

/-- 'runaroundlaw16.AheadPast', WHERE WHAT IT READS IS OF BULK AT MOST 1048576: true; the input reads as it did. -/
def aheadPastUptoRow : OpenClaim := { program := "ytfomhdhiibcdfaa", sum := "15e1fd28c293840441f7685cb9de737ffcd205022292c74912f1032bcdd8eace", func := "runaround/runaroundlaw16.AheadPast", spec := "aheadPast", inPlace := ["slices.overlaps[runaround/shelf.Shelf]"], unfollowed := true, recurses := true, apart := false, narrowed := true }
def AheadPastUptoSaid : Prop := aheadPastUptoRow.holds Try.pinned (OpenSpec.upto aheadPastSpec)

/-- 'runaroundlaw16.AheadChain', WHERE WHAT IT READS IS OF BULK AT MOST 1048576: true; the input reads as it did. -/
def aheadChainUptoRow : OpenClaim := { program := "ytfomhdhiibcdfaa", sum := "15e1fd28c293840441f7685cb9de737ffcd205022292c74912f1032bcdd8eace", func := "runaround/runaroundlaw16.AheadChain", spec := "aheadChain", inPlace := ["slices.overlaps[runaround/shelf.Shelf]"], unfollowed := true, recurses := true, apart := false, narrowed := true }
def AheadChainUptoSaid : Prop := aheadChainUptoRow.holds Try.pinned (OpenSpec.upto aheadChainSpec)

end Rows
end Go.Proofs.Ytfomhdhiibcdfaa
