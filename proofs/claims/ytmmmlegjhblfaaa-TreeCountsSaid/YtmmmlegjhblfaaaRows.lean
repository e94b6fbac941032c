/-
  No cell of these rows narrows 'for every input' (looked for: loops, veiled, ifaces, maps, wideKeys, modest, calm, conditions, laid).
  DERIVED. THE GIVEN ROWS OF THIS SEAT. 6 by the template 'for every input the law returns true; each argument reads behind the call as it read before'; 0 by the template 'total and deterministic' (their statements: YtmmmlegjhblfaaaTotals.lean).
  GIVEN WITH THE SEED: the statements are not yours to turn. If you find one false, say at which input.
  Laid BY PROGRAM, IN A SANDBOX (cutbox-rows.mjs): the forced cells as the released guide's own fill.sh prints them over the translation 327bc7e3a64deca7… (all of the seat's roots in one cut). By AI agents, Wed Nov 11 2026. No macro, syntax, notation, axiom, sorry.
-/
import Derived.Test.YtmmmlegjhblfaaaChecked
import GoSem.Claim
import GoSem.ClaimJoined
import GoSem.ClaimMapViews
import Derived.JoinedTies
import Derived.KernelRfl
namespace Go.Proofs.Ytmmmlegjhblfaaa
/- THE CELL 'sum', in the pinned program and in every row, IS THE sha256 OF THE DUMP (.gsa) THAT YtmmmlegjhblfaaaProg.lean LOADS. Nothing in Lean hashes anything: it is a label: what it is worth is what the hold of that sum in a sandbox is worth. -/
noncomputable def Try.pinned : Pinned := { name := "ytmmmlegjhblfaaa", sum := "327bc7e3a64deca74f1d92734143e2408187646fca002be29a2481e590683904", checked := Try.checked }
namespace Rows
def none {H : Type} : Left H := { results := [], args := [] }

/-- 'runaroundlaw06.TreeBuilds': WHATEVER THE INPUT: true; the input reads as it did. -/
def treeBuildsSpec : ChangeSpec := { name := "treeBuilds", fn := fun _ => fun
  | [d] => { results := [.lit (.bool true)], args := [d] }
  | _ => none }
def treeBuildsRow : OpenClaim := { program := "ytmmmlegjhblfaaa", sum := "327bc7e3a64deca74f1d92734143e2408187646fca002be29a2481e590683904", func := "runaround/runaroundlaw06.TreeBuilds", spec := "treeBuilds", unfollowed := true, recurses := true, apart := false }
def TreeBuildsSaid : Prop := treeBuildsRow.holds Try.pinned (OpenSpec.ofChange treeBuildsSpec)

/-- ITS FALSE NEIGHBOUR: 'it returns false'. Refute it at one input. -/
def treeBuildsWrong : ChangeSpec := { name := "treeBuilds", fn := fun _ => fun
  | [d] => { results := [.lit (.bool false)], args := [d] }
  | _ => none }
def TreeBuildsWrongFalsely : Prop := treeBuildsRow.holds Try.pinned (OpenSpec.ofChange treeBuildsWrong)

/-- 'runaroundlaw06.TreeStands': WHATEVER THE INPUT: true; the input reads as it did. -/
def treeStandsSpec : ChangeSpec := { name := "treeStands", fn := fun _ => fun
  | [d1, d2] => { results := [.lit (.bool true)], args := [d1, d2] }
  | _ => none }
def treeStandsRow : OpenClaim := { program := "ytmmmlegjhblfaaa", sum := "327bc7e3a64deca74f1d92734143e2408187646fca002be29a2481e590683904", func := "runaround/runaroundlaw06.TreeStands", spec := "treeStands", unfollowed := true, recurses := true, apart := false }
def TreeStandsSaid : Prop := treeStandsRow.holds Try.pinned (OpenSpec.ofChange treeStandsSpec)

/-- ITS FALSE NEIGHBOUR: 'it returns false'. Refute it at one input. -/
def treeStandsWrong : ChangeSpec := { name := "treeStands", fn := fun _ => fun
  | [d1, d2] => { results := [.lit (.bool false)], args := [d1, d2] }
  | _ => none }
def TreeStandsWrongFalsely : Prop := treeStandsRow.holds Try.pinned (OpenSpec.ofChange treeStandsWrong)

/-- 'runaroundlaw06.TreeLaws': WHATEVER THE INPUT: true; the input reads as it did. -/
def treeLawsSpec : ChangeSpec := { name := "treeLaws", fn := fun _ => fun
  | [d] => { results := [.lit (.bool true)], args := [d] }
  | _ => none }
def treeLawsRow : OpenClaim := { program := "ytmmmlegjhblfaaa", sum := "327bc7e3a64deca74f1d92734143e2408187646fca002be29a2481e590683904", func := "runaround/runaroundlaw06.TreeLaws", spec := "treeLaws", unfollowed := true, recurses := true, apart := false }
def TreeLawsSaid : Prop := treeLawsRow.holds Try.pinned (OpenSpec.ofChange treeLawsSpec)

/-- ITS FALSE NEIGHBOUR: 'it returns false'. Refute it at one input. -/
def treeLawsWrong : ChangeSpec := { name := "treeLaws", fn := fun _ => fun
  | [d] => { results := [.lit (.bool false)], args := [d] }
  | _ => none }
def TreeLawsWrongFalsely : Prop := treeLawsRow.holds Try.pinned (OpenSpec.ofChange treeLawsWrong)

/-- 'runaroundlaw06.TreeFronts': WHATEVER THE INPUT: true; the input reads as it did. -/
def treeFrontsSpec : ChangeSpec := { name := "treeFronts", fn := fun _ => fun
  | [d1, d2] => { results := [.lit (.bool true)], args := [d1, d2] }
  | _ => none }
def treeFrontsRow : OpenClaim := { program := "ytmmmlegjhblfaaa", sum := "327bc7e3a64deca74f1d92734143e2408187646fca002be29a2481e590683904", func := "runaround/runaroundlaw06.TreeFronts", spec := "treeFronts", unfollowed := true, recurses := true, apart := false }
def TreeFrontsSaid : Prop := treeFrontsRow.holds Try.pinned (OpenSpec.ofChange treeFrontsSpec)

/-- ITS FALSE NEIGHBOUR: 'it returns false'. Refute it at one input. -/
def treeFrontsWrong : ChangeSpec := { name := "treeFronts", fn := fun _ => fun
  | [d1, d2] => { results := [.lit (.bool false)], args := [d1, d2] }
  | _ => none }
def TreeFrontsWrongFalsely : Prop := treeFrontsRow.holds Try.pinned (OpenSpec.ofChange treeFrontsWrong)

/-- 'runaroundlaw06.TreeGrafts': WHATEVER THE INPUT: true; the input reads as it did. -/
def treeGraftsSpec : ChangeSpec := { name := "treeGrafts", fn := fun _ => fun
  | [d1, d2] => { results := [.lit (.bool true)], args := [d1, d2] }
  | _ => none }
def treeGraftsRow : OpenClaim := { program := "ytmmmlegjhblfaaa", sum := "327bc7e3a64deca74f1d92734143e2408187646fca002be29a2481e590683904", func := "runaround/runaroundlaw06.TreeGrafts", spec := "treeGrafts", unfollowed := true, recurses := true, apart := false }
def TreeGraftsSaid : Prop := treeGraftsRow.holds Try.pinned (OpenSpec.ofChange treeGraftsSpec)

/-- ITS FALSE NEIGHBOUR: 'it returns false'. Refute it at one input. -/
def treeGraftsWrong : ChangeSpec := { name := "treeGrafts", fn := fun _ => fun
  | [d1, d2] => { results := [.lit (.bool false)], args := [d1, d2] }
  | _ => none }
def TreeGraftsWrongFalsely : Prop := treeGraftsRow.holds Try.pinned (OpenSpec.ofChange treeGraftsWrong)

/-- 'runaroundlaw06.TreeCounts': WHATEVER THE INPUT: true; the input reads as it did. -/
def treeCountsSpec : ChangeSpec := { name := "treeCounts", fn := fun _ => fun
  | [d] => { results := [.lit (.bool true)], args := [d] }
  | _ => none }
def treeCountsRow : OpenClaim := { program := "ytmmmlegjhblfaaa", sum := "327bc7e3a64deca74f1d92734143e2408187646fca002be29a2481e590683904", func := "runaround/runaroundlaw06.TreeCounts", spec := "treeCounts", unfollowed := true, recurses := true, apart := false }
def TreeCountsSaid : Prop := treeCountsRow.holds Try.pinned (OpenSpec.ofChange treeCountsSpec)

/-- ITS FALSE NEIGHBOUR: 'it returns false'. Refute it at one input. -/
def treeCountsWrong : ChangeSpec := { name := "treeCounts", fn := fun _ => fun
  | [d] => { results := [.lit (.bool false)], args := [d] }
  | _ => none }
def TreeCountsWrongFalsely : Prop := treeCountsRow.holds Try.pinned (OpenSpec.ofChange treeCountsWrong)

/- THE SECOND FORM. 'bulk': how many values and letters a reading holds, each counted each time it is reached (what is shared counts as often as it is met; a slice's spare places count too). A statement '..UptoSaid' is the law's where the arguments, and the package variables that the reading takes, are together of bulk at most 1048576: NARROWER than '..Said'. Prove '..Said' where nothing that the law and all that it calls make is longer than what came in: it says more and counts as full. Else prove '..UptoSaid'. A law counts once. -/
mutual
def uptoBulk {H : Type} : DataW H → Nat
  | .lit (.string bytes) => bytes.length + 1
  | .lit _ => 1
  | .nil => 1
  | .ptr d => uptoBulk d + 1
  | .slice elems spare => uptoBulkAll elems + uptoBulkAll spare + 1
  | .agg parts => uptoBulkAll parts + 1
  | .iface _ d => uptoBulk d + 1
  | .map entries => uptoBulkEntries entries + 1
  | .held _ => 1
def uptoBulkAll {H : Type} : List (DataW H) → Nat
  | [] => 0
  | d :: r => uptoBulk d + uptoBulkAll r
def uptoBulkEntries {H : Type} : List (Lit × DataW H) → Nat
  | [] => 0
  | x :: r => uptoBulkEntry x + uptoBulkEntries r
def uptoBulkEntry {H : Type} : Lit × DataW H → Nat
  | (.string bytes, d) => bytes.length + uptoBulk d + 1
  | (_, d) => uptoBulk d + 1
 end
def uptoSmall : (H : Type) → List (DataW H) → Bool := fun _ ds => decide (uptoBulkAll ds ≤ 1048576)
def OpenSpec.upto (s : _root_.Go.ChangeSpec) : _root_.Go.OpenSpec := { _root_.Go.OpenSpec.ofChange s with cond := some uptoSmall }

/-- 'runaroundlaw06.TreeBuilds', WHERE WHAT IT READS IS OF BULK AT MOST 1048576: true; the input reads as it did. -/
def treeBuildsUptoRow : OpenClaim := { program := "ytmmmlegjhblfaaa", sum := "327bc7e3a64deca74f1d92734143e2408187646fca002be29a2481e590683904", func := "runaround/runaroundlaw06.TreeBuilds", spec := "treeBuilds", unfollowed := true, recurses := true, apart := false, narrowed := true }
def TreeBuildsUptoSaid : Prop := treeBuildsUptoRow.holds Try.pinned (OpenSpec.upto treeBuildsSpec)

/-- 'runaroundlaw06.TreeStands', WHERE WHAT IT READS IS OF BULK AT MOST 1048576: true; the input reads as it did. -/
def treeStandsUptoRow : OpenClaim := { program := "ytmmmlegjhblfaaa", sum := "327bc7e3a64deca74f1d92734143e2408187646fca002be29a2481e590683904", func := "runaround/runaroundlaw06.TreeStands", spec := "treeStands", unfollowed := true, recurses := true, apart := false, narrowed := true }
def TreeStandsUptoSaid : Prop := treeStandsUptoRow.holds Try.pinned (OpenSpec.upto treeStandsSpec)

/-- 'runaroundlaw06.TreeLaws', WHERE WHAT IT READS IS OF BULK AT MOST 1048576: true; the input reads as it did. -/
def treeLawsUptoRow : OpenClaim := { program := "ytmmmlegjhblfaaa", sum := "327bc7e3a64deca74f1d92734143e2408187646fca002be29a2481e590683904", func := "runaround/runaroundlaw06.TreeLaws", spec := "treeLaws", unfollowed := true, recurses := true, apart := false, narrowed := true }
def TreeLawsUptoSaid : Prop := treeLawsUptoRow.holds Try.pinned (OpenSpec.upto treeLawsSpec)

/-- 'runaroundlaw06.TreeFronts', WHERE WHAT IT READS IS OF BULK AT MOST 1048576: true; the input reads as it did. -/
def treeFrontsUptoRow : OpenClaim := { program := "ytmmmlegjhblfaaa", sum := "327bc7e3a64deca74f1d92734143e2408187646fca002be29a2481e590683904", func := "runaround/runaroundlaw06.TreeFronts", spec := "treeFronts", unfollowed := true, recurses := true, apart := false, narrowed := true }
def TreeFrontsUptoSaid : Prop := treeFrontsUptoRow.holds Try.pinned (OpenSpec.upto treeFrontsSpec)

/-- 'runaroundlaw06.TreeGrafts', WHERE WHAT IT READS IS OF BULK AT MOST 1048576: true; the input reads as it did. -/
def treeGraftsUptoRow : OpenClaim := { program := "ytmmmlegjhblfaaa", sum := "327bc7e3a64deca74f1d92734143e2408187646fca002be29a2481e590683904", func := "runaround/runaroundlaw06.TreeGrafts", spec := "treeGrafts", unfollowed := true, recurses := true, apart := false, narrowed := true }
def TreeGraftsUptoSaid : Prop := treeGraftsUptoRow.holds Try.pinned (OpenSpec.upto treeGraftsSpec)

/-- 'runaroundlaw06.TreeCounts', WHERE WHAT IT READS IS OF BULK AT MOST 1048576: true; the input reads as it did. -/
def treeCountsUptoRow : OpenClaim := { program := "ytmmmlegjhblfaaa", sum := "327bc7e3a64deca74f1d92734143e2408187646fca002be29a2481e590683904", func := "runaround/runaroundlaw06.TreeCounts", spec := "treeCounts", unfollowed := true, recurses := true, apart := false, narrowed := true }
def TreeCountsUptoSaid : Prop := treeCountsUptoRow.holds Try.pinned (OpenSpec.upto treeCountsSpec)

end Rows
end Go.Proofs.Ytmmmlegjhblfaaa
