/-
  No cell of these rows narrows 'for every input' (looked for: loops, veiled, ifaces, maps, wideKeys, modest, calm, conditions, laid).
  DERIVED. THE GIVEN ROWS OF THIS SEAT. 5 by the template 'for every input the law returns true; each argument reads behind the call as it read before'; 0 by the template 'total and deterministic' (their statements: YtfiagopmolegjaaTotals.lean).
  GIVEN WITH THE SEED: the statements are not yours to turn. If you find one false, say at which input.
  Laid BY PROGRAM, IN A SANDBOX (cutbox-rows.mjs): the forced cells as the released guide's own fill.sh prints them over the translation 03910f9e02c65c5f… (all of the seat's roots in one cut). By AI agents, Wed Nov 11 2026. No macro, syntax, notation, axiom, sorry.
-/
import Derived.Test.YtfiagopmolegjaaChecked
import GoSem.Claim
import GoSem.ClaimJoined
import GoSem.ClaimMapViews
import Derived.JoinedTies
import Derived.KernelRfl
namespace Go.Proofs.Ytfiagopmolegjaa
/- THE CELL 'sum', in the pinned program and in every row, IS THE sha256 OF THE DUMP (.gsa) THAT YtfiagopmolegjaaProg.lean LOADS. Nothing in Lean hashes anything: it is a label: what it is worth is what the hold of that sum in a sandbox is worth. -/
noncomputable def Try.pinned : Pinned := { name := "ytfiagopmolegjaa", sum := "03910f9e02c65c5f185642f7b8ef015dc621de12b7ee7f3fa919260d7104053e", checked := Try.checked }
namespace Rows
def none {H : Type} : Left H := { results := [], args := [] }

/-- 'runaroundlaw03.StrutTells': WHATEVER THE INPUT: true; the input reads as it did. -/
def strutTellsSpec : ChangeSpec := { name := "strutTells", fn := fun _ => fun
  | [d] => { results := [.lit (.bool true)], args := [d] }
  | _ => none }
def strutTellsRow : OpenClaim := { program := "ytfiagopmolegjaa", sum := "03910f9e02c65c5f185642f7b8ef015dc621de12b7ee7f3fa919260d7104053e", func := "runaround/runaroundlaw03.StrutTells", spec := "strutTells", apart := false }
def StrutTellsSaid : Prop := strutTellsRow.holds Try.pinned (OpenSpec.ofChange strutTellsSpec)

/-- ITS FALSE NEIGHBOUR: 'it returns false'. Refute it at one input. -/
def strutTellsWrong : ChangeSpec := { name := "strutTells", fn := fun _ => fun
  | [d] => { results := [.lit (.bool false)], args := [d] }
  | _ => none }
def StrutTellsWrongFalsely : Prop := strutTellsRow.holds Try.pinned (OpenSpec.ofChange strutTellsWrong)

/-- 'runaroundlaw03.StrutJoins': WHATEVER THE INPUT: true; the input reads as it did. -/
def strutJoinsSpec : ChangeSpec := { name := "strutJoins", fn := fun _ => fun
  | [d1, d2, d3] => { results := [.lit (.bool true)], args := [d1, d2, d3] }
  | _ => none }
def strutJoinsRow : OpenClaim := { program := "ytfiagopmolegjaa", sum := "03910f9e02c65c5f185642f7b8ef015dc621de12b7ee7f3fa919260d7104053e", func := "runaround/runaroundlaw03.StrutJoins", spec := "strutJoins", apart := false }
def StrutJoinsSaid : Prop := strutJoinsRow.holds Try.pinned (OpenSpec.ofChange strutJoinsSpec)

/-- ITS FALSE NEIGHBOUR: 'it returns false'. Refute it at one input. -/
def strutJoinsWrong : ChangeSpec := { name := "strutJoins", fn := fun _ => fun
  | [d1, d2, d3] => { results := [.lit (.bool false)], args := [d1, d2, d3] }
  | _ => none }
def StrutJoinsWrongFalsely : Prop := strutJoinsRow.holds Try.pinned (OpenSpec.ofChange strutJoinsWrong)

/-- 'runaroundlaw03.StrutRaw': WHATEVER THE INPUT: true; the input reads as it did. -/
def strutRawSpec : ChangeSpec := { name := "strutRaw", fn := fun _ => fun
  | [d1, d2, d3] => { results := [.lit (.bool true)], args := [d1, d2, d3] }
  | _ => none }
def strutRawRow : OpenClaim := { program := "ytfiagopmolegjaa", sum := "03910f9e02c65c5f185642f7b8ef015dc621de12b7ee7f3fa919260d7104053e", func := "runaround/runaroundlaw03.StrutRaw", spec := "strutRaw", apart := false }
def StrutRawSaid : Prop := strutRawRow.holds Try.pinned (OpenSpec.ofChange strutRawSpec)

/-- ITS FALSE NEIGHBOUR: 'it returns false'. Refute it at one input. -/
def strutRawWrong : ChangeSpec := { name := "strutRaw", fn := fun _ => fun
  | [d1, d2, d3] => { results := [.lit (.bool false)], args := [d1, d2, d3] }
  | _ => none }
def StrutRawWrongFalsely : Prop := strutRawRow.holds Try.pinned (OpenSpec.ofChange strutRawWrong)

/-- 'runaroundlaw03.StrutBounds': WHATEVER THE INPUT: true; the input reads as it did. -/
def strutBoundsSpec : ChangeSpec := { name := "strutBounds", fn := fun _ => fun
  | [d] => { results := [.lit (.bool true)], args := [d] }
  | _ => none }
def strutBoundsRow : OpenClaim := { program := "ytfiagopmolegjaa", sum := "03910f9e02c65c5f185642f7b8ef015dc621de12b7ee7f3fa919260d7104053e", func := "runaround/runaroundlaw03.StrutBounds", spec := "strutBounds", apart := false }
def StrutBoundsSaid : Prop := strutBoundsRow.holds Try.pinned (OpenSpec.ofChange strutBoundsSpec)

/-- ITS FALSE NEIGHBOUR: 'it returns false'. Refute it at one input. -/
def strutBoundsWrong : ChangeSpec := { name := "strutBounds", fn := fun _ => fun
  | [d] => { results := [.lit (.bool false)], args := [d] }
  | _ => none }
def StrutBoundsWrongFalsely : Prop := strutBoundsRow.holds Try.pinned (OpenSpec.ofChange strutBoundsWrong)

/-- 'runaroundlaw03.StrutOne': WHATEVER THE INPUT: true; the input reads as it did. -/
def strutOneSpec : ChangeSpec := { name := "strutOne", fn := fun _ => fun
  | [d1, d2] => { results := [.lit (.bool true)], args := [d1, d2] }
  | _ => none }
def strutOneRow : OpenClaim := { program := "ytfiagopmolegjaa", sum := "03910f9e02c65c5f185642f7b8ef015dc621de12b7ee7f3fa919260d7104053e", func := "runaround/runaroundlaw03.StrutOne", spec := "strutOne", apart := false }
def StrutOneSaid : Prop := strutOneRow.holds Try.pinned (OpenSpec.ofChange strutOneSpec)

/-- ITS FALSE NEIGHBOUR: 'it returns false'. Refute it at one input. -/
def strutOneWrong : ChangeSpec := { name := "strutOne", fn := fun _ => fun
  | [d1, d2] => { results := [.lit (.bool false)], args := [d1, d2] }
  | _ => none }
def StrutOneWrongFalsely : Prop := strutOneRow.holds Try.pinned (OpenSpec.ofChange strutOneWrong)

/- THE SECOND FORM. 'bulk': how many values and letters a reading holds, each counted each time it is reached (what is shared counts as often as it is met; a slice's spare places count too). A statement '..UptoSaid' is the law's where the arguments, and the package variables that the reading takes, are together of bulk at most 1048576: NARROWER than '..Said'. Prove '..Said' where nothing that the law and all that it calls make is longer than what came in: it says more and counts as full. Else prove '..UptoSaid'. A law counts once. -/
mutual
def uptoBulk {H : Type} : DataW H → Nat
  | .lit (.string bytes) => bytes.length + 1
  | .lit _ => 1
  | .nil => 1
  | .ptr d => uptoBulk d + 1
  | .slice elems spare => uptoBulkAll elems + uptoBulkAll spare + 1
  | .agg parts => uptoBulkAll parts + 1
  | .iface _ d => uptoBulk d + 1
  | .map entries => uptoBulkEntries entries + 1
  | .held _ => 1
def uptoBulkAll {H : Type} : List (DataW H) → Nat
  | [] => 0
  | d :: r => uptoBulk d + uptoBulkAll r
def uptoBulkEntries {H : Type} : List (Lit × DataW H) → Nat
  | [] => 0
  | x :: r => uptoBulkEntry x + uptoBulkEntries r
def uptoBulkEntry {H : Type} : Lit × DataW H → Nat
  | (.string bytes, d) => bytes.length + uptoBulk d + 1
  | (_, d) => uptoBulk d + 1
 end
def uptoSmall : (H : Type) → List (DataW H) → Bool := fun _ ds => decide (uptoBulkAll ds ≤ 1048576)
def OpenSpec.upto (s : _root_.Go.ChangeSpec) : _root_.Go.OpenSpec := { _root_.Go.OpenSpec.ofChange s with cond := some uptoSmall }

/-- 'runaroundlaw03.StrutTells', WHERE WHAT IT READS IS OF BULK AT MOST 1048576: true; the input reads as it did. -/
def strutTellsUptoRow : OpenClaim := { program := "ytfiagopmolegjaa", sum := "03910f9e02c65c5f185642f7b8ef015dc621de12b7ee7f3fa919260d7104053e", func := "runaround/runaroundlaw03.StrutTells", spec := "strutTells", apart := false, narrowed := true }
def StrutTellsUptoSaid : Prop := strutTellsUptoRow.holds Try.pinned (OpenSpec.upto strutTellsSpec)

/-- 'runaroundlaw03.StrutJoins', WHERE WHAT IT READS IS OF BULK AT MOST 1048576: true; the input reads as it did. -/
def strutJoinsUptoRow : OpenClaim := { program := "ytfiagopmolegjaa", sum := "03910f9e02c65c5f185642f7b8ef015dc621de12b7ee7f3fa919260d7104053e", func := "runaround/runaroundlaw03.StrutJoins", spec := "strutJoins", apart := false, narrowed := true }
def StrutJoinsUptoSaid : Prop := strutJoinsUptoRow.holds Try.pinned (OpenSpec.upto strutJoinsSpec)

/-- 'runaroundlaw03.StrutRaw', WHERE WHAT IT READS IS OF BULK AT MOST 1048576: true; the input reads as it did. -/
def strutRawUptoRow : OpenClaim := { program := "ytfiagopmolegjaa", sum := "03910f9e02c65c5f185642f7b8ef015dc621de12b7ee7f3fa919260d7104053e", func := "runaround/runaroundlaw03.StrutRaw", spec := "strutRaw", apart := false, narrowed := true }
def StrutRawUptoSaid : Prop := strutRawUptoRow.holds Try.pinned (OpenSpec.upto strutRawSpec)

/-- 'runaroundlaw03.StrutBounds', WHERE WHAT IT READS IS OF BULK AT MOST 1048576: true; the input reads as it did. -/
def strutBoundsUptoRow : OpenClaim := { program := "ytfiagopmolegjaa", sum := "03910f9e02c65c5f185642f7b8ef015dc621de12b7ee7f3fa919260d7104053e", func := "runaround/runaroundlaw03.StrutBounds", spec := "strutBounds", apart := false, narrowed := true }
def StrutBoundsUptoSaid : Prop := strutBoundsUptoRow.holds Try.pinned (OpenSpec.upto strutBoundsSpec)

/-- 'runaroundlaw03.StrutOne', WHERE WHAT IT READS IS OF BULK AT MOST 1048576: true; the input reads as it did. -/
def strutOneUptoRow : OpenClaim := { program := "ytfiagopmolegjaa", sum := "03910f9e02c65c5f185642f7b8ef015dc621de12b7ee7f3fa919260d7104053e", func := "runaround/runaroundlaw03.StrutOne", spec := "strutOne", apart := false, narrowed := true }
def StrutOneUptoSaid : Prop := strutOneUptoRow.holds Try.pinned (OpenSpec.upto strutOneSpec)

end Rows
end Go.Proofs.Ytfiagopmolegjaa
