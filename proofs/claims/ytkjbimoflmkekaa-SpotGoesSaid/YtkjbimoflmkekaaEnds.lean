/- How the laws end; what comes in. -/
import Derived.Test.YtkjbimoflmkekaaLib
import Derived.ProofKit
import Derived.OpenShut
import Derived.Carry
namespace Go.Proofs.Ytkjbimoflmkekaa
open Go.RowKit

section
open Go.ChangeShapes Go.WideShapes Go.ChangeAt
variable {H : Type} {enc : TypeId × Value → H} {P : Program}

/-- The end of a call that leaves all old memory as it was, and may lay what it likes behind it. -/
theorem ends_low {f : Func} {s : ChangeSpec} {apart fresh handsOn again : Bool} {W V : World} {args : Array Value} {v : Value} {ds gs : List (DataW H)} {places pa pv : List MemPlace}
    (whole : DataW.Whole enc P f.params.toList s.vars apart W args.toList ds gs places)
    (results : ∀ (b : Nat) (sp : Nat → Bool) (hd : Bool), DataW.TrodAll enc P V b sp hd f.resultTypes.toList (v.resultList f.resultTypes.size) (s.fn H (ds ++ gs)).results [])
    (arguments : ∀ sp : Nat → Bool, (∀ p ∈ places, sp p.block = true) → DataW.TrodAll enc P V 0 sp true f.params.toList args.toList (s.fn H (ds ++ gs)).args pa)
    (variables : ∀ sp : Nat → Bool, (∀ p ∈ places, sp p.block = true) → DataW.TrodVars enc P V sp s.vars (s.fn H (ds ++ gs)).vars pv)
    (parts : places = pa ++ pv) (low : Below W.heap.size W V)
    (forms : ∀ (j : Nat) (t : TypeId) (r : Value), f.resultTypes[j]? = some t → (v.resultList f.resultTypes.size)[j]? = some r → Value.okWide P V .any 0 t r) :
    s.post enc P f apart fresh handsOn again W args v V := by
  have old : ∀ p ∈ places, p.block < W.heap.size := fun p h => whole.lt p h
  have mark : ∀ p ∈ places, (fun b => decide (b < W.heap.size)) p.block = true := fun p h => by simpa using old p h
  subst parts
  obtain ⟨_, _, _, _, _, thawed, once⟩ := id whole
  refine ⟨ds, gs, pa ++ pv, [], pa, pv, whole, results _ _ _, arguments _ mark, variables _ mark, ?_, fun _ => ⟨forms, _, _, ([] ++ pa) ++ pv, ⟨[] ++ pa, pv, trodAll_append (arguments _ (fun _ _ => rfl)) (results _ _ _), variables _ (fun _ _ => rfl), rfl, ?_, ?_⟩, ?_⟩⟩
  · exact World.keptBut_mono (fun p h => ⟨h, Or.inr (List.mem_append.1 h)⟩) (low.frame (· ∈ pa ++ pv))
  · intro b off h
    have h' : MemPlace.cell b off ∈ pa ++ pv := by simpa using h
    rw [low.frozen (old _ h')]
    exact thawed b off h'
  · intro h
    simpa using once h
  · intro p h _
    simpa using h
end


section
open Go.ChangeShapes Go.WideShapes Go.ChangeAt

theorem own : ownKnob Try.prog.godebug = none := by kernel_rfl
theorem laidOut : laidOutB Try.prog = true := by kernel_rfl
theorem cells3 : Try.prog.cellsOf 3 = 1 := by kernel_rfl

/-- A slice of numbers that came in. -/
theorem open_nums {H : Type} {enc : TypeId × Value → H} {W : World} {v : Value} {d : DataW H} {ps : List MemPlace} (hv : ∃ a len cap, v = .slice a len cap)
    (h : DataW.Trod enc Try.prog W 0 (fun _ => true) true 28 v d ps) :
    ∃ A len cap xs, v = .slice A len cap ∧ len = xs.length ∧ len ≤ 9223372036854775807 ∧ Nums W W.heap.size A xs ∧ (∀ n ∈ xs, -9223372036854775808 ≤ n ∧ n ≤ 9223372036854775807) := by
  obtain ⟨a0, len, cap, rfl⟩ := hv
  obtain ⟨fuel, hf⟩ := h
  rcases open_ints Try.underlying28 Try.underlying3 cells3 hf with ⟨hcs, hx⟩ | ⟨a, len', cap', zs, hcs, _, hl, hm, hz, hx, hcell, hwz⟩
  · simp [Value.cells] at hcs
    obtain ⟨rfl, rfl, rfl⟩ := hcs
    exact ⟨none, 0, 0, [], rfl, rfl, by omega, fun k hk => by simp at hk, fun n hn => by simp at hn⟩
  · simp [Value.cells] at hcs
    obtain ⟨rfl, rfl, rfl⟩ := hcs
    simp only [if_true] at hz
    unfold maxLen at hm
    refine ⟨some a, len, cap, zs.take len, rfl, by rw [List.length_take]; omega, by omega, fun k hk => ?_, fun n hn => ?_⟩
    · rw [List.length_take] at hk
      have hc := hcell k (by omega)
      have hb := World.block_lt_of_cell? _ _ hc
      rw [block_of_add] at hb
      refine ⟨a, rfl, hb, ?_⟩
      rw [hc]
      simp only [List.getD, List.getElem?_take]
      rw [if_pos (by omega)]
    · have := hwz n (List.mem_of_mem_take hn)
      simpa [Lit.wf, IntKind.min, IntKind.max, IntKind.signed, IntKind.bits] using this

theorem bounds {a : Int} (w : (Lit.int .i64 a).wf = true) : -9223372036854775808 ≤ a ∧ a ≤ 9223372036854775807 := by
  simpa [Lit.wf, IntKind.min, IntKind.max, IntKind.signed, IntKind.bits] using w

theorem bounds8 {a : Int} (w : (Lit.int .u8 a).wf = true) : 0 ≤ a ∧ a ≤ 255 := by
  simpa [Lit.wf, IntKind.min, IntKind.max, IntKind.signed, IntKind.bits] using w
end

end Go.Proofs.Ytkjbimoflmkekaa
