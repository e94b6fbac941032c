/- The law of Hold, of a region all of whose operations may come in whichever order: there is no tail. -/
import Derived.Test.YtkjbimoflmkekaaMoreHold
namespace Go.Proofs.Ytkjbimoflmkekaa.More
open Go.RowKit Go.Sort Go.Proofs.Ytkjbimoflmkekaa.More.Hold

namespace HoldAll

variable {P : Program} {l : List Oper} {ys : List Leave} {a0 : Act} {W : World}

theorem listed_all {listed : Array Bool} (h : unlisted listed = 0) {i : Nat} (hi : i < listed.size) : listed.getD i false = true := by
  have h0 : listed.toList.countP (fun b => !b) = 0 := by unfold unlisted at h; simpa using h
  have := List.countP_eq_zero.1 h0 listed[i] (by simp)
  simpa [hi] using this

/-- A region that draws its order, without a tail. -/
theorem wp_region_hold_all {id : Nat} {Q : Exit → Act → World → Prop} (ys : List Leave) (hm : P.follows .mixedOrders = true)
    (hB : (Region.noSelect l.toArray && decide (ys.length = l.length) && headB l ys.length a0.tmps.size) = true)
    (hgd : guardsB l ys ys = true)
    (hall : allLeave P (fun g => fill g 0 l ys a0) ys W l ys)
    (hend : ∀ (g : Nat → Value) (w' : World), Below W.heap.size W w' → (∀ (i : Nat) R, ys[i]? = some (.some R) → R w' (g i)) → Q .normal (fill g 0 l ys a0) w') :
    (Code.region id l.toArray true).wp P Q a0 W := by
  simp only [Bool.and_eq_true, decide_eq_true_eq] at hB
  obtain ⟨⟨hsel, hn⟩, hhead⟩ := hB
  have ok := headOk hhead
  refine wp_region_any hm ?_
  have key : ∀ (f : Nat) (listed : Array Bool) (a : Act) (w : World) (g : Nat → Value), listed.size = l.length → unlisted listed = f → Telling l ys a0 W g listed a w → wpAny P .any l.toArray Q f listed a w := by
    intro f
    induction f with
    | zero =>
      intro listed a w g hsz hu hb
      have hall' : ∀ i, i < ys.length → listed.getD i false = true := fun i hi => listed_all hu (by omega)
      refine wpAny_done ?_ ?_ 0
      · refine List.eq_nil_iff_forall_not_mem.2 fun i hi => ?_
        obtain ⟨hun, o, ho, -⟩ := mem_ready.1 hi
        have ho' : l[i]? = some o := by simpa using ho
        have hil := (List.getElem?_eq_some_iff.1 ho').1
        have := hall' i (by omega)
        rw [getD_both hun] at this
        cases this
      · rw [hb.full ok hall']
        exact hend g w hb.below (fun i R hi => hb.held i R hi (hall' i (List.getElem?_eq_some_iff.1 hi).1))
    | succ f ih =>
      intro listed a w g hsz hu hb
      have hex : ∃ i, i < ys.length ∧ listed.getD i false = false := by
        refine Classical.byContradiction fun hno => ?_
        have h0 : listed.toList.countP (fun b => !b) = 0 := by
          rw [List.countP_eq_zero]
          intro b hb'
          obtain ⟨k, hk, rfl⟩ := List.getElem_of_mem hb'
          have hk2 : k < listed.size := by simpa using hk
          cases h : listed.getD k false with
          | true => simpa [hk2] using h
          | false => exact absurd ⟨k, by omega, h⟩ hno
        unfold unlisted at hu
        rw [h0] at hu
        cases hu
      have hleast : ∀ m : Nat, (∃ i, i < m ∧ i < ys.length ∧ listed.getD i false = false) → ∃ i, i < ys.length ∧ listed.getD i false = false ∧ ∀ j, j < i → listed.getD j false = true := by
        intro m
        induction m with
        | zero => rintro ⟨i, hi, _⟩; omega
        | succ m ih2 =>
          rintro ⟨i, hi, hiy, hil⟩
          by_cases hsm : ∃ j, j < m ∧ j < ys.length ∧ listed.getD j false = false
          · exact ih2 hsm
          · refine ⟨i, hiy, hil, fun j hj => ?_⟩
            cases h : listed.getD j false with
            | true => rfl
            | false => exact absurd ⟨j, by omega, by omega, h⟩ hsm
      obtain ⟨i, hi, hil, hlt⟩ := hleast ys.length (by obtain ⟨i, h1, h2⟩ := hex; exact ⟨i, h1, h1, h2⟩)
      have hready : i ∈ Region.ready .any l.toArray listed := by
        obtain ⟨o, ho⟩ := ok.there i hi
        exact mem_ready.2 ⟨getD_in (by omega) hil, o, by simpa using ho, fun e he hbd => hlt _ (ok.back i o hi ho e he hbd)⟩
      refine ⟨fun h0 => (by rw [h0] at hready; cases hready), fun j hj => ?_⟩
      have hjn : j < ys.length := by
        obtain ⟨-, o, ho, -⟩ := mem_ready.1 hj
        have ho' : l[j]? = some o := by simpa using ho
        have := (List.getElem?_eq_some_iff.1 ho').1
        omega
      refine wpOp_mono (fun a' w' ⟨g', hb'⟩ => ih _ a' w' g' (by simp [hsz]) ?_ hb') (hb.step ok hsel hgd hall (by simpa using hsz) hjn hj)
      have := unlisted_set (mem_ready.1 hj).1
      omega
  have hu : unlisted (Array.replicate l.toArray.size false) = l.toArray.size := by
    unfold unlisted
    rw [Array.toList_replicate, List.countP_replicate]
    simp
  exact key l.toArray.size _ a0 { W with drawn := W.drawn + 1 } (fun _ => undef) (by simp) hu
    ⟨rfl, rfl, ⟨rfl, rfl, rfl, Nat.le_refl _, fun _ _ => rfl⟩, fun _ _ => rfl, fun i o y d _ _ hl => (by rw [getD_replicate_false] at hl; cases hl), fun i R _ hl => (by rw [getD_replicate_false] at hl; cases hl)⟩

end HoldAll

end Go.Proofs.Ytkjbimoflmkekaa.More
