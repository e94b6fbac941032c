/- The law of Told once more, for a region whose first operation only looks at a slot, and may come up as late as it likes: it is taken first. -/
import Derived.Test.YtpfcefflcmeobaaTold
namespace Go.Proofs.Ytpfcefflcmeobaa.More
open Go.RowKit Go.Sort Go.Proofs.Ytpfcefflcmeobaa.Told

def sink1 (md : Region.Mode) (ops : Array Oper) (n : Nat) : Bool :=
  (List.range n).all fun i => decide (i = 0) || (List.range (n + 1)).any fun j => decide (i < j) && Region.waitsFor md ops j i

/-- While one of the head but the first has not come up, nothing of the tail may. -/
theorem tail_waits1 {ops : Array Oper} {md : Region.Mode} {n : Nat} {listed : Array Bool} (hs : sink1 md ops n = true) (hc : Region.chainB md ops n = true) (hn : n < ops.size) (inv : HeadInv md ops n listed) :
    ∀ (d i : Nat), n - i = d → i < n → i ≠ 0 → listed.getD i true = false → ∀ t, n ≤ t → t ∉ Region.ready md ops listed := by
  -- who waits for one that has not come up is neither ready nor has it come up
  have late : ∀ j i, Region.waitsFor md ops j i = true → listed.getD i true = false → j ∉ Region.ready md ops listed ∧ listed.getD j false = false := by
    intro j i hw hi
    obtain ⟨oj, hj, e, he, hb, rfl⟩ := Region.waitsFor_spec hw
    have hi' := getD_both hi
    refine ⟨fun hr => ?_, ?_⟩
    · obtain ⟨-, o, ho, hall⟩ := mem_ready.1 hr
      obtain rfl : oj = o := Option.some.inj (hj.symm.trans ho)
      exact absurd (hall e he hb) (by simp [hi'])
    · cases hl : listed.getD j false with
      | false => rfl
      | true => exact absurd (inv.closed j oj hj hl e he hb) (by simp [hi'])
  intro d
  induction d using Nat.strongRecOn with
  | _ d ih =>
    intro i hd hi h0 hun t ht hr
    have htl : t < ops.size := by
      obtain ⟨-, o, ho, -⟩ := mem_ready.1 hr
      exact (Array.getElem?_eq_some_iff.1 ho).1
    rcases Nat.lt_or_ge n t with hnt | hnt
    · have h1 := List.all_eq_true.1 hc t (List.mem_range.2 htl)
      simp only [Bool.or_eq_true, decide_eq_true_eq] at h1
      exact (late t (t - 1) (h1.resolve_left (by omega)) (inv.tail (t - 1) (by omega) (by omega))).1 hr
    · obtain rfl : t = n := by omega
      have h1 := List.all_eq_true.1 hs i (List.mem_range.2 hi)
      simp only [Bool.or_eq_true, decide_eq_true_eq, List.any_eq_true, Bool.and_eq_true, List.mem_range] at h1
      obtain ⟨j, hj, hij, hw⟩ := h1.resolve_left h0
      obtain ⟨k1, k2⟩ := late j i hw hun
      rcases Nat.lt_or_ge j t with hjt | hjt
      · exact ih (t - j) (by omega) j rfl hjt (by omega) (getD_in (by rw [inv.size]; omega) k2) t (Nat.le_refl _) hr
      · obtain rfl : j = t := by omega
        exact k1 hr

theorem getD_set_true {listed : Array Bool} (h : listed.getD 0 false = true) (j : Nat) : (listed.setIfInBounds j true).getD 0 false = true := by
  by_cases e : j = 0
  · subst e
    have : 0 < listed.size := by
      rcases Nat.eq_zero_or_pos listed.size with h0 | h0
      · rw [Array.getD_eq_getD_getElem?, Array.getElem?_eq_none (by omega)] at h; cases h
      · exact h0
    simp [this]
  · rw [getD_set_ne false e]; exact h

section
variable {P : Program} {l : List Oper} {a0 : Act} {W : World}

/-- A region that draws its order: the operations of its head leave what is listed; new blocks are apart; then its tail, one by one. -/
theorem wp_region_told_first {id : Nat} {Q : Exit → Act → World → Prop} (ys : List Leave) (hm : P.follows .mixedOrders = true)
    (hB : (Region.noSelect l.toArray && decide (ys.length < l.toArray.size) && sink1 .any l.toArray ys.length && Region.chainB .any l.toArray ys.length &&
      Region.seqB .any l.toArray (l.toArray.size - ys.length) ys.length ((List.replicate ys.length true ++ List.replicate (l.toArray.size - ys.length) false).toArray) && headB l ys.length a0.tmps.size) = true)
    (hgd : guardsB l ys ys = true) {o0 : Oper} {v0 : Value} (h0o : l[0]? = some o0) (h0y : ys[0]? = some (.val v0))
    (h0f : Region.free .any l.toArray (Array.replicate l.toArray.size false) 0 = true) (h0r : (Region.ready .any l.toArray (Array.replicate l.toArray.size false)).contains 0 = true) (h0Y : Yields P l.toArray o0 v0 a0)
    (h0Q : ∀ c a w, Q (.panic c) (a.put o0.dst v0) w → Q (.panic c) a w)
    (hall : allLeave P (fun g => fill g 0 l ys a0) ys W l ys)
    (hend : ∀ (g : Nat → Nat) (w' : World), Below W.heap.size W w' → (∀ i y b, ys[i]? = some y → y.obj = some b → W.heap.size ≤ g i ∧ w'.heap[g i]? = some b) →
      (∀ i j y z b c, i ≠ j → ys[i]? = some y → ys[j]? = some z → y.obj = some b → z.obj = some c → g i ≠ g j) → wpList P l.toArray Q (l.drop ys.length) (fill g 0 l ys a0) w') :
    (Code.region id l.toArray true).wp P Q a0 W := by
  simp only [Bool.and_eq_true, decide_eq_true_eq] at hB
  obtain ⟨⟨⟨⟨⟨hsel, hn⟩, hs⟩, hc⟩, hseq⟩, hhead⟩ := hB
  have ok := headOk hhead
  have hn' : ys.length < l.length := by simpa using hn
  have hdl : (l.drop ys.length).length = l.toArray.size - ys.length := by simp
  refine wp_region_any hm ?_
  have key : ∀ (f : Nat) (listed : Array Bool) (a : Act) (w : World) (g : Nat → Nat), HeadInv .any l.toArray ys.length listed → unlisted listed = f + (l.toArray.size - ys.length) → Telling l ys a0 W g listed a w → listed.getD 0 false = true →
      wpAny P .any l.toArray Q (f + (l.toArray.size - ys.length)) listed a w := by
    intro f
    induction f with
    | zero =>
      intro listed a w g inv hu hb hz0
      have hls : listed.size = l.length := by have := inv.size; simpa using this
      -- all of the head has come up
      have hcount : listed.toList.countP (fun b => !b) = l.length - ys.length := by
        unfold unlisted at hu; simpa using hu
      have htail : listed.toList.drop ys.length = List.replicate (l.length - ys.length) false := by
        refine List.ext_getElem (by simp [hls]) fun k h1 h2 => ?_
        have hk : ys.length + k < listed.size := by simp at h1; omega
        have := inv.tail (ys.length + k) (by omega) (by rw [← inv.size]; exact hk)
        simpa [hk] using this
      have hsplit : listed.toList = listed.toList.take ys.length ++ List.replicate (l.length - ys.length) false := by rw [← htail, List.take_append_drop]
      have hh : (listed.toList.take ys.length).countP (fun b => !b) = 0 := by
        rw [hsplit, List.countP_append] at hcount
        have hr : (List.replicate (l.length - ys.length) false).countP (fun b => !b) = l.length - ys.length := by rw [List.countP_replicate]; simp
        rw [hr] at hcount
        omega
      have hhead : listed.toList.take ys.length = List.replicate ys.length true := by
        have hlen : (listed.toList.take ys.length).length = ys.length := by simp [hls]; omega
        rw [List.eq_replicate_iff]
        refine ⟨hlen, fun b hb => ?_⟩
        have := List.countP_eq_zero.1 hh b hb
        simpa using this
      have hlisted : listed = (List.replicate ys.length true ++ List.replicate (l.toArray.size - ys.length) false).toArray := by
        have h1 : listed = listed.toList.toArray := by simp
        rw [h1, hsplit, hhead]
        simp
      have hall' : ∀ i, i < ys.length → listed.getD i false = true := by
        intro i hi
        rw [hlisted, Array.getD_eq_getD_getElem?, List.getElem?_toArray, List.getElem?_append_left (by simpa using hi)]
        simp [hi]
      have hfull := hb.full ok hall'
      have := wpAny_of_seq (P := P) (ops := l.toArray) (md := .any) (Q' := Q) (l.drop ys.length) ys.length listed a w (fun j => by simp [List.getElem?_drop]) (by rw [hdl, hlisted]; exact hseq) (by
        rw [hfull]
        exact hend g w hb.below (fun i y b hi hy => hb.boxes i y b hi hy (hall' i (List.getElem?_eq_some_iff.1 hi).1)) (fun i j y z b c hij hi hj hy hz => hb.apart i j y z b c hij hi hj hy hz (hall' i (List.getElem?_eq_some_iff.1 hi).1) (hall' j (List.getElem?_eq_some_iff.1 hj).1)))
      rwa [hdl, ← Nat.zero_add (l.toArray.size - ys.length)] at this
    | succ f ih =>
      intro listed a w g inv hu hb hz0
      -- the first one of the head that has not come up
      have hex : ∃ i, i < ys.length ∧ listed.getD i false = false := by
        refine Classical.byContradiction fun hno => ?_
        have hno' : ∀ i, i < ys.length → listed.getD i false = true := fun i hi => by
          cases h : listed.getD i false with
          | true => rfl
          | false => exact absurd ⟨i, hi, h⟩ hno
        have hls : listed.size = l.length := by have := inv.size; simpa using this
        have h0 : (listed.toList.take ys.length).countP (fun b => !b) = 0 := by
          rw [List.countP_eq_zero]
          intro b hb'
          obtain ⟨k, hk, rfl⟩ := List.getElem_of_mem hb'
          have hk1 : k < ys.length := by simp at hk; omega
          have hk2 : k < listed.size := by omega
          have := hno' k hk1
          simpa [hk2] using this
        have h1 := List.countP_le_length (p := fun b => !b) (l := listed.toList.drop ys.length)
        have h2 : unlisted listed = (listed.toList.take ys.length).countP (fun b => !b) + (listed.toList.drop ys.length).countP (fun b => !b) := by
          unfold unlisted; rw [← List.countP_append, List.take_append_drop]
        simp only [List.length_drop, Array.length_toList, hls] at h1
        have h3 : l.toArray.size = l.length := by simp
        omega
      have hleast : ∀ m : Nat, (∃ i, i < m ∧ i < ys.length ∧ listed.getD i false = false) → ∃ i, i < ys.length ∧ listed.getD i false = false ∧ ∀ j, j < i → listed.getD j false = true := by
        intro m
        induction m with
        | zero => rintro ⟨i, hi, _⟩; omega
        | succ m ih2 =>
          rintro ⟨i, hi, hiy, hil⟩
          by_cases hsm : ∃ j, j < m ∧ j < ys.length ∧ listed.getD j false = false
          · exact ih2 hsm
          · refine ⟨i, hiy, hil, fun j hj => ?_⟩
            cases h : listed.getD j false with
            | true => rfl
            | false => exact absurd ⟨j, by omega, by omega, h⟩ hsm
      obtain ⟨i, hi, hil, hlt⟩ := hleast ys.length (by obtain ⟨i, h1, h2⟩ := hex; exact ⟨i, h1, h1, h2⟩)
      have hsize : ∀ k, k < ys.length → k < listed.size := fun k hk => by rw [inv.size]; omega
      have hready : i ∈ Region.ready .any l.toArray listed := by
        obtain ⟨o, ho⟩ := ok.there i hi
        exact mem_ready.2 ⟨getD_in (hsize i hi) hil, o, by simpa using ho, fun e he hbd => hlt _ (ok.back i o hi ho e he hbd)⟩
      rw [show f + 1 + (l.toArray.size - ys.length) = (f + (l.toArray.size - ys.length)) + 1 by omega]
      refine ⟨fun h0 => (by rw [h0] at hready; cases hready), fun j hj => ?_⟩
      have hjn : j < ys.length := by
        rcases Nat.lt_or_ge j ys.length with h | h
        · exact h
        · exact absurd hj (tail_waits1 hs hc hn inv _ i rfl hi (fun e => by rw [e, hz0] at hil; cases hil) (getD_in (hsize i hi) hil) j h)
      refine wpOp_mono (fun a' w' ⟨g', hb'⟩ => ih _ a' w' g' (inv.set hj hjn) ?_ hb' (getD_set_true hz0 j)) (hb.step ok hsel hgd hall inv.size hjn hj)
      have := unlisted_set (mem_ready.1 hj).1
      omega
  have inv0 : HeadInv .any l.toArray ys.length (Array.replicate l.toArray.size false) :=
    ⟨by simp, fun j oj _ hl => (by rw [getD_replicate_false] at hl; cases hl), fun t _ ht => getD_in (by simpa using ht) (getD_replicate_false _ _)⟩
  have hu : unlisted (Array.replicate l.toArray.size false) = ys.length + (l.toArray.size - ys.length) := by
    unfold unlisted
    rw [Array.toList_replicate, List.countP_replicate]
    simp
    omega
  have hys : 0 < ys.length := (List.getElem?_eq_some_iff.1 h0y).1
  have T0 : Telling l ys a0 W (fun _ => 0) (Array.replicate l.toArray.size false) a0 { W with drawn := W.drawn + 1 } :=
    ⟨rfl, rfl, ⟨rfl, rfl, rfl, Nat.le_refl _, fun _ _ => rfl⟩, fun _ _ => rfl, fun i o y d _ _ hl => (by rw [getD_replicate_false] at hl; cases hl), fun i y b _ _ hl => (by rw [getD_replicate_false] at hl; cases hl),
      fun i j y z b c _ _ _ _ _ hl => (by rw [getD_replicate_false] at hl; cases hl)⟩
  have hl0 : 0 < l.length := by omega
  have T1 := T0.plain ok hys h0o h0y (by simpa using hl0) (getD_replicate_false _ _) (v := v0) rfl rfl (Below.refl _ _)
  have hr0 : 0 ∈ Region.ready .any l.toArray (Array.replicate l.toArray.size false) := by simpa using h0r
  have hun := unlisted_set (mem_ready.1 hr0).1
  have := key (ys.length - 1) _ _ _ _ (inv0.set hr0 hys) (by omega) T1 (by simp [hl0])
  have h3 := wpAny_take (P := P) (md := .any) (Q := Q) (fuel := ys.length - 1 + (l.toArray.size - ys.length)) (i := 0) (oi := o0) (v := v0) (listed := Array.replicate l.toArray.size false) (a := a0) (w := { W with drawn := W.drawn + 1 }) (by simpa using h0o) hsel h0f h0r h0Q h0Y this
  rwa [show ys.length - 1 + (l.toArray.size - ys.length) + 1 = l.toArray.size by omega] at h3

end

end Go.Proofs.Ytpfcefflcmeobaa.More
