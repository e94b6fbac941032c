
import Derived.Test.YtdibdfalahjmbaaGreatPart5
namespace Go.Proofs.YtdibdfalahjmbaaGreat.More

open Go.RowKit Go.Sort Go.Proofs.YtdibdfalahjmbaaGreat.More.Hold

namespace HoldLate

def waitB (l : List Oper) (n : Nat) (late : List Nat) : Bool :=
  (List.range l.length).all fun t => decide (t < n) || (List.range n).all fun i => late.contains i || Region.waitsFor .any l.toArray t i

def freeB (l : List Oper) (n : Nat) (late : List Nat) : Bool :=
  late.all fun i => match l[i]? with
    | none => false
    | some oi => (match oi.guard with | none => true | some _ => false) && (List.range l.length).all fun j => decide (j = i) || (decide (j < n) && !late.contains j) || match l[j]? with
      | some oj => oj.after.any (fun e => Region.binds .any e && e.on == i) || oi.apart l.toArray oj
      | none => true

def valB (ys : List Leave) (late : List Nat) : Bool := late.all fun i => match ys[i]? with
  | some (.val _) => true
  | _ => false

variable {P : Program} {l : List Oper} {ys : List Leave} {a0 : Act} {W : World}

def lateOk (P : Program) (l : List Oper) (ys : List Leave) (F : (Nat → Value) → Act) (W : World) (late : List Nat) : Prop :=
  ∀ i ∈ late, ∀ o v, l[i]? = some o → ys[i]? = some (.val v) → ∀ g w, Below W.heap.size W w → known ys o g w → ∀ w1, (execOp (F g).eval o).run P w1 = .ok (.value v) w1

def quietly (Q : Exit → Act → World → Prop) : Exit → Act → World → Prop
  | .panic _, _, _ => False
  | e, a, w => Q e a w

theorem quietly_imp {Q : Exit → Act → World → Prop} : ∀ (e : Exit) (a : Act) (w : World), quietly Q e a w → Q e a w := fun e a w h => by
  cases e <;> first | exact h | exact (h : False).elim

theorem wp_region_hold_late {id : Nat} {Q : Exit → Act → World → Prop} (late : List Nat) (ys : List Leave) (hm : P.follows .mixedOrders = true)
    (hB : (Region.noSelect l.toArray && decide (ys.length < l.toArray.size) && waitB l ys.length late && freeB l ys.length late && valB ys late &&
      Region.seqB .any l.toArray (l.toArray.size - ys.length) ys.length ((List.replicate ys.length true ++ List.replicate (l.toArray.size - ys.length) false).toArray) && headB l ys.length a0.tmps.size) = true)
    (hgd : guardsB l ys ys = true)
    (hall : allLeave P (fun g => fill g 0 l ys a0) ys W l ys) (hlate : lateOk P l ys (fun g => fill g 0 l ys a0) W late)
    (hend : ∀ (Q' : Exit → Act → World → Prop), (∀ a w, Q .normal a w → Q' .normal a w) → ∀ (g : Nat → Value) (w' : World), Below W.heap.size W w' → (∀ (i : Nat) R, ys[i]? = some (.some R) → R w' (g i)) → wpList P l.toArray Q' (l.drop ys.length) (fill g 0 l ys a0) w') :
    (Code.region id l.toArray true).wp P Q a0 W := by
  refine Code.wp_mono (Q := quietly Q) quietly_imp ?_
  replace hend := hend (quietly Q) (fun a w h => h)
  have hQ : ∀ c a a' w, quietly Q (.panic c) a w → quietly Q (.panic c) a' w := fun _ _ _ _ h => h.elim
  generalize quietly Q = Q at *
  simp only [Bool.and_eq_true, decide_eq_true_eq] at hB
  obtain ⟨⟨⟨⟨⟨⟨hsel, hn⟩, hwait⟩, hfree⟩, hval⟩, hseq⟩, hhead⟩ := hB
  have ok := headOk hhead
  have hkp : allKeep ys := allKeep_of hall ok.there
  have hn' : ys.length < l.length := by simpa using hn
  have hdl : (l.drop ys.length).length = l.toArray.size - ys.length := by simp
  refine wp_region_any hm ?_
  have key : ∀ (f : Nat) (listed : Array Bool) (a : Act) (w : World) (g : Nat → Value), HeadInv .any l.toArray ys.length listed → unlisted listed = f + (l.toArray.size - ys.length) → Telling l ys a0 W g listed a w →
      wpAny P .any l.toArray Q (f + (l.toArray.size - ys.length)) listed a w := by
    intro f
    induction f with
    | zero =>
      intro listed a w g inv hu hb
      have hls : listed.size = l.length := by have := inv.size; simpa using this
      have hcount : listed.toList.countP (fun b => !b) = l.length - ys.length := by
        unfold unlisted at hu; simpa using hu
      have htail : listed.toList.drop ys.length = List.replicate (l.length - ys.length) false := by
        refine List.ext_getElem (by simp [hls]) fun k h1 h2 => ?_
        have hk : ys.length + k < listed.size := by simp at h1; omega
        have := inv.tail (ys.length + k) (by omega) (by rw [← inv.size]; exact hk)
        simpa [hk] using this
      have hsplit : listed.toList = listed.toList.take ys.length ++ List.replicate (l.length - ys.length) false := by rw [← htail, List.take_append_drop]
      have hh : (listed.toList.take ys.length).countP (fun b => !b) = 0 := by
        rw [hsplit, List.countP_append] at hcount
        have hr : (List.replicate (l.length - ys.length) false).countP (fun b => !b) = l.length - ys.length := by rw [List.countP_replicate]; simp
        rw [hr] at hcount
        omega
      have hhead : listed.toList.take ys.length = List.replicate ys.length true := by
        have hlen : (listed.toList.take ys.length).length = ys.length := by simp [hls]; omega
        rw [List.eq_replicate_iff]
        refine ⟨hlen, fun b hb => ?_⟩
        have := List.countP_eq_zero.1 hh b hb
        simpa using this
      have hlisted : listed = (List.replicate ys.length true ++ List.replicate (l.toArray.size - ys.length) false).toArray := by
        have h1 : listed = listed.toList.toArray := by simp
        rw [h1, hsplit, hhead]
        simp
      have hall' : ∀ i, i < ys.length → listed.getD i false = true := by
        intro i hi
        rw [hlisted, Array.getD_eq_getD_getElem?, List.getElem?_toArray, List.getElem?_append_left (by simpa using hi)]
        simp [hi]
      have hfull := hb.full ok hall'
      have := wpAny_of_seq (P := P) (ops := l.toArray) (md := .any) (Q' := Q) (l.drop ys.length) ys.length listed a w (fun j => by simp [List.getElem?_drop]) (by rw [hdl, hlisted]; exact hseq) (by
        rw [hfull]
        exact hend g w hb.below (fun i R hi => hb.held i R hi (hall' i (List.getElem?_eq_some_iff.1 hi).1)))
      rwa [hdl, ← Nat.zero_add (l.toArray.size - ys.length)] at this
    | succ f ih =>
      intro listed a w g inv hu hb
      have hex : ∃ i, i < ys.length ∧ listed.getD i false = false := by
        refine Classical.byContradiction fun hno => ?_
        have hno' : ∀ i, i < ys.length → listed.getD i false = true := fun i hi => by
          cases h : listed.getD i false with
          | true => rfl
          | false => exact absurd ⟨i, hi, h⟩ hno
        have hls : listed.size = l.length := by have := inv.size; simpa using this
        have h0 : (listed.toList.take ys.length).countP (fun b => !b) = 0 := by
          rw [List.countP_eq_zero]
          intro b hb'
          obtain ⟨k, hk, rfl⟩ := List.getElem_of_mem hb'
          have hk1 : k < ys.length := by simp at hk; omega
          have hk2 : k < listed.size := by omega
          have := hno' k hk1
          simpa [hk2] using this
        have h1 := List.countP_le_length (p := fun b => !b) (l := listed.toList.drop ys.length)
        have h2 : unlisted listed = (listed.toList.take ys.length).countP (fun b => !b) + (listed.toList.drop ys.length).countP (fun b => !b) := by
          unfold unlisted; rw [← List.countP_append, List.take_append_drop]
        simp only [List.length_drop, Array.length_toList, hls] at h1
        have h3 : l.toArray.size = l.length := by simp
        omega
      have hleast : ∀ m : Nat, (∃ i, i < m ∧ i < ys.length ∧ listed.getD i false = false) → ∃ i, i < ys.length ∧ listed.getD i false = false ∧ ∀ j, j < i → listed.getD j false = true := by
        intro m
        induction m with
        | zero => rintro ⟨i, hi, _⟩; omega
        | succ m ih2 =>
          rintro ⟨i, hi, hiy, hil⟩
          by_cases hsm : ∃ j, j < m ∧ j < ys.length ∧ listed.getD j false = false
          · exact ih2 hsm
          · refine ⟨i, hiy, hil, fun j hj => ?_⟩
            cases h : listed.getD j false with
            | true => rfl
            | false => exact absurd ⟨j, by omega, by omega, h⟩ hsm
      obtain ⟨i, hi, hil, hlt⟩ := hleast ys.length (by obtain ⟨i, h1, h2⟩ := hex; exact ⟨i, h1, h1, h2⟩)
      have hsize : ∀ k, k < ys.length → k < listed.size := fun k hk => by rw [inv.size]; omega
      have hready : i ∈ Region.ready .any l.toArray listed := by
        obtain ⟨o, ho⟩ := ok.there i hi
        exact mem_ready.2 ⟨getD_in (hsize i hi) hil, o, by simpa using ho, fun e he hbd => hlt _ (ok.back i o hi ho e he hbd)⟩
      rw [show f + 1 + (l.toArray.size - ys.length) = (f + (l.toArray.size - ys.length)) + 1 by omega]
      by_cases hcase : ∃ k, k < ys.length ∧ listed.getD k false = false ∧ k ∉ late
      · obtain ⟨k, hk, hkl, hkn⟩ := hcase
        refine ⟨fun h0 => (by rw [h0] at hready; cases hready), fun j hj => ?_⟩
        have hjn : j < ys.length := by
          rcases Nat.lt_or_ge j ys.length with h | h
          · exact h
          · exfalso
            obtain ⟨-, oj, hoj, hdep⟩ := mem_ready.1 hj
            have hjl : j < l.length := by simpa using (Array.getElem?_eq_some_iff.1 hoj).1
            have h1 := List.all_eq_true.1 hwait j (List.mem_range.2 hjl)
            have h2 : (List.range ys.length).all (fun i => late.contains i || Region.waitsFor .any l.toArray j i) = true := by
              simpa [Nat.not_lt.2 h] using h1
            have h3 := List.all_eq_true.1 h2 k (List.mem_range.2 hk)
            have h4 : Region.waitsFor .any l.toArray j k = true := by
              rcases (Bool.or_eq_true _ _).mp h3 with q | q
              · exact absurd (by simpa using q) hkn
              · exact q
            obtain ⟨o2, ho2, e, he, hbd, hon⟩ := Region.waitsFor_spec h4
            have : oj = o2 := Option.some.inj (hoj.symm.trans ho2)
            subst this
            have := hdep e he hbd
            rw [hon, hkl] at this
            cases this
        refine wpOp_mono (fun a' w' ⟨g', hb'⟩ => ih _ a' w' g' (inv.set hj hjn) ?_ hb') (hb.step ok hsel hgd hall inv.size hjn hj)
        have := unlisted_set (mem_ready.1 hj).1
        omega
      · have hin : i ∈ late := by
          refine Classical.byContradiction fun h => hcase ⟨i, hi, hil, h⟩
        obtain ⟨oi, hoi⟩ := ok.there i hi
        have hf := List.all_eq_true.1 hfree i hin
        rw [hoi] at hf
        simp only [Bool.and_eq_true] at hf
        obtain ⟨hgu, hfr⟩ := hf
        have hv := List.all_eq_true.1 hval i hin
        obtain ⟨v, hyv⟩ : ∃ v, ys[i]? = some (.val v) := by
          split at hv
          · rename_i v q; exact ⟨v, q⟩
          · cases hv
        obtain ⟨hrun, oi', hoi', hdep⟩ := mem_ready.1 hready
        have hoo : oi' = oi := Option.some.inj (hoi'.symm.trans (by simpa using hoi))
        subst hoo
        have hsame := hb.same ok hsel hi hoi hdep
        have hkn : known ys oi' g w := fun e he hbd R hye => hb.held e.on R hye (hdep e he hbd)
        have hex := hlate i hin oi' v hoi hyv g w hb.below hkn
        have hyi : Yields P l.toArray oi' v a := .inl ⟨by
          have : oi'.guard = none := by
            revert hgu
            cases oi'.guard with
            | none => intro _; rfl
            | some x => intro h; cases h
          simp [Region.wanted, this], fun w1 => by rw [hsame]; exact hex w1⟩
        refine wpAny_first hoi' (Region.noSelect_spec hsel) (fun c a w h => hQ c _ _ _ h) _ listed a w (fun j oj hoj hji hun hno => ?_) hready hyi ?_
        · have hjl : j < l.length := by simpa using (Array.getElem?_eq_some_iff.1 hoj).1
          have h1 := List.all_eq_true.1 hfr j (List.mem_range.2 hjl)
          have hoj' : l[j]? = some oj := by simpa using hoj
          rw [hoj'] at h1
          have h2 : (decide (j < ys.length) && !late.contains j) = false := by
            cases hq : (decide (j < ys.length) && !late.contains j) with
            | false => rfl
            | true =>
              simp only [Bool.and_eq_true, decide_eq_true_eq, Bool.not_eq_true'] at hq
              exact absurd ⟨j, hq.1, getD_both hun, by simpa using hq.2⟩ hcase
          rw [h2] at h1
          simp only [hji, decide_false, Bool.false_or, Bool.or_eq_true] at h1
          rcases h1 with h1 | h1
          · obtain ⟨e, he, hbd⟩ := Array.any_eq_true'.1 h1
            simp only [Bool.and_eq_true, beq_iff_eq] at hbd
            exact absurd hbd.2 (hno e he hbd.1)
          · exact h1
        · obtain ⟨g', hb'⟩ := hb.more (u := undef) (v := v) (w' := w) ok hkp hi hoi hyv (hsize i hi) hil rfl (fun R e => by cases e) (Below.refl _ _)
          refine ih _ _ _ g' (inv.set hready hi) ?_ hb'
          have := unlisted_set hrun
          omega
  have inv0 : HeadInv .any l.toArray ys.length (Array.replicate l.toArray.size false) :=
    ⟨by simp, fun j oj _ hl => (by rw [getD_replicate_false] at hl; cases hl), fun t _ ht => getD_in (by simpa using ht) (getD_replicate_false _ _)⟩
  have hu : unlisted (Array.replicate l.toArray.size false) = ys.length + (l.toArray.size - ys.length) := by
    unfold unlisted
    rw [Array.toList_replicate, List.countP_replicate]
    simp
    omega
  have := key ys.length _ a0 { W with drawn := W.drawn + 1 } (fun _ => undef) inv0 hu
    ⟨rfl, rfl, ⟨rfl, rfl, rfl, Nat.le_refl _, fun _ _ => rfl⟩, fun _ _ => rfl, fun i o y d _ _ hl => (by rw [getD_replicate_false] at hl; cases hl), fun i R _ hl => (by rw [getD_replicate_false] at hl; cases hl)⟩
  rwa [show ys.length + (l.toArray.size - ys.length) = l.toArray.size by omega] at this

end HoldLate

end Go.Proofs.YtdibdfalahjmbaaGreat.More
