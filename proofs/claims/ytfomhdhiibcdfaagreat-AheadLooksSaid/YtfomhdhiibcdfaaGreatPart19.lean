/- The laws of Hold and HoldAll where a guard may be an operation that another guard has left out (a && b within c || ..). -/
import Derived.Test.YtfomhdhiibcdfaaGreatPart14
namespace Go.Proofs.YtfomhdhiibcdfaaGreat.More
open Go.RowKit Go.Sort Go.Proofs.YtfomhdhiibcdfaaGreat.More.Hold

namespace Hold2

/-- Each guard is decided by what is listed; what a guard has left out, as a guard, says no. -/
def guards2B : List Oper → List Leave → List Leave → Bool
  | o :: os, y :: ys, all => (match o.guard with
    | none => !y.isSkip
    | some (k, b) => o.after.any (fun e => Region.binds .any e && e.on == k) && (match all[k]? with
      | some (.val (.bool c)) => (c == b) == !y.isSkip
      | some .skip => y.isSkip
      | _ => false)) && guards2B os ys all
  | _, _, _ => true

theorem guards2_at : ∀ {os : List Oper} {ys all : List Leave} {i : Nat} {o : Oper} {y : Leave}, guards2B os ys all = true → os[i]? = some o → ys[i]? = some y →
    (o.guard = none ∧ y.isSkip = false) ∨ (∃ k b c, o.guard = some (k, b) ∧ (∃ e ∈ o.after, Region.binds .any e = true ∧ e.on = k) ∧ all[k]? = some (.val (.bool c)) ∧ ((c == b) = !y.isSkip)) ∨
      ∃ k b, o.guard = some (k, b) ∧ (∃ e ∈ o.after, Region.binds .any e = true ∧ e.on = k) ∧ all[k]? = some .skip ∧ y.isSkip = true
  | o :: os, y :: ys, all, 0, _, _, h, h1, h2 => by
    simp only [List.getElem?_cons_zero, Option.some.injEq] at h1 h2
    subst h1 h2
    simp only [guards2B, Bool.and_eq_true] at h
    obtain ⟨h, _⟩ := h
    cases hg : o.guard with
    | none => rw [hg] at h; left; exact ⟨rfl, by simpa using h⟩
    | some kb =>
      obtain ⟨k, b⟩ := kb
      rw [hg] at h
      simp only [Bool.and_eq_true] at h
      obtain ⟨h3, h4⟩ := h
      obtain ⟨e, he, he2⟩ := Array.any_eq_true'.1 h3
      simp only [Bool.and_eq_true, beq_iff_eq] at he2
      right
      split at h4
      · rename_i c hc
        left
        exact ⟨k, b, c, rfl, ⟨e, he, he2⟩, hc, by simpa using h4⟩
      · rename_i hc
        right
        exact ⟨k, b, rfl, ⟨e, he, he2⟩, hc, h4⟩
      · cases h4
  | o :: os, y :: ys, all, i + 1, _, _, h, h1, h2 => by
    simp only [List.getElem?_cons_succ] at h1 h2
    simp only [guards2B, Bool.and_eq_true] at h
    exact guards2_at h.2 h1 h2
  | [], _, _, _, _, _, _, h1, _ => by simp at h1
  | _ :: _, [], _, _, _, _, _, _, h2 => by simp at h2

variable {P : Program} {l : List Oper} {ys : List Leave} {a0 : Act} {W : World}

theorem step2 {g : Nat → Value} {listed : Array Bool} {a : Act} {w : World} {Q : Exit → Act → World → Prop} (ok : HeadOk l ys.length a0.tmps.size) (h : Telling l ys a0 W g listed a w) (hs : Region.noSelect l.toArray = true)
    (hgd : guards2B l ys ys = true) (hall : allLeave P (fun g => fill g 0 l ys a0) ys W l ys) (hsz : listed.size = l.toArray.size) {i : Nat} (hi : i < ys.length) (hr : i ∈ Region.ready .any l.toArray listed) :
    wpOp P l.toArray Q i (fun a' w' => ∃ g, Telling l ys a0 W g (listed.setIfInBounds i true) a' w') a w := by
  obtain ⟨hun, o, ho, hdep⟩ := mem_ready.1 hr
  have ho' : l[i]? = some o := by simpa using ho
  have hy : ys[i]? = some ys[i] := by simp [hi]
  have hsame := h.same ok hs hi ho' hdep
  have hY := allLeave_at hall ho' hy
  have hun' : listed.getD i false = false := getD_both hun
  have hin : i < listed.size := by
    rw [hsz]; simpa using (List.getElem?_eq_some_iff.1 ho').1
  have hkn : known ys o g w := fun e he hb R hye => h.held e.on R hye (hdep e he hb)
  have hkp : allKeep ys := allKeep_of hall ok.there
  have hw : Region.wanted o (yielded l.toArray a.tmps) = !(ys[i]).isSkip := by
    rcases guards2_at hgd ho' hy with ⟨hg, hsk⟩ | ⟨k, b, c, hg, ⟨e, he, hb, hon⟩, hk, hcb⟩ | ⟨k, b, hg, ⟨e, he, hb, hon⟩, hk, hsk⟩
    · simp [Region.wanted, hg, hsk]
    · have hlk : listed.getD k false = true := by rw [← hon]; exact hdep e he hb
      have hkl : k < ys.length := (List.getElem?_eq_some_iff.1 hk).1
      obtain ⟨p, hp⟩ := ok.there k hkl
      obtain ⟨d, hd1, hd2⟩ := ok.dst k p hkl hp
      have hsl := h.slot k p _ d hp hk hlk hd1
      have hda : d < a.tmps.size := by rw [h.size]; exact hd2
      have hyl : yielded l.toArray a.tmps k = some c := by
        unfold yielded
        simp only [List.getElem?_toArray, hp, Option.bind_some, hd1]
        have : a.tmps[d]? = some (.bool c) := by
          rw [Array.getElem?_eq_getElem hda]
          simpa [Leave.value, hda] using hsl
        rw [this]
      simp only [Region.wanted, hg, hyl]
      rw [← hcb]
      cases c <;> cases b <;> rfl
    · have hlk : listed.getD k false = true := by rw [← hon]; exact hdep e he hb
      have hkl : k < ys.length := (List.getElem?_eq_some_iff.1 hk).1
      obtain ⟨p, hp⟩ := ok.there k hkl
      obtain ⟨d, hd1, hd2⟩ := ok.dst k p hkl hp
      have hsl := h.slot k p _ d hp hk hlk hd1
      have hda : d < a.tmps.size := by rw [h.size]; exact hd2
      have hyl : yielded l.toArray a.tmps k = none := by
        unfold yielded
        simp only [List.getElem?_toArray, hp, Option.bind_some, hd1]
        have : a.tmps[d]? = some undef := by
          rw [Array.getElem?_eq_getElem hda]
          simpa [Leave.value, hda] using hsl
        rw [this]
        rfl
      simp only [Region.wanted, hg, hyl, hsk]
      rfl
  unfold wpOp
  simp only [ho, hw]
  revert hY
  generalize hyi : ys[i] = y at *
  cases y with
  | skip =>
    intro _
    simp only [Leave.isSkip, Bool.not_true, Bool.false_eq_true, if_false]
    exact h.more (u := undef) ok hkp hi ho' hy hin hun' rfl (fun R e => by cases e) (Below.refl _ _)
  | val v =>
    intro hY
    simp only [Leave.isSkip, Bool.not_false, if_true]
    left
    unfold Oper.wp
    rw [hsame]
    have h3 := hY g w h.below hkn
    generalize (execOp (fill g 0 l ys a0).eval o).run P w = r at *
    cases r with
    | ok nx w' =>
      cases nx <;> simp only [stays] at h3 <;> simp only [Oper.upon]
      case value u =>
        obtain ⟨rfl, rfl⟩ := h3
        exact h.more (u := undef) ok hkp hi ho' hy hin hun' rfl (fun R e => by cases e) (Below.refl _ _)
      case enter f args =>
        obtain ⟨rfl, hc⟩ := h3
        refine hc.mono fun e w'' ⟨he, hb⟩ => ?_
        subst he
        exact h.more (u := undef) ok hkp hi ho' hy hin hun' rfl (fun R e => by cases e) hb
    | halt x w' => simp only [stays] at h3
  | some R =>
    intro hY
    simp only [Leave.isSkip, Bool.not_false, if_true]
    left
    unfold Oper.wp
    rw [hsame]
    have h3 := hY.2 g w h.below hkn
    generalize (execOp (fill g 0 l ys a0).eval o).run P w = r at *
    cases r with
    | ok nx w' =>
      cases nx <;> simp only [gives] at h3 <;> simp only [Oper.upon]
      case value u =>
        obtain ⟨hb, hr⟩ := h3
        exact h.more (u := u) ok hkp hi ho' hy hin hun' rfl (fun R e => by cases e; exact hr) hb
      case enter f args =>
        obtain ⟨rfl, hc⟩ := h3
        refine hc.mono fun e w'' ⟨u, he, hr, hb⟩ => ?_
        subst he
        exact h.more (u := u) ok hkp hi ho' hy hin hun' rfl (fun R e => by cases e; exact hr) hb
    | halt x w' => simp only [gives] at h3

/-- A region that draws its order: its head leaves what is listed; then its tail. -/
theorem wp_region_hold2 {id : Nat} {Q : Exit → Act → World → Prop} (ys : List Leave) (hm : P.follows .mixedOrders = true)
    (hB : (Region.noSelect l.toArray && decide (ys.length < l.toArray.size) && Region.sinkB .any l.toArray ys.length && Region.chainB .any l.toArray ys.length &&
      Region.seqB .any l.toArray (l.toArray.size - ys.length) ys.length ((List.replicate ys.length true ++ List.replicate (l.toArray.size - ys.length) false).toArray) && headB l ys.length a0.tmps.size) = true)
    (hgd : guards2B l ys ys = true)
    (hall : allLeave P (fun g => fill g 0 l ys a0) ys W l ys)
    (hend : ∀ (g : Nat → Value) (w' : World), Below W.heap.size W w' → (∀ (i : Nat) R, ys[i]? = some (.some R) → R w' (g i)) → wpList P l.toArray Q (l.drop ys.length) (fill g 0 l ys a0) w') :
    (Code.region id l.toArray true).wp P Q a0 W := by
  simp only [Bool.and_eq_true, decide_eq_true_eq] at hB
  obtain ⟨⟨⟨⟨⟨hsel, hn⟩, hs⟩, hc⟩, hseq⟩, hhead⟩ := hB
  have ok := headOk hhead
  have hn' : ys.length < l.length := by simpa using hn
  have hdl : (l.drop ys.length).length = l.toArray.size - ys.length := by simp
  refine wp_region_any hm ?_
  have key : ∀ (f : Nat) (listed : Array Bool) (a : Act) (w : World) (g : Nat → Value), HeadInv .any l.toArray ys.length listed → unlisted listed = f + (l.toArray.size - ys.length) → Telling l ys a0 W g listed a w →
      wpAny P .any l.toArray Q (f + (l.toArray.size - ys.length)) listed a w := by
    intro f
    induction f with
    | zero =>
      intro listed a w g inv hu hb
      have hls : listed.size = l.length := by have := inv.size; simpa using this
      -- all of the head has come up
      have hcount : listed.toList.countP (fun b => !b) = l.length - ys.length := by
        unfold unlisted at hu; simpa using hu
      have htail : listed.toList.drop ys.length = List.replicate (l.length - ys.length) false := by
        refine List.ext_getElem (by simp [hls]) fun k h1 h2 => ?_
        have hk : ys.length + k < listed.size := by simp at h1; omega
        have := inv.tail (ys.length + k) (by omega) (by rw [← inv.size]; exact hk)
        simpa [hk] using this
      have hsplit : listed.toList = listed.toList.take ys.length ++ List.replicate (l.length - ys.length) false := by rw [← htail, List.take_append_drop]
      have hh : (listed.toList.take ys.length).countP (fun b => !b) = 0 := by
        rw [hsplit, List.countP_append] at hcount
        have hr : (List.replicate (l.length - ys.length) false).countP (fun b => !b) = l.length - ys.length := by rw [List.countP_replicate]; simp
        rw [hr] at hcount
        omega
      have hhead : listed.toList.take ys.length = List.replicate ys.length true := by
        have hlen : (listed.toList.take ys.length).length = ys.length := by simp [hls]; omega
        rw [List.eq_replicate_iff]
        refine ⟨hlen, fun b hb => ?_⟩
        have := List.countP_eq_zero.1 hh b hb
        simpa using this
      have hlisted : listed = (List.replicate ys.length true ++ List.replicate (l.toArray.size - ys.length) false).toArray := by
        have h1 : listed = listed.toList.toArray := by simp
        rw [h1, hsplit, hhead]
        simp
      have hall' : ∀ i, i < ys.length → listed.getD i false = true := by
        intro i hi
        rw [hlisted, Array.getD_eq_getD_getElem?, List.getElem?_toArray, List.getElem?_append_left (by simpa using hi)]
        simp [hi]
      have hfull := hb.full ok hall'
      have := wpAny_of_seq (P := P) (ops := l.toArray) (md := .any) (Q' := Q) (l.drop ys.length) ys.length listed a w (fun j => by simp [List.getElem?_drop]) (by rw [hdl, hlisted]; exact hseq) (by
        rw [hfull]
        exact hend g w hb.below (fun i R hi => hb.held i R hi (hall' i (List.getElem?_eq_some_iff.1 hi).1)))
      rwa [hdl, ← Nat.zero_add (l.toArray.size - ys.length)] at this
    | succ f ih =>
      intro listed a w g inv hu hb
      -- the first one of the head that has not come up
      have hex : ∃ i, i < ys.length ∧ listed.getD i false = false := by
        refine Classical.byContradiction fun hno => ?_
        have hno' : ∀ i, i < ys.length → listed.getD i false = true := fun i hi => by
          cases h : listed.getD i false with
          | true => rfl
          | false => exact absurd ⟨i, hi, h⟩ hno
        have hls : listed.size = l.length := by have := inv.size; simpa using this
        have h0 : (listed.toList.take ys.length).countP (fun b => !b) = 0 := by
          rw [List.countP_eq_zero]
          intro b hb'
          obtain ⟨k, hk, rfl⟩ := List.getElem_of_mem hb'
          have hk1 : k < ys.length := by simp at hk; omega
          have hk2 : k < listed.size := by omega
          have := hno' k hk1
          simpa [hk2] using this
        have h1 := List.countP_le_length (p := fun b => !b) (l := listed.toList.drop ys.length)
        have h2 : unlisted listed = (listed.toList.take ys.length).countP (fun b => !b) + (listed.toList.drop ys.length).countP (fun b => !b) := by
          unfold unlisted; rw [← List.countP_append, List.take_append_drop]
        simp only [List.length_drop, Array.length_toList, hls] at h1
        have h3 : l.toArray.size = l.length := by simp
        omega
      have hleast : ∀ m : Nat, (∃ i, i < m ∧ i < ys.length ∧ listed.getD i false = false) → ∃ i, i < ys.length ∧ listed.getD i false = false ∧ ∀ j, j < i → listed.getD j false = true := by
        intro m
        induction m with
        | zero => rintro ⟨i, hi, _⟩; omega
        | succ m ih2 =>
          rintro ⟨i, hi, hiy, hil⟩
          by_cases hsm : ∃ j, j < m ∧ j < ys.length ∧ listed.getD j false = false
          · exact ih2 hsm
          · refine ⟨i, hiy, hil, fun j hj => ?_⟩
            cases h : listed.getD j false with
            | true => rfl
            | false => exact absurd ⟨j, by omega, by omega, h⟩ hsm
      obtain ⟨i, hi, hil, hlt⟩ := hleast ys.length (by obtain ⟨i, h1, h2⟩ := hex; exact ⟨i, h1, h1, h2⟩)
      have hsize : ∀ k, k < ys.length → k < listed.size := fun k hk => by rw [inv.size]; omega
      have hready : i ∈ Region.ready .any l.toArray listed := by
        obtain ⟨o, ho⟩ := ok.there i hi
        exact mem_ready.2 ⟨getD_in (hsize i hi) hil, o, by simpa using ho, fun e he hbd => hlt _ (ok.back i o hi ho e he hbd)⟩
      rw [show f + 1 + (l.toArray.size - ys.length) = (f + (l.toArray.size - ys.length)) + 1 by omega]
      refine ⟨fun h0 => (by rw [h0] at hready; cases hready), fun j hj => ?_⟩
      have hjn : j < ys.length := by
        rcases Nat.lt_or_ge j ys.length with h | h
        · exact h
        · exact absurd hj (tail_waits hs hc hn inv _ i rfl hi (getD_in (hsize i hi) hil) j h)
      refine wpOp_mono (fun a' w' ⟨g', hb'⟩ => ih _ a' w' g' (inv.set hj hjn) ?_ hb') (step2 ok hb hsel hgd hall inv.size hjn hj)
      have := unlisted_set (mem_ready.1 hj).1
      omega
  have inv0 : HeadInv .any l.toArray ys.length (Array.replicate l.toArray.size false) :=
    ⟨by simp, fun j oj _ hl => (by rw [getD_replicate_false] at hl; cases hl), fun t _ ht => getD_in (by simpa using ht) (getD_replicate_false _ _)⟩
  have hu : unlisted (Array.replicate l.toArray.size false) = ys.length + (l.toArray.size - ys.length) := by
    unfold unlisted
    rw [Array.toList_replicate, List.countP_replicate]
    simp
    omega
  have := key ys.length _ a0 { W with drawn := W.drawn + 1 } (fun _ => undef) inv0 hu
    ⟨rfl, rfl, ⟨rfl, rfl, rfl, Nat.le_refl _, fun _ _ => rfl⟩, fun _ _ => rfl, fun i o y d _ _ hl => (by rw [getD_replicate_false] at hl; cases hl), fun i R _ hl => (by rw [getD_replicate_false] at hl; cases hl)⟩
  rwa [show ys.length + (l.toArray.size - ys.length) = l.toArray.size by omega] at this

/-- .. without a tail. -/
theorem wp_region_hold_all2 {id : Nat} {Q : Exit → Act → World → Prop} (ys : List Leave) (hm : P.follows .mixedOrders = true)
    (hB : (Region.noSelect l.toArray && decide (ys.length = l.length) && headB l ys.length a0.tmps.size) = true)
    (hgd : guards2B l ys ys = true)
    (hall : allLeave P (fun g => fill g 0 l ys a0) ys W l ys)
    (hend : ∀ (g : Nat → Value) (w' : World), Below W.heap.size W w' → (∀ (i : Nat) R, ys[i]? = some (.some R) → R w' (g i)) → Q .normal (fill g 0 l ys a0) w') :
    (Code.region id l.toArray true).wp P Q a0 W := by
  simp only [Bool.and_eq_true, decide_eq_true_eq] at hB
  obtain ⟨⟨hsel, hn⟩, hhead⟩ := hB
  have ok := headOk hhead
  refine wp_region_any hm ?_
  have key : ∀ (f : Nat) (listed : Array Bool) (a : Act) (w : World) (g : Nat → Value), listed.size = l.length → unlisted listed = f → Telling l ys a0 W g listed a w → wpAny P .any l.toArray Q f listed a w := by
    intro f
    induction f with
    | zero =>
      intro listed a w g hsz hu hb
      have hall' : ∀ i, i < ys.length → listed.getD i false = true := fun i hi => HoldAll.listed_all hu (by omega)
      refine wpAny_done ?_ ?_ 0
      · refine List.eq_nil_iff_forall_not_mem.2 fun i hi => ?_
        obtain ⟨hun, o, ho, -⟩ := mem_ready.1 hi
        have ho' : l[i]? = some o := by simpa using ho
        have hil := (List.getElem?_eq_some_iff.1 ho').1
        have := hall' i (by omega)
        rw [getD_both hun] at this
        cases this
      · rw [hb.full ok hall']
        exact hend g w hb.below (fun i R hi => hb.held i R hi (hall' i (List.getElem?_eq_some_iff.1 hi).1))
    | succ f ih =>
      intro listed a w g hsz hu hb
      have hex : ∃ i, i < ys.length ∧ listed.getD i false = false := by
        refine Classical.byContradiction fun hno => ?_
        have h0 : listed.toList.countP (fun b => !b) = 0 := by
          rw [List.countP_eq_zero]
          intro b hb'
          obtain ⟨k, hk, rfl⟩ := List.getElem_of_mem hb'
          have hk2 : k < listed.size := by simpa using hk
          cases h : listed.getD k false with
          | true => simpa [hk2] using h
          | false => exact absurd ⟨k, by omega, h⟩ hno
        unfold unlisted at hu
        rw [h0] at hu
        cases hu
      have hleast : ∀ m : Nat, (∃ i, i < m ∧ i < ys.length ∧ listed.getD i false = false) → ∃ i, i < ys.length ∧ listed.getD i false = false ∧ ∀ j, j < i → listed.getD j false = true := by
        intro m
        induction m with
        | zero => rintro ⟨i, hi, _⟩; omega
        | succ m ih2 =>
          rintro ⟨i, hi, hiy, hil⟩
          by_cases hsm : ∃ j, j < m ∧ j < ys.length ∧ listed.getD j false = false
          · exact ih2 hsm
          · refine ⟨i, hiy, hil, fun j hj => ?_⟩
            cases h : listed.getD j false with
            | true => rfl
            | false => exact absurd ⟨j, by omega, by omega, h⟩ hsm
      obtain ⟨i, hi, hil, hlt⟩ := hleast ys.length (by obtain ⟨i, h1, h2⟩ := hex; exact ⟨i, h1, h1, h2⟩)
      have hready : i ∈ Region.ready .any l.toArray listed := by
        obtain ⟨o, ho⟩ := ok.there i hi
        exact mem_ready.2 ⟨getD_in (by omega) hil, o, by simpa using ho, fun e he hbd => hlt _ (ok.back i o hi ho e he hbd)⟩
      refine ⟨fun h0 => (by rw [h0] at hready; cases hready), fun j hj => ?_⟩
      have hjn : j < ys.length := by
        obtain ⟨-, o, ho, -⟩ := mem_ready.1 hj
        have ho' : l[j]? = some o := by simpa using ho
        have := (List.getElem?_eq_some_iff.1 ho').1
        omega
      refine wpOp_mono (fun a' w' ⟨g', hb'⟩ => ih _ a' w' g' (by simp [hsz]) ?_ hb') (step2 ok hb hsel hgd hall (by simpa using hsz) hjn hj)
      have := unlisted_set (mem_ready.1 hj).1
      omega
  have hu : unlisted (Array.replicate l.toArray.size false) = l.toArray.size := by
    unfold unlisted
    rw [Array.toList_replicate, List.countP_replicate]
    simp
  exact key l.toArray.size _ a0 { W with drawn := W.drawn + 1 } (fun _ => undef) (by simp) hu
    ⟨rfl, rfl, ⟨rfl, rfl, rfl, Nat.le_refl _, fun _ _ => rfl⟩, fun _ _ => rfl, fun i o y d _ _ hl => (by rw [getD_replicate_false] at hl; cases hl), fun i R _ hl => (by rw [getD_replicate_false] at hl; cases hl)⟩

end Hold2

end Go.Proofs.YtfomhdhiibcdfaaGreat.More
