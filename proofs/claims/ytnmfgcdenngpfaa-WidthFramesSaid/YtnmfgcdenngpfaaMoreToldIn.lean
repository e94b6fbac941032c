/- The law of Told in a round of a range over a function: what each operation of a region's head leaves is listed once, whatever the order. -/
import Derived.Test.YtnmfgcdenngpfaaTold
import Derived.OrdersIn
import Derived.OwnWalkIn
import Derived.RangeFuncCalls
namespace Go.Proofs.Ytnmfgcdenngpfaa.More
open Go.RowKit Go.Sort Go.Proofs.Ytnmfgcdenngpfaa.Told

def noDefer (l : List Oper) (n : Nat) : Bool :=
  (List.range n).all fun i => match l[i]? with
    | some o => (match o.op with | .defer _ => false | _ => true)
    | none => true

theorem noDefer_spec {l : List Oper} {n i : Nat} {o : Oper} (h : noDefer l n = true) (hi : i < n) (ho : l[i]? = some o) : ∀ c, o.op ≠ .defer c := by
  intro c hc
  have := List.all_eq_true.1 h i (List.mem_range.2 hi)
  rw [ho] at this
  simp only [hc] at this
  cases this

section
variable {P : Program}

theorem tellingIn_step {l : List Oper} {ys : List Leave} {a0 : Act} {W : World} {lo nF : Nat} {g : Nat → Nat} {listed : Array Bool} {a : Act} {w : World} {Q : Exit → Act → World → Prop} (ok : HeadOk l ys.length a0.tmps.size) (h : Telling l ys a0 W g listed a w) (hs : Region.noSelect l.toArray = true)
    (hgd : guardsB l ys ys = true) (hdf : noDefer l ys.length = true) (hall : allLeave P (fun g => fill g 0 l ys a0) ys W l ys) (hsz : listed.size = l.toArray.size) {i : Nat} (hi : i < ys.length) (hr : i ∈ Region.ready .any l.toArray listed) :
    wpOpIn (Fence.wide.inRound lo) nF P l.toArray Q i (fun a' w' => ∃ g, Telling l ys a0 W g (listed.setIfInBounds i true) a' w') a w := by
  obtain ⟨hun, o, ho, hdep⟩ := mem_ready.1 hr
  have ho' : l[i]? = some o := by simpa using ho
  have hy : ys[i]? = some ys[i] := by simp [hi]
  have hsame := h.same ok hs hi ho' hdep
  have hY := allLeave_at hall ho' hy
  have hun' : listed.getD i false = false := getD_both hun
  have hin : i < listed.size := by
    rw [hsz]; simpa using (List.getElem?_eq_some_iff.1 ho').1
  have hkn : known ys o W g w := fun e he hb y b hye hyb => h.boxes e.on y b hye hyb (hdep e he hb)
  have hw : Region.wanted o (yielded l.toArray a.tmps) = !(ys[i]).isSkip := by
    rcases guards_at hgd ho' hy with ⟨hg, hsk⟩ | ⟨k, b, c, hg, ⟨e, he, hb, hon⟩, hk, hcb⟩
    · simp [Region.wanted, hg, hsk]
    · have hlk : listed.getD k false = true := by rw [← hon]; exact hdep e he hb
      have hkl : k < ys.length := (List.getElem?_eq_some_iff.1 hk).1
      obtain ⟨p, hp⟩ := ok.there k hkl
      obtain ⟨d, hd1, hd2⟩ := ok.dst k p hkl hp
      have hsl := h.slot k p _ d hp hk hlk hd1
      have hda : d < a.tmps.size := by rw [h.size]; exact hd2
      have hyl : yielded l.toArray a.tmps k = some c := by
        unfold yielded
        simp only [List.getElem?_toArray, hp, Option.bind_some, hd1]
        have : a.tmps[d]? = some (.bool c) := by
          rw [Array.getElem?_eq_getElem hda]
          simpa [Leave.value, hda] using hsl
        rw [this]
      simp only [Region.wanted, hg, hyl]
      rw [← hcb]
      cases c <;> cases b <;> rfl
  have hnd : ∀ c, o.op ≠ .defer c := noDefer_spec hdf hi ho'
  unfold wpOpIn
  simp only [ho, hw]
  revert hY
  generalize hyi : ys[i] = y at *
  cases y with
  | skip =>
    intro _
    simp only [Leave.isSkip, Bool.not_true, Bool.false_eq_true, if_false]
    exact ⟨fun _ _ => trivial, g, h.plain ok hi ho' hy hin hun' rfl rfl (Below.refl _ _)⟩
  | val v =>
    intro hY
    simp only [Leave.isSkip, Bool.not_false, if_true]
    unfold Oper.wpIn
    refine ⟨fun _ _ => trivial, ?_⟩
    rw [Oper.semAt_plain _ _ _ hnd, hsame]
    have h3 := hY g w h.below hkn
    generalize (execOp (fill g 0 l ys a0).eval o).run P w = r at *
    cases r with
    | ok nx w' =>
      cases nx <;> simp only [stays] at h3 <;> simp only [Oper.uponIn]
      case value u =>
        obtain ⟨rfl, rfl⟩ := h3
        exact ⟨g, h.plain ok hi ho' hy hin hun' rfl rfl (Below.refl _ _)⟩
      case enter f args =>
        obtain ⟨rfl, hc⟩ := h3
        refine ⟨(fun hd => by cases hd), (CallsIn.inRound lo (callsIn_wide.2 hc)).mono fun e w'' ⟨he, hb⟩ => ?_⟩
        subst he
        exact ⟨g, h.plain ok hi ho' hy hin hun' rfl rfl hb⟩
    | halt x w' => simp only [stays] at h3
  | box b =>
    intro hY
    simp only [Leave.isSkip, Bool.not_false, if_true]
    unfold Oper.wpIn
    refine ⟨fun _ _ => trivial, ?_⟩
    rw [Oper.semAt_plain _ _ _ hnd, hsame, hY g w h.below hkn]
    simp only [Oper.uponIn]
    exact h.block ok hi ho' hy hin hun' rfl
  | row b n c =>
    intro hY
    simp only [Leave.isSkip, Bool.not_false, if_true]
    unfold Oper.wpIn
    refine ⟨fun _ _ => trivial, ?_⟩
    rw [Oper.semAt_plain _ _ _ hnd, hsame, hY g w h.below hkn]
    simp only [Oper.uponIn]
    exact h.block ok hi ho' hy hin hun' rfl

end

section
variable {P : Program} {l : List Oper} {a0 : Act} {W : World}

/-- A region that draws its order: the operations of its head leave what is listed; new blocks are apart; then its tail, one by one. -/
theorem wpIn_region_told {lo nF : Nat} {id : Nat} {Q : Exit → Act → World → Prop} (ys : List Leave) (hm : P.follows .mixedOrders = true)
    (hB : (Region.noSelect l.toArray && decide (ys.length < l.toArray.size) && Region.sinkB .any l.toArray ys.length && Region.chainB .any l.toArray ys.length &&
      noDefer l ys.length && headB l ys.length a0.tmps.size) = true)
    (hgd : guardsB l ys ys = true)
    (hall : allLeave P (fun g => fill g 0 l ys a0) ys W l ys)
    (hend : ∀ (g : Nat → Nat) (w' : World), Below W.heap.size W w' → (∀ i y b, ys[i]? = some y → y.obj = some b → W.heap.size ≤ g i ∧ w'.heap[g i]? = some b) →
      (∀ i j y z b c, i ≠ j → ys[i]? = some y → ys[j]? = some z → y.obj = some b → z.obj = some c → g i ≠ g j) → wpAnyIn (Fence.wide.inRound lo) nF P .any l.toArray Q (l.length - ys.length) (List.replicate ys.length true ++ List.replicate (l.length - ys.length) false).toArray (fill g 0 l ys a0) w') :
    (Code.region id l.toArray true).wpIn (Fence.wide.inRound lo) nF P Q a0 W := by
  simp only [Bool.and_eq_true, decide_eq_true_eq] at hB
  obtain ⟨⟨⟨⟨⟨hsel, hn⟩, hs⟩, hc⟩, hdf⟩, hhead⟩ := hB
  have ok := headOk hhead
  have hn' : ys.length < l.length := by simpa using hn
  refine wpIn_region_any hm ?_
  have key : ∀ (f : Nat) (listed : Array Bool) (a : Act) (w : World) (g : Nat → Nat), HeadInv .any l.toArray ys.length listed → unlisted listed = f + (l.toArray.size - ys.length) → Telling l ys a0 W g listed a w →
      wpAnyIn (Fence.wide.inRound lo) nF P .any l.toArray Q (f + (l.toArray.size - ys.length)) listed a w := by
    intro f
    induction f with
    | zero =>
      intro listed a w g inv hu hb
      have hls : listed.size = l.length := by have := inv.size; simpa using this
      -- all of the head has come up
      have hcount : listed.toList.countP (fun b => !b) = l.length - ys.length := by
        unfold unlisted at hu; simpa using hu
      have htail : listed.toList.drop ys.length = List.replicate (l.length - ys.length) false := by
        refine List.ext_getElem (by simp [hls]) fun k h1 h2 => ?_
        have hk : ys.length + k < listed.size := by simp at h1; omega
        have := inv.tail (ys.length + k) (by omega) (by rw [← inv.size]; exact hk)
        simpa [hk] using this
      have hsplit : listed.toList = listed.toList.take ys.length ++ List.replicate (l.length - ys.length) false := by rw [← htail, List.take_append_drop]
      have hh : (listed.toList.take ys.length).countP (fun b => !b) = 0 := by
        rw [hsplit, List.countP_append] at hcount
        have hr : (List.replicate (l.length - ys.length) false).countP (fun b => !b) = l.length - ys.length := by rw [List.countP_replicate]; simp
        rw [hr] at hcount
        omega
      have hhead : listed.toList.take ys.length = List.replicate ys.length true := by
        have hlen : (listed.toList.take ys.length).length = ys.length := by simp [hls]; omega
        rw [List.eq_replicate_iff]
        refine ⟨hlen, fun b hb => ?_⟩
        have := List.countP_eq_zero.1 hh b hb
        simpa using this
      have hlisted : listed = (List.replicate ys.length true ++ List.replicate (l.toArray.size - ys.length) false).toArray := by
        have h1 : listed = listed.toList.toArray := by simp
        rw [h1, hsplit, hhead]
        simp
      have hall' : ∀ i, i < ys.length → listed.getD i false = true := by
        intro i hi
        rw [hlisted, Array.getD_eq_getD_getElem?, List.getElem?_toArray, List.getElem?_append_left (by simpa using hi)]
        simp [hi]
      have hfull := hb.full ok hall'
      have := hend g w hb.below (fun i y b hi hy => hb.boxes i y b hi hy (hall' i (List.getElem?_eq_some_iff.1 hi).1)) (fun i j y z b c hij hi hj hy hz => hb.apart i j y z b c hij hi hj hy hz (hall' i (List.getElem?_eq_some_iff.1 hi).1) (hall' j (List.getElem?_eq_some_iff.1 hj).1))
      rw [hfull, hlisted, Nat.zero_add]
      simpa using this
    | succ f ih =>
      intro listed a w g inv hu hb
      -- the first one of the head that has not come up
      have hex : ∃ i, i < ys.length ∧ listed.getD i false = false := by
        refine Classical.byContradiction fun hno => ?_
        have hno' : ∀ i, i < ys.length → listed.getD i false = true := fun i hi => by
          cases h : listed.getD i false with
          | true => rfl
          | false => exact absurd ⟨i, hi, h⟩ hno
        have hls : listed.size = l.length := by have := inv.size; simpa using this
        have h0 : (listed.toList.take ys.length).countP (fun b => !b) = 0 := by
          rw [List.countP_eq_zero]
          intro b hb'
          obtain ⟨k, hk, rfl⟩ := List.getElem_of_mem hb'
          have hk1 : k < ys.length := by simp at hk; omega
          have hk2 : k < listed.size := by omega
          have := hno' k hk1
          simpa [hk2] using this
        have h1 := List.countP_le_length (p := fun b => !b) (l := listed.toList.drop ys.length)
        have h2 : unlisted listed = (listed.toList.take ys.length).countP (fun b => !b) + (listed.toList.drop ys.length).countP (fun b => !b) := by
          unfold unlisted; rw [← List.countP_append, List.take_append_drop]
        simp only [List.length_drop, Array.length_toList, hls] at h1
        have h3 : l.toArray.size = l.length := by simp
        omega
      have hleast : ∀ m : Nat, (∃ i, i < m ∧ i < ys.length ∧ listed.getD i false = false) → ∃ i, i < ys.length ∧ listed.getD i false = false ∧ ∀ j, j < i → listed.getD j false = true := by
        intro m
        induction m with
        | zero => rintro ⟨i, hi, _⟩; omega
        | succ m ih2 =>
          rintro ⟨i, hi, hiy, hil⟩
          by_cases hsm : ∃ j, j < m ∧ j < ys.length ∧ listed.getD j false = false
          · exact ih2 hsm
          · refine ⟨i, hiy, hil, fun j hj => ?_⟩
            cases h : listed.getD j false with
            | true => rfl
            | false => exact absurd ⟨j, by omega, by omega, h⟩ hsm
      obtain ⟨i, hi, hil, hlt⟩ := hleast ys.length (by obtain ⟨i, h1, h2⟩ := hex; exact ⟨i, h1, h1, h2⟩)
      have hsize : ∀ k, k < ys.length → k < listed.size := fun k hk => by rw [inv.size]; omega
      have hready : i ∈ Region.ready .any l.toArray listed := by
        obtain ⟨o, ho⟩ := ok.there i hi
        exact mem_ready.2 ⟨getD_in (hsize i hi) hil, o, by simpa using ho, fun e he hbd => hlt _ (ok.back i o hi ho e he hbd)⟩
      rw [show f + 1 + (l.toArray.size - ys.length) = (f + (l.toArray.size - ys.length)) + 1 by omega]
      refine ⟨fun h0 => (by rw [h0] at hready; cases hready), fun j hj => ?_⟩
      have hjn : j < ys.length := by
        rcases Nat.lt_or_ge j ys.length with h | h
        · exact h
        · exact absurd hj (tail_waits hs hc hn inv _ i rfl hi (getD_in (hsize i hi) hil) j h)
      refine wpOpIn_mono (fun a' w' ⟨g', hb'⟩ => ih _ a' w' g' (inv.set hj hjn) ?_ hb') (tellingIn_step ok hb hsel hgd hdf hall inv.size hjn hj)
      have := unlisted_set (mem_ready.1 hj).1
      omega
  have inv0 : HeadInv .any l.toArray ys.length (Array.replicate l.toArray.size false) :=
    ⟨by simp, fun j oj _ hl => (by rw [getD_replicate_false] at hl; cases hl), fun t _ ht => getD_in (by simpa using ht) (getD_replicate_false _ _)⟩
  have hu : unlisted (Array.replicate l.toArray.size false) = ys.length + (l.toArray.size - ys.length) := by
    unfold unlisted
    rw [Array.toList_replicate, List.countP_replicate]
    simp
    omega
  have := key ys.length _ a0 { W with drawn := W.drawn + 1 } (fun _ => 0) inv0 hu
    ⟨rfl, rfl, ⟨rfl, rfl, rfl, Nat.le_refl _, fun _ _ => rfl⟩, fun _ _ => rfl, fun i o y d _ _ hl => (by rw [getD_replicate_false] at hl; cases hl), fun i y b _ _ hl => (by rw [getD_replicate_false] at hl; cases hl),
      fun i j y z b c _ _ _ _ _ hl => (by rw [getD_replicate_false] at hl; cases hl)⟩
  rwa [show ys.length + (l.toArray.size - ys.length) = l.toArray.size by omega] at this

end

end Go.Proofs.Ytnmfgcdenngpfaa.More
