/- Texts of this proof that follow each other, in one file. -/
import Derived.Test.YtflncnfagoekcaaPart13
import Derived.Test.YtflncnfagoekcaaPart11
import Derived.Test.YtflncnfagoekcaaPart1
import Derived.RangeFuncLeaves
import Derived.RangeFuncWrites
import Derived.Test.YtflncnfagoekcaaPart9
import Derived.RangeFuncBox
import Derived.Deep.MidRow
import Derived.Laws.CopyOwn
import Derived.Deep.DeepCutAuto
/-! The law of Hold in a round of a range over a function: what each operation of a region's head leaves, or what is said of it, is listed once, whatever the order. -/
namespace Go.Proofs.Ytflncnfagoekcaa.More
open Go.RowKit Go.Sort Go.Proofs.Ytflncnfagoekcaa.More.Hold

section
variable {P : Program}

theorem holdingIn_step {l : List Oper} {ys : List Leave} {a0 : Act} {W : World} {lo nF : Nat} {g : Nat → Value} {listed : Array Bool} {a : Act} {w : World} {Q : Exit → Act → World → Prop} (ok : HeadOk l ys.length a0.tmps.size) (h : Telling l ys a0 W g listed a w) (hs : Region.noSelect l.toArray = true)
    (hgd : guardsB l ys ys = true) (hdf : noDefer l ys.length = true) (hall : allLeave P (fun g => fill g 0 l ys a0) ys W l ys) (hsz : listed.size = l.toArray.size) {i : Nat} (hi : i < ys.length) (hr : i ∈ Region.ready .any l.toArray listed) :
    wpOpIn (Fence.wide.inRound lo) nF P l.toArray Q i (fun a' w' => ∃ g, Telling l ys a0 W g (listed.setIfInBounds i true) a' w') a w := by
  obtain ⟨hun, o, ho, hdep⟩ := mem_ready.1 hr
  have ho' : l[i]? = some o := by simpa using ho
  have hy : ys[i]? = some ys[i] := by simp [hi]
  have hsame := h.same ok hs hi ho' hdep
  have hY := allLeave_at hall ho' hy
  have hun' : listed.getD i false = false := getD_both hun
  have hin : i < listed.size := by
    rw [hsz]; simpa using (List.getElem?_eq_some_iff.1 ho').1
  have hkn : known ys o g w := fun e he hb R hye => h.held e.on R hye (hdep e he hb)
  have hkp : allKeep ys := allKeep_of hall ok.there
  have hw : Region.wanted o (yielded l.toArray a.tmps) = !(ys[i]).isSkip := by
    rcases guards_at hgd ho' hy with ⟨hg, hsk⟩ | ⟨k, b, c, hg, ⟨e, he, hb, hon⟩, hk, hcb⟩
    · simp [Region.wanted, hg, hsk]
    · have hlk : listed.getD k false = true := by rw [← hon]; exact hdep e he hb
      have hkl : k < ys.length := (List.getElem?_eq_some_iff.1 hk).1
      obtain ⟨p, hp⟩ := ok.there k hkl
      obtain ⟨d, hd1, hd2⟩ := ok.dst k p hkl hp
      have hsl := h.slot k p _ d hp hk hlk hd1
      have hda : d < a.tmps.size := by rw [h.size]; exact hd2
      have hyl : yielded l.toArray a.tmps k = some c := by
        unfold yielded
        simp only [List.getElem?_toArray, hp, Option.bind_some, hd1]
        have : a.tmps[d]? = some (.bool c) := by
          rw [Array.getElem?_eq_getElem hda]
          simpa [Leave.value, hda] using hsl
        rw [this]
      simp only [Region.wanted, hg, hyl]
      rw [← hcb]
      cases c <;> cases b <;> rfl
  have hnd : ∀ c, o.op ≠ .defer c := noDefer_spec hdf hi ho'
  unfold wpOpIn
  simp only [ho, hw]
  revert hY
  generalize hyi : ys[i] = y at *
  cases y with
  | skip =>
    intro _
    simp only [Leave.isSkip, Bool.not_true, Bool.false_eq_true, if_false]
    exact ⟨fun _ _ => trivial, h.more (u := undef) ok hkp hi ho' hy hin hun' rfl (fun R e => by cases e) (Below.refl _ _)⟩
  | val v =>
    intro hY
    simp only [Leave.isSkip, Bool.not_false, if_true]
    unfold Oper.wpIn
    refine ⟨fun _ _ => trivial, ?_⟩
    rw [Oper.semAt_plain _ _ _ hnd, hsame]
    have h3 := hY g w h.below hkn
    generalize (execOp (fill g 0 l ys a0).eval o).run P w = r at *
    cases r with
    | ok nx w' =>
      cases nx <;> simp only [stays] at h3 <;> simp only [Oper.uponIn]
      case value u =>
        obtain ⟨rfl, rfl⟩ := h3
        exact h.more (u := undef) ok hkp hi ho' hy hin hun' rfl (fun R e => by cases e) (Below.refl _ _)
      case enter f args =>
        obtain ⟨rfl, hc⟩ := h3
        refine ⟨(fun hd => by cases hd), (CallsIn.inRound lo (callsIn_wide.2 hc)).mono fun e w'' ⟨he, hb⟩ => ?_⟩
        subst he
        exact h.more (u := undef) ok hkp hi ho' hy hin hun' rfl (fun R e => by cases e) hb
    | halt x w' => simp only [stays] at h3
  | some R =>
    intro hY
    simp only [Leave.isSkip, Bool.not_false, if_true]
    unfold Oper.wpIn
    refine ⟨fun _ _ => trivial, ?_⟩
    rw [Oper.semAt_plain _ _ _ hnd, hsame]
    have h3 := hY.2 g w h.below hkn
    generalize (execOp (fill g 0 l ys a0).eval o).run P w = r at *
    cases r with
    | ok nx w' =>
      cases nx <;> simp only [gives] at h3 <;> simp only [Oper.uponIn]
      case value u =>
        obtain ⟨hb, hr⟩ := h3
        exact h.more (u := u) ok hkp hi ho' hy hin hun' rfl (fun R e => by cases e; exact hr) hb
      case enter f args =>
        obtain ⟨rfl, hc⟩ := h3
        refine ⟨(fun hd => by cases hd), (CallsIn.inRound lo (callsIn_wide.2 hc)).mono fun e w'' ⟨u, he, hr, hb⟩ => ?_⟩
        subst he
        exact h.more (u := u) ok hkp hi ho' hy hin hun' rfl (fun R e => by cases e; exact hr) hb
    | halt x w' => simp only [gives] at h3

end

section
variable {P : Program} {l : List Oper} {a0 : Act} {W : World}

/-- A region that draws its order: the operations of its head leave what is listed, or of which something is said; then its tail, one by one. -/
theorem wpIn_region_hold {lo nF : Nat} {id : Nat} {Q : Exit → Act → World → Prop} (ys : List Leave) (hm : P.follows .mixedOrders = true)
    (hB : (Region.noSelect l.toArray && decide (ys.length < l.toArray.size) && Region.sinkB .any l.toArray ys.length && Region.chainB .any l.toArray ys.length &&
      noDefer l ys.length && headB l ys.length a0.tmps.size) = true)
    (hgd : guardsB l ys ys = true)
    (hall : allLeave P (fun g => fill g 0 l ys a0) ys W l ys)
    (hend : ∀ (g : Nat → Value) (w' : World), Below W.heap.size W w' → (∀ (i : Nat) R, ys[i]? = some (.some R) → R w' (g i)) → wpAnyIn (Fence.wide.inRound lo) nF P .any l.toArray Q (l.length - ys.length) (List.replicate ys.length true ++ List.replicate (l.length - ys.length) false).toArray (fill g 0 l ys a0) w') :
    (Code.region id l.toArray true).wpIn (Fence.wide.inRound lo) nF P Q a0 W := by
  simp only [Bool.and_eq_true, decide_eq_true_eq] at hB
  obtain ⟨⟨⟨⟨⟨hsel, hn⟩, hs⟩, hc⟩, hdf⟩, hhead⟩ := hB
  have ok := headOk hhead
  have hn' : ys.length < l.length := by simpa using hn
  refine wpIn_region_any hm ?_
  have key : ∀ (f : Nat) (listed : Array Bool) (a : Act) (w : World) (g : Nat → Value), HeadInv .any l.toArray ys.length listed → unlisted listed = f + (l.toArray.size - ys.length) → Telling l ys a0 W g listed a w →
      wpAnyIn (Fence.wide.inRound lo) nF P .any l.toArray Q (f + (l.toArray.size - ys.length)) listed a w := by
    intro f
    induction f with
    | zero =>
      intro listed a w g inv hu hb
      have hls : listed.size = l.length := by have := inv.size; simpa using this
      -- all of the head has come up
      have hcount : listed.toList.countP (fun b => !b) = l.length - ys.length := by
        unfold unlisted at hu; simpa using hu
      have htail : listed.toList.drop ys.length = List.replicate (l.length - ys.length) false := by
        refine List.ext_getElem (by simp [hls]) fun k h1 h2 => ?_
        have hk : ys.length + k < listed.size := by simp at h1; omega
        have := inv.tail (ys.length + k) (by omega) (by rw [← inv.size]; exact hk)
        simpa [hk] using this
      have hsplit : listed.toList = listed.toList.take ys.length ++ List.replicate (l.length - ys.length) false := by rw [← htail, List.take_append_drop]
      have hh : (listed.toList.take ys.length).countP (fun b => !b) = 0 := by
        rw [hsplit, List.countP_append] at hcount
        have hr : (List.replicate (l.length - ys.length) false).countP (fun b => !b) = l.length - ys.length := by rw [List.countP_replicate]; simp
        rw [hr] at hcount
        omega
      have hhead : listed.toList.take ys.length = List.replicate ys.length true := by
        have hlen : (listed.toList.take ys.length).length = ys.length := by simp [hls]; omega
        rw [List.eq_replicate_iff]
        refine ⟨hlen, fun b hb => ?_⟩
        have := List.countP_eq_zero.1 hh b hb
        simpa using this
      have hlisted : listed = (List.replicate ys.length true ++ List.replicate (l.toArray.size - ys.length) false).toArray := by
        have h1 : listed = listed.toList.toArray := by simp
        rw [h1, hsplit, hhead]
        simp
      have hall' : ∀ i, i < ys.length → listed.getD i false = true := by
        intro i hi
        rw [hlisted, Array.getD_eq_getD_getElem?, List.getElem?_toArray, List.getElem?_append_left (by simpa using hi)]
        simp [hi]
      have hfull := hb.full ok hall'
      have := hend g w hb.below (fun i R hi => hb.held i R hi (hall' i (List.getElem?_eq_some_iff.1 hi).1))
      rw [hfull, hlisted, Nat.zero_add]
      simpa using this
    | succ f ih =>
      intro listed a w g inv hu hb
      -- the first one of the head that has not come up
      have hex : ∃ i, i < ys.length ∧ listed.getD i false = false := by
        refine Classical.byContradiction fun hno => ?_
        have hno' : ∀ i, i < ys.length → listed.getD i false = true := fun i hi => by
          cases h : listed.getD i false with
          | true => rfl
          | false => exact absurd ⟨i, hi, h⟩ hno
        have hls : listed.size = l.length := by have := inv.size; simpa using this
        have h0 : (listed.toList.take ys.length).countP (fun b => !b) = 0 := by
          rw [List.countP_eq_zero]
          intro b hb'
          obtain ⟨k, hk, rfl⟩ := List.getElem_of_mem hb'
          have hk1 : k < ys.length := by simp at hk; omega
          have hk2 : k < listed.size := by omega
          have := hno' k hk1
          simpa [hk2] using this
        have h1 := List.countP_le_length (p := fun b => !b) (l := listed.toList.drop ys.length)
        have h2 : unlisted listed = (listed.toList.take ys.length).countP (fun b => !b) + (listed.toList.drop ys.length).countP (fun b => !b) := by
          unfold unlisted; rw [← List.countP_append, List.take_append_drop]
        simp only [List.length_drop, Array.length_toList, hls] at h1
        have h3 : l.toArray.size = l.length := by simp
        omega
      have hleast : ∀ m : Nat, (∃ i, i < m ∧ i < ys.length ∧ listed.getD i false = false) → ∃ i, i < ys.length ∧ listed.getD i false = false ∧ ∀ j, j < i → listed.getD j false = true := by
        intro m
        induction m with
        | zero => rintro ⟨i, hi, _⟩; omega
        | succ m ih2 =>
          rintro ⟨i, hi, hiy, hil⟩
          by_cases hsm : ∃ j, j < m ∧ j < ys.length ∧ listed.getD j false = false
          · exact ih2 hsm
          · refine ⟨i, hiy, hil, fun j hj => ?_⟩
            cases h : listed.getD j false with
            | true => rfl
            | false => exact absurd ⟨j, by omega, by omega, h⟩ hsm
      obtain ⟨i, hi, hil, hlt⟩ := hleast ys.length (by obtain ⟨i, h1, h2⟩ := hex; exact ⟨i, h1, h1, h2⟩)
      have hsize : ∀ k, k < ys.length → k < listed.size := fun k hk => by rw [inv.size]; omega
      have hready : i ∈ Region.ready .any l.toArray listed := by
        obtain ⟨o, ho⟩ := ok.there i hi
        exact mem_ready.2 ⟨getD_in (hsize i hi) hil, o, by simpa using ho, fun e he hbd => hlt _ (ok.back i o hi ho e he hbd)⟩
      rw [show f + 1 + (l.toArray.size - ys.length) = (f + (l.toArray.size - ys.length)) + 1 by omega]
      refine ⟨fun h0 => (by rw [h0] at hready; cases hready), fun j hj => ?_⟩
      have hjn : j < ys.length := by
        rcases Nat.lt_or_ge j ys.length with h | h
        · exact h
        · exact absurd hj (tail_waits hs hc hn inv _ i rfl hi (getD_in (hsize i hi) hil) j h)
      refine wpOpIn_mono (fun a' w' ⟨g', hb'⟩ => ih _ a' w' g' (inv.set hj hjn) ?_ hb') (holdingIn_step ok hb hsel hgd hdf hall inv.size hjn hj)
      have := unlisted_set (mem_ready.1 hj).1
      omega
  have inv0 : HeadInv .any l.toArray ys.length (Array.replicate l.toArray.size false) :=
    ⟨by simp, fun j oj _ hl => (by rw [getD_replicate_false] at hl; cases hl), fun t _ ht => getD_in (by simpa using ht) (getD_replicate_false _ _)⟩
  have hu : unlisted (Array.replicate l.toArray.size false) = ys.length + (l.toArray.size - ys.length) := by
    unfold unlisted
    rw [Array.toList_replicate, List.countP_replicate]
    simp
    omega
  have := key ys.length _ a0 { W with drawn := W.drawn + 1 } (fun _ => undef) inv0 hu
    ⟨rfl, rfl, ⟨rfl, rfl, rfl, Nat.le_refl _, fun _ _ => rfl⟩, fun _ _ => rfl, fun i o y d _ _ hl => (by rw [getD_replicate_false] at hl; cases hl), fun i R _ hl => (by rw [getD_replicate_false] at hl; cases hl)⟩
  rwa [show ys.length + (l.toArray.size - ys.length) = l.toArray.size by omega] at this

end

end Go.Proofs.Ytflncnfagoekcaa.More

/-! How a function leaves that has ranged over functions several times: each range has left a mark among the deferred calls, with nothing to be called. -/
namespace Go.Proofs.Ytflncnfagoekcaa.More
open Go.RowKit

/-- The marks of ranges, the last one first. -/
def marks (Ds : List Nat) : List Deferred := Ds.map fun D => { target := .collected D, args := #[] }

/-- What the marks' leaving turns: these blocks alone. -/
structure Settled (Ds : List Nat) (W W' : World) : Prop where
  os : W'.os = W.os
  tape : W'.tape = W.tape
  output : W'.output = W.output
  size : W'.heap.size = W.heap.size
  same : ∀ k, k ∉ Ds → W'.heap[k]? = W.heap[k]?

theorem Settled.refl (W : World) : Settled [] W W := ⟨rfl, rfl, rfl, rfl, fun _ _ => rfl⟩

theorem Settled.block {Ds : List Nat} {W W' : World} (h : Settled Ds W W') {k : Nat} (hk : k ∉ Ds) : W'.heap[k]? = W.heap[k]? := h.same k hk

theorem Settled.below {Ds : List Nat} {W W' : World} {B : Nat} (h : Settled Ds W W') (hB : ∀ D ∈ Ds, B ≤ D) : Below B W W' :=
  ⟨h.os, h.tape, h.output, Nat.le_of_eq h.size.symm, fun k hk => h.same k (fun hm => by have := hB k hm; omega)⟩

theorem leaves_marks {F : Fence} {n : Nat} {P : Program} {fn : Func} {tmps : Array Value} {R : Ending → World → Prop} : ∀ (Ds : List Nat) (W : World), Ds.Nodup → (∀ D ∈ Ds, W.heap[D]? = some (.deferred (some []))) →
    (∀ W', Settled Ds W W' → LeavesIn F n P fn tmps R [] .returning W') → LeavesInM F n P fn tmps R (marks Ds) .returning W
  | [], W, _, _, h => h W (Settled.refl W)
  | D :: Ds, W, hn, hD, h => by
    obtain ⟨hn1, hn2⟩ := List.nodup_cons.1 hn
    refine ⟨by simp, .inl ⟨D, _, rfl, run_takeDeferred (hD D (by simp)), ?_⟩⟩
    refine leaves_marks Ds _ hn2 (fun E hE => ?_) (fun W' hs => h W' ?_)
    · have hne : E ≠ D := fun e => hn1 (e ▸ hE)
      rw [World.putObj_heap_other hne]
      exact hD E (by simp [hE])
    · refine ⟨hs.os, hs.tape, hs.output, by rw [hs.size]; simp, fun k hk => ?_⟩
      have h1 : k ≠ D := fun e => hk (by simp [e])
      rw [hs.same k (fun hm => hk (by simp [hm])), World.putObj_heap_other h1]

end Go.Proofs.Ytflncnfagoekcaa.More

/-! The law of all events. -/
namespace Go.Proofs.Ytflncnfagoekcaa.Walk
open Go.RowKit Go.Shelf Go.Sort Go.Proofs.Ytflncnfagoekcaa.Record Go.Proofs.Ytflncnfagoekcaa.Script Go.Proofs.Ytflncnfagoekcaa.Tree Go.Proofs.Ytflncnfagoekcaa.More

attribute [local go_sem] Oper.semAt_some

theorem take_last {evs pre : List Ev} {x y : Ev} {m : Nat} (h : pre ++ [x] = evs.take (pre ++ [x]).length) (hm : pre.length = m) (hy : evs[m]? = some y) : x = y := by
  have h1 : (pre ++ [x])[m]? = some x := by rw [List.getElem?_append_right (by omega), hm, Nat.sub_self]; rfl
  rw [h, List.getElem?_take_of_lt (by simp; omega), hy] at h1
  injection h1 with h1
  exact h1.symm

section
variable {T : World → Addr → List Bx → Prop}

set_option maxRecDepth 100000 in
set_option maxHeartbeats 4000000 in
theorem all_yes (hT : TreeOk T) (hW : WalkOk T) (A : Option Addr) (n c : Nat) (bs : List Bx) (w : World) (hn : n = bs.length) (hlen : n ≤ 100) (hx : Boxes w w.heap.size A bs) (hb : Begun T A n c bs w) :
    CallsIn Fence.wide 6 Try.prog 3 #[.slice A n c] w fun e w' => e = .returned (.bool true) ∧ Below w.heap.size w w' := by
  have hro : Fence.wide.round = none := rfl
  have HB := Lib.hid hb
  have HX := Lib.hid hx
  have HN := Lib.hid hn
  have hle : (evAll bs).length ≤ 200 := by
    have := wlk_len (dOf bs) (oOf bs) bs.length true (bs.length + 1) 0 bs.length (by omega) (nested_all _ _ _)
    unfold evAll
    omega
  obtain ⟨evs, hevs⟩ : ∃ evs, evAll bs = evs := ⟨_, rfl⟩
  obtain ⟨L, hL⟩ : ∃ L, evs.length = L := ⟨_, rfl⟩
  have HR := Lib.hid (fun W (k : Below w.heap.size w W) => refall_any A n c bs W hn (by omega) (hx.thru k))
  rw [hevs, hL] at HR
  rw [hevs, hL] at hle
  have HEV := Lib.hid hevs
  have HL := Lib.hid hL
  clear hb hx hn hevs hL
  refine callsIn_of_wp_marks Try.func3 rfl trivial ?_ hro
  simp only [Try.ntmps3, List.size_toArray, List.length_nil, List.length_cons, Nat.reduceAdd, Nat.reduceSub, Array.replicate_succ, Array.replicate_zero, List.push_toArray, List.append_toArray, List.nil_append, List.cons_append]
  gi_upto_region 1 with fail
  generalize hWa : World.alloc w _ = Wa
  have hka : Below w.heap.size w Wa := by rw [← hWa]; exact ba1 _ _
  have hbr : Boxed Wa w.heap.size 4 (.bool false) := by rw [← hWa]; exact Boxed.new _ _ _
  clear hWa
  have KA := Lib.hid hka
  have BR := Lib.hid hbr
  clear hka hbr
  gi_upto_region 2 with (first
    | (refine ⟨trivial, ?_⟩; gi_at_call 9; refine (callsIn_wide.2 (HB.out _ KA.out)).mono ?_; rintro e w1 ⟨⟨p, rfl, ht⟩, k1⟩; have HT1 := Lib.hid ht; have K1 := Lib.hid (thru KA.out k1); have BR1 := Lib.hid (BR.out.kept (grown_of_below k1) (by simp)); clear k1 ht))
  clear KA BR
  gi_upto_region 4 with (first
    | (refine ⟨trivial, ?_⟩; gi_at_call 10; refine (callsIn_wide.2 (callsIn_wide.1 (wspeaks hT hW _))).mono ?_; rintro e w2 ⟨rfl, k2⟩; have L2 := Lib.hid k2; have K2 := Lib.hid (thru K1.out k2); have BR2 := Lib.hid (BR1.out.kept (grown_of_below k2) (by simp)); clear k2))
  have hs1 := BR1.out.lt
  clear BR1
  gi_upto_region 5 with (first
    | (refine ⟨trivial, ?_⟩; gi_at_call 11; refine (callsIn_wide.2 (HR.out _ K2.out)).mono ?_; rintro e w3 ⟨⟨A3, c3, rfl, m3⟩, k3⟩; have M3 := Lib.hid m3; have L3 := Lib.hid (thru L2.out k3); have K3 := Lib.hid (thru K2.out k3); have BR3 := Lib.hid (BR2.out.kept (grown_of_below k3) (by simp)); clear k3 m3))
  generalize hWc : World.alloc w3 _ = Wc
  have hkc := ba1 w3 (.cells #[.slice A3 L c3] 26)
  have hbc := Boxed.new w3 26 (.slice A3 L c3)
  have hbb := BR3.out.alloc (.cells #[.slice A3 L c3] 26)
  have hmm := M3.out.alloc (.cells #[.slice A3 L c3] 26)
  have hsc : (w3.alloc (.cells #[.slice A3 L c3] 26)).heap.size = w3.heap.size + 1 := by simp
  rw [hWc] at hkc hbc hbb hsc hmm
  have LC := Lib.hid (thru L3.out hkc)
  have KC := Lib.hid (thru K3.out hkc)
  have hs2 := L2.out.size
  have hs3 := L3.out.size
  clear hWc hkc M3 BR2 BR3 L2 K2
  have HA := Lib.hid (hW.all w1 p bs Wc HT1.out LC.out)
  rw [HEV.out, ] at HA
  gi_upto_region 6 with (first
    | (refine ⟨trivial, ?_⟩; gi_at_call 12; refine (callsIn_wide.2 HA.out).mono ?_; rintro e w5 ⟨⟨f, lb, rfl, heg, hseq⟩, k5⟩))
  rw [HL.out] at hseq
  have BW := Lib.hid (hbc.kept (grown_of_below k5) (by simp))
  have BR := Lib.hid (hbb.kept (grown_of_below k5) (by simp))
  have M5 := Lib.hid (hmm.below k5)
  have K5 := Lib.hid (thru KC.out k5)
  have hs5 := k5.size
  have hs51 : w.heap.size < w5.heap.size := by omega
  have hs53 : w3.heap.size < w5.heap.size := by omega
  have SQ := Lib.hid hseq
  clear HA hseq k5 hbc hbb hmm L3 K3 LC KC
  gi_wp2_with fail
  refine wpIn_loop (fun a W => ∃ (k : Nat) (Ds : List Nat) (u6 u22 u23 u39 u40 u41 u42 u43 : Value), k ≤ 2 ∧ a = { tmps := #[Value.slice A n c, undef, Value.pointer (some ⟨w.heap.size, 0, none⟩), Value.pointer (some p), Value.pointer (some ⟨w3.heap.size, 0, none⟩), Value.func (Fn.func f) #[] lb, u6, undef, Value.slice A n c, Value.pointer (some p), Value.bool true, Value.bool false, Value.bool false, Value.pointer (some p), Value.bool false, Value.bool false, undef, Value.slice A n c, Value.slice A3 L c3, Value.pointer (some p), Value.func (Fn.func f) #[] lb, Value.int IntKind.i64 (k : Int), u22, u23, undef, undef, undef, undef, undef, undef, undef, undef, undef, undef, undef, undef, undef, undef, undef, u39, u40, u41, u42, u43], defers := marks Ds } ∧ Hid (Below w5.heap.size w5 W ∧ Ds.Nodup ∧ ∀ D ∈ Ds, w5.heap.size ≤ D ∧ W.heap[D]? = some (.deferred (some []))))
    (fun a _ => 2 - (intOf (a.tmps.getD 21 undef)).toNat) ⟨0, [], undef, undef, undef, undef, undef, undef, undef, undef, by omega, rfl, Lib.hid ⟨Below.refl _ _, List.nodup_nil, fun D h => by cases h⟩⟩ ?_
  rintro a W ⟨k, Ds, u6, u22, u23, u39, u40, u41, u42, u43, hk, rfl, hst⟩
  rcases Nat.lt_or_ge k 2 with h | h
  · generalize hQQ : Exit.then _ _ = QQ
    have hk2 : (k : Int) < 2 := by omega
    gi_upto_region 9 with fail
    have hkb := ba1 W (.cells #[.int .i64 0] 3)
    have hbn := Boxed.new W 3 (.int .i64 0)
    have hsb : (W.alloc (.cells #[.int .i64 0] 3)).heap.size = W.heap.size + 1 := by simp
    have hd : ∀ D ∈ Ds, (W.alloc (.cells #[.int .i64 0] 3)).heap[D]? = some (.deferred (some [])) := fun D hD => (Below.heap_alloc _ _ _ (Array.getElem?_eq_some_iff.1 (hst.out.2.2 D hD).2).1).trans (hst.out.2.2 D hD).2
    have HD := Lib.hid hd
    gi_wp2_with fail
    generalize W.alloc (.cells #[.int .i64 0] 3) = W8 at HD hkb hbn hsb ⊢
    have hw5 := hst.out.1.size
    have H58 := Lib.hid (hst.out.1.trans (hkb.mono hw5))
    have hq := SQ.out none W8 H58.out (fun _ e => by cases e) (fun k h => (owns_none _ _ h).elim) 5 (by omega)
    refine wpIn_rangeFunc_ownH hro (by omega) (gf := f) (lb := lb) rfl trivial heg hq
      (fun h k => h.trans k) (fun W l o o' h1 h2 h3 h4 => StayB.put (N := W8.heap.size) (by omega) (by omega) (fun x e => by cases e) W l o o' h1 h2 h3 h4) (Below.refl _ _) (fun _ => rfl)
      (fun pre V => (Boxed V W.heap.size 3 (.int .i64 (pre.length : Int)) ∧ pre = evs.take pre.length) ∧ Below W.heap.size W8 V)
      (fun _ pre _ => pre = evs.take pre.length → False)
      (OwnFrom.and (OwnFrom.and (Own.from (boxed_own _ _ _) _) (pure_own _)) (ownFrom_below (by omega) (by omega)))
      (fun _ => pure_own _)
      ⟨⟨hbn, rfl⟩, Below.refl _ _⟩
      (fun x => VarW (fun b5 => { tmps := #[Value.slice A n c, undef, Value.pointer (some ⟨w.heap.size, 0, none⟩), Value.pointer (some p), Value.pointer (some ⟨w3.heap.size, 0, none⟩), Value.func (Fn.func f) #[] lb, Value.pointer (some ⟨W.heap.size, 0, none⟩), .pointer (some ⟨b5, 0, none⟩), Value.slice A n c, Value.pointer (some p), Value.bool true, Value.bool false, Value.bool false, Value.pointer (some p), Value.bool false, Value.bool false, undef, Value.slice A n c, Value.slice A3 L c3, Value.pointer (some p), Value.func (Fn.func f) #[] lb, Value.int IntKind.i64 (k : Int), Value.bool true, Value.func (Fn.func f) #[] lb, x.v, undef, undef, undef, undef, undef, undef, undef, undef, undef, undef, undef, undef, undef, undef, u39, u40, u41, u42, u43], defers := [] }) x) (fun x a' => varW_own _ x a' _) ?assign ?body ?done ?stop
    case assign =>
      intro l pre x V K hI hK
      obtain ⟨⟨i1, i3⟩, i4⟩ := hI
      have HK := Lib.hid hK
      clear hK
      simp only [encW]
      gi_wp2_with fail
      have hk := ba1 V (.cells #[.int .i64 x.a, .bool x.l] 32)
      have hg := grown_of_below hk
      have hwl := i4.size
      exact HK.out _ _ (below_keeps hk) (StayB.grown hg ⟨by omega, by omega⟩ (fun r e => by cases e)) ⟨⟨i1.kept hg (by simp), i3⟩, i4.trans (hk.mono (by omega))⟩ ⟨V.heap.size, rfl, heap_alloc_new V _⟩
    case body =>
      rintro l pre x a' V hl - ⟨⟨i1, i3⟩, i4⟩ ⟨b5, rfl, h5⟩ hlt
      have HP := Lib.hid i3
      have HV := Lib.hid i4
      have hx0 : V.cell? ⟨b5, 0, none⟩ = some (.int .i64 x.a) := by rw [cell_of_row V b5 0 _ _ _ h5]; rfl
      have hx1 : V.cell? ⟨b5, 1, none⟩ = some (.bool x.l) := by rw [cell_of_row V b5 1 _ _ _ h5]; rfl
      obtain ⟨m, hm⟩ : ∃ m, pre.length = m := ⟨_, rfl⟩
      have HM := Lib.hid hm
      rw [hm] at i1 hlt
      have nc := i1.cell
      have HBN := Lib.hid i1
      have hvl := i4.size
      have h5V : Below w5.heap.size w5 V := H58.out.trans (i4.mono hw5)
      have wc : V.cell? ⟨w3.heap.size, 0, none⟩ = some (.slice A3 L c3) := (h5V.cell (p := ⟨w3.heap.size, 0, none⟩) hs53).trans BW.out.cell
      have hmL : m < L := hlt
      obtain ⟨y, hy⟩ : ∃ y, evs[m]? = some y := ⟨_, List.getElem?_eq_getElem (by rw [HL.out]; exact hmL)⟩
      obtain ⟨g, rfl, -, hgl, -, -⟩ := M5.out.form (by omega)
      have e0 : V.cell? ⟨g, m * 2, none⟩ = some (.int .i64 y.a) := by
        have := M5.out.at m y hy 0 (by decide)
        exact (h5V.cell (p := ⟨g, m * 2, none⟩) hgl).trans this
      have e1 : V.cell? ⟨g, m * 2 + 1, none⟩ = some (.bool y.l) := by
        have := M5.out.at m y hy 1 (by decide)
        exact (h5V.cell (p := ⟨g, m * 2 + 1, none⟩) hgl).trans this
      have HY := Lib.hid hy
      have hmi : (m : Int) < (L : Int) := by omega
      have hmi' : ¬ (L : Int) ≤ (m : Int) := by omega
      have hm0 : ¬ (m : Int) < 0 := by omega
      have hwm : IntKind.i64.wrap ((m : Int) + 1) = (m : Int) + 1 := IntWalk.i64_in _ (by omega)
      have H5V := Lib.hid h5V
      obtain ⟨sm, hsm⟩ : ∃ sm, sameEv x y = sm := ⟨_, rfl⟩
      have E := eqEvR x y
      rw [hsm] at E
      have HSM := Lib.hid hsm
      clear i1 i3 i4 h5 hlt hm hy hsm h5V
      dsimp only
      cases sm
      · gi_upto_region 11 with fail
        refine wpIn_region_told [.val (.int .i64 (m : Int)), .val (.slice (some ⟨g, 0, none⟩) L c3), .val (.int .i64 (L : Int)), .val (.bool false), .val (.bool false), .val x.v, .val (.slice (some ⟨g, 0, none⟩) L c3), .val (.int .i64 (m : Int)), .val (.pointer (some ⟨g, m * 2, none⟩)), .val y.v, .val (.bool true)] (by kernel_rfl) (by kernel_rfl) (by kernel_rfl) ?_ ?_
        · simp only [Told.fill, Told.Leave.value]
          refine ⟨?_, ?_, ?_, ?_, ?_, ?_, ?_, ?_, ?_, ?_, ?_, trivial⟩
          · intro gg w' hw hk
            have q0 := (hw.cell (p := ⟨W.heap.size, 0, none⟩) (block_lt_of_cell nc)).trans nc
            go_simp
            exact ⟨rfl, rfl⟩
          · intro gg w' hw hk
            have q0 := (hw.cell (p := ⟨w3.heap.size, 0, none⟩) (block_lt_of_cell wc)).trans wc
            go_simp
            exact ⟨rfl, rfl⟩
          · intro gg w' hw hk
            go_simp
            exact ⟨rfl, rfl⟩
          · intro gg w' hw hk
            go_simp
            exact ⟨rfl, rfl⟩
          · intro gg w' hw hk
            go_simp
            exact ⟨rfl, rfl⟩
          · intro gg w' hw hk
            have q0 := (hw.cell (p := ⟨b5, 0, none⟩) (block_lt_of_cell hx0)).trans hx0
            have q1 := (hw.cell (p := ⟨b5, 1, none⟩) (block_lt_of_cell hx1)).trans hx1
            go_simp
            exact ⟨rfl, rfl⟩
          · intro gg w' hw hk
            have q0 := (hw.cell (p := ⟨w3.heap.size, 0, none⟩) (block_lt_of_cell wc)).trans wc
            go_simp
            exact ⟨rfl, rfl⟩
          · intro gg w' hw hk
            have q0 := (hw.cell (p := ⟨W.heap.size, 0, none⟩) (block_lt_of_cell nc)).trans nc
            go_simp
            exact ⟨rfl, rfl⟩
          · intro gg w' hw hk
            go_simp
            exact ⟨rfl, rfl⟩
          · intro gg w' hw hk
            have q0 := (hw.cell (p := ⟨g, m * 2, none⟩) (block_lt_of_cell e0)).trans e0
            have q1 := (hw.cell (p := ⟨g, m * 2 + 1, none⟩) (block_lt_of_cell e1)).trans e1
            go_simp
            exact ⟨rfl, rfl⟩
          · intro gg w' hw hk
            have E1 := E w'
            go_simp
            exact ⟨rfl, rfl⟩
        · intro gg W2 qq hbox hap
          clear hbox hap
          simp only [Told.fill, Told.Leave.value, List.length_cons, List.length_nil, Nat.reduceAdd, Nat.reduceSub]
          refine wpAnyIn_ready (rs := [11]) (by kernel_rfl) (by simp) ?_
          refine AllReadyIn.cons rfl (fun K hK => ?_) AllReadyIn.nil
          go_simp
          refine hK _ _ ?_
          clear hK K
          refine wpAnyIn_done (by kernel_rfl) ?_ _
          have r2 : Boxed W2 w.heap.size 4 (.bool false) := (thru H5V.out qq |>.block _ BR.out.lt).trans BR.out
          have rc := r2.cell
          have rf := r2.frozen
          gi_wp2_with fail
          refine ⟨(below_keeps qq).trans ((KeepsOthers.setCell _ _ _).from _), fun h => ?_⟩
          have h7 := (sameEv_iff x y).2 (take_last h HM.out HY.out)
          rw [HSM.out] at h7
          cases h7
      · gi_upto_region 11 with fail
        refine wpIn_region_told [.val (.int .i64 (m : Int)), .val (.slice (some ⟨g, 0, none⟩) L c3), .val (.int .i64 (L : Int)), .val (.bool false), .val (.bool false), .val x.v, .val (.slice (some ⟨g, 0, none⟩) L c3), .val (.int .i64 (m : Int)), .val (.pointer (some ⟨g, m * 2, none⟩)), .val y.v, .val (.bool false)] (by kernel_rfl) (by kernel_rfl) (by kernel_rfl) ?_ ?_
        · simp only [Told.fill, Told.Leave.value]
          refine ⟨?_, ?_, ?_, ?_, ?_, ?_, ?_, ?_, ?_, ?_, ?_, trivial⟩
          · intro gg w' hw hk
            have q0 := (hw.cell (p := ⟨W.heap.size, 0, none⟩) (block_lt_of_cell nc)).trans nc
            go_simp
            exact ⟨rfl, rfl⟩
          · intro gg w' hw hk
            have q0 := (hw.cell (p := ⟨w3.heap.size, 0, none⟩) (block_lt_of_cell wc)).trans wc
            go_simp
            exact ⟨rfl, rfl⟩
          · intro gg w' hw hk
            go_simp
            exact ⟨rfl, rfl⟩
          · intro gg w' hw hk
            go_simp
            exact ⟨rfl, rfl⟩
          · intro gg w' hw hk
            go_simp
            exact ⟨rfl, rfl⟩
          · intro gg w' hw hk
            have q0 := (hw.cell (p := ⟨b5, 0, none⟩) (block_lt_of_cell hx0)).trans hx0
            have q1 := (hw.cell (p := ⟨b5, 1, none⟩) (block_lt_of_cell hx1)).trans hx1
            go_simp
            exact ⟨rfl, rfl⟩
          · intro gg w' hw hk
            have q0 := (hw.cell (p := ⟨w3.heap.size, 0, none⟩) (block_lt_of_cell wc)).trans wc
            go_simp
            exact ⟨rfl, rfl⟩
          · intro gg w' hw hk
            have q0 := (hw.cell (p := ⟨W.heap.size, 0, none⟩) (block_lt_of_cell nc)).trans nc
            go_simp
            exact ⟨rfl, rfl⟩
          · intro gg w' hw hk
            go_simp
            exact ⟨rfl, rfl⟩
          · intro gg w' hw hk
            have q0 := (hw.cell (p := ⟨g, m * 2, none⟩) (block_lt_of_cell e0)).trans e0
            have q1 := (hw.cell (p := ⟨g, m * 2 + 1, none⟩) (block_lt_of_cell e1)).trans e1
            go_simp
            exact ⟨rfl, rfl⟩
          · intro gg w' hw hk
            have E1 := E w'
            go_simp
            exact ⟨rfl, rfl⟩
        · intro gg W2 qq hbox hap
          clear hbox hap
          simp only [Told.fill, Told.Leave.value, List.length_cons, List.length_nil, Nat.reduceAdd, Nat.reduceSub]
          refine wpAnyIn_ready (rs := [11]) (by kernel_rfl) (by simp) ?_
          refine AllReadyIn.cons rfl (fun K hK => ?_) AllReadyIn.nil
          go_simp
          refine hK _ _ ?_
          clear hK K
          refine wpAnyIn_done (by kernel_rfl) ?_ _
          have n2 := HBN.out.kept (grown_of_below qq) (by simp)
          have nc2 := n2.cell
          have nf2 := n2.frozen
          gi_wp2_with fail
          have hxy : x = y := (sameEv_iff _ _).1 HSM.out
          have hl2 : (pre ++ [x]).length = m + 1 := by rw [List.length_append, HM.out]; rfl
          have hq2 := qq.size
          refine ⟨(below_keeps qq).trans ((KeepsOthers.setCell _ _ _).from _), (StayB.grown (grown_of_below qq) ⟨by omega, by omega⟩ (fun r e => by cases e)).trans (StayB.grown (grownBy_setCell' W2 W.heap.size _) ⟨by omega, by omega⟩ (fun r e => by injection e with e; subst e; omega)), ⟨?_, ?_⟩, (HV.out.trans (qq.mono (by omega))).setCell (p := ⟨W.heap.size, 0, none⟩) (Nat.le_refl _) _⟩
          · rw [hl2]; exact n2.set (.int .i64 (m + 1 : Int))
          · rw [hxy]
            exact take_step HP.out (by rw [HM.out]; exact HY.out)
    case done =>
      rintro D ys V hD rfl ⟨⟨i1, i3⟩, i4⟩ hK
      have nc := i1.cell
      rw [HL.out] at nc
      have h5V := H58.out.trans (i4.mono hw5)
      have wc : V.cell? ⟨w3.heap.size, 0, none⟩ = some (.slice A3 L c3) := (h5V.cell (p := ⟨w3.heap.size, 0, none⟩) hs53).trans BW.out.cell
      have hwk : IntKind.i64.wrap ((k : Int) + 1) = ((k + 1 : Nat) : Int) := by rw [IntWalk.i64_in _ (by omega)]; omega
      have H5V := Lib.hid h5V
      have H8 := Lib.hid (fun D hD => (i4.block D (by have := (Array.getElem?_eq_some_iff.1 (hst.out.2.2 D hD).2).1; exact this)).trans (HD.out D hD))
      clear i1 i3 i4 h5V
      gi_wp2_with fail
      rw [← hQQ]
      refine ⟨⟨k + 1, D :: Ds, _, _, _, _, _, _, _, _, by omega, rfl, Lib.hid ⟨H5V.out, List.nodup_cons.2 ⟨fun h => ?_, hst.out.2.1⟩, fun E hE => ?_⟩⟩, ?_⟩
      · have := (Array.getElem?_eq_some_iff.1 (hst.out.2.2 D h).2).1
        omega
      · rcases List.mem_cons.1 hE with rfl | hE
        · exact ⟨by omega, hK⟩
        · exact ⟨(hst.out.2.2 E hE).1, H8.out E hE⟩
      · simp [intOf]; omega
    case stop =>
      rintro D c pre V _ hs h _
      exact (h (take_prefix hs)).elim
  · obtain rfl : k = 2 := by omega
    have br : Boxed W w.heap.size 4 (.bool false) := (hst.out.1.block _ BR.out.lt).trans BR.out
    have rc := br.cell
    have rf := br.frozen
    have hne : ∀ D ∈ Ds, D ≠ w.heap.size := fun D hD => by have := (hst.out.2.2 D hD).1; omega
    have BR2 := Lib.hid (br.set (.bool true))
    have HNE := Lib.hid hne
    clear br hne
    gi_wp2_with fail
    refine leaves_marks Ds _ hst.out.2.1 (fun D hD => by rw [heap_setCell_other _ _ _ _ (HNE.out D hD)]; exact (hst.out.2.2 D hD).2) (fun W' hS => ?_)
    have i6 : Boxed W' w.heap.size 4 (.bool true) := (hS.same _ (fun h => HNE.out _ h rfl)).trans BR2.out
    have c6 := i6.cell
    have a4 := Try.isAgg4
    have hk6 : Below w.heap.size w W' := (K5.out.trans ((hst.out.1.mono (Nat.le_of_lt hs51) : Below w.heap.size w5 W).setCell (p := ⟨w.heap.size, 0, none⟩) (Nat.le_refl _) _)).trans (hS.below (fun D hD => by have := (hst.out.2.2 D hD).1; omega))
    exact ⟨.bool true, by simp [results, Try.results3, go_sem, c6], rfl, hk6⟩
theorem all_any (hT : TreeOk T) (hW : WalkOk T) (A : Option Addr) (n c : Nat) (bs : List Bx) (w : World) (hn : n = bs.length) (hm : n ≤ 9223372036854775807) (hx : Boxes w w.heap.size A bs) (hb : ∀ b ∈ bs, OkB b) :
    Calls Try.prog 3 #[.slice A n c] w fun e w' => e = .returned (.bool true) ∧ Below w.heap.size w w' := by
  refine (callsIn_wide (n := 6)).1 ?_
  rcases begun_or hT A n c bs w hn hm hx hb with ⟨h, -, -, hb⟩ | h
  · exact all_yes hT hW A n c bs w hn h hx hb
  · exact all_no hT hW A n c w h
end

end Go.Proofs.Ytflncnfagoekcaa.Walk

/-! The program's nodes as they lie in memory; the contracts of at, Len, Box, Parent, End and Context. -/
namespace Go.Proofs.Ytflncnfagoekcaa.Tree
open Go.RowKit Go.Sort Go.Proofs.Ytflncnfagoekcaa.Record Go.Proofs.Ytflncnfagoekcaa.Script Go.Proofs.Ytflncnfagoekcaa.More

/-- A node: its box, its parent, where it ends, and its context. -/
structure Nd where
  b : Bx
  p : Int
  e : Int
  c : Int

abbrev Nd.v (x : Nd) : Value :=
  .agg #[.int .i64 x.b.d, .int .i64 x.b.k, .int .i64 x.b.s, .int .i64 x.b.c, .int .i64 x.b.w, .int .i64 x.b.h, .int .i64 x.b.m0, .int .i64 x.b.m1, .int .i64 x.b.m2, .int .i64 x.b.m3, .int .i64 x.b.e0, .int .i64 x.b.e1, .int .i64 x.b.e2, .int .i64 x.b.e3, .int .i64 x.p, .int .i64 x.e, .int .i64 x.c]

def cellsOfN (x : Nd) : List Value :=
  [.int .i64 x.b.d, .int .i64 x.b.k, .int .i64 x.b.s, .int .i64 x.b.c, .int .i64 x.b.w, .int .i64 x.b.h, .int .i64 x.b.m0, .int .i64 x.b.m1, .int .i64 x.b.m2, .int .i64 x.b.m3, .int .i64 x.b.e0, .int .i64 x.b.e1, .int .i64 x.b.e2, .int .i64 x.b.e3, .int .i64 x.p, .int .i64 x.e, .int .i64 x.c]

theorem cellsOfN_one (x : Nd) : ∀ u ∈ cellsOfN x, u.oneCell' = true := by
  intro u h
  simp only [cellsOfN, List.mem_cons, List.not_mem_nil, or_false] at h
  rcases h with h | h | h | h | h | h | h | h | h | h | h | h | h | h | h | h | h <;> (subst h; rfl)

def encN : Enc Nd := ⟨17, cellsOfN, fun _ => rfl, cellsOfN_one, by omega⟩

theorem infoN : InfoE encN 78 71 136 :=
  ⟨Try.underlying71, .agg #[.int .i64 0, .int .i64 0, .int .i64 0, .int .i64 0, .int .i64 0, .int .i64 0, .int .i64 0, .int .i64 0, .int .i64 0, .int .i64 0, .int .i64 0, .int .i64 0, .int .i64 0, .int .i64 0, .int .i64 0, .int .i64 0, .int .i64 0], rfl, by kernel_rfl⟩

abbrev MineN (w : World) (B : Nat) (A : Option Addr) (n c : Nat) (xs : List Nd) : Prop := MineE encN 78 w B A n c xs

/-- A node that lies at an address. -/
def AtN (w : World) (p : Addr) (x : Nd) : Prop :=
  AtP w p x.b ∧ w.cell? ⟨p.block, p.off + 14, none⟩ = some (.int .i64 x.p) ∧ w.cell? ⟨p.block, p.off + 15, none⟩ = some (.int .i64 x.e) ∧ w.cell? ⟨p.block, p.off + 16, none⟩ = some (.int .i64 x.c)

theorem AtN.of_mine {w : World} {B g n c : Nat} {xs : List Nd} (h : MineN w B (some ⟨g, 0, none⟩) n c xs) (k : Nat) (x : Nd) (hx : xs[k]? = some x) : AtN w ⟨g, k * 17, none⟩ x := by
  have e : ∀ j u, (cellsOfN x)[j]? = some u → w.cell? ⟨g, k * 17 + j, none⟩ = some u := fun j u hu => by
    have hj : j < 17 := (List.getElem?_eq_some_iff.1 hu).1
    exact (h.at k x hx j hj).trans hu
  have e0 := e 0 _ rfl
  exact ⟨⟨e0, e 1 _ rfl, e 2 _ rfl, e 3 _ rfl, e 4 _ rfl, e 5 _ rfl, e 6 _ rfl, e 7 _ rfl, e 8 _ rfl, e 9 _ rfl, e 10 _ rfl, e 11 _ rfl, e 12 _ rfl, e 13 _ rfl⟩, e 14 _ rfl, e 15 _ rfl, e 16 _ rfl⟩

theorem add_g0 (g k : Nat) : (⟨g, 0, none⟩ : Addr).add k = ⟨g, k, none⟩ := by
  rw [add_flat]; simp

def noN : Nd := ⟨noB, -1, -1, -1⟩

/-- The node of a place. -/
def nodeAt (ns : List Nd) (i : Int) : Nd := if 0 ≤ i ∧ i < ns.length then ns.getD i.toNat noN else noN

/-- The nodes of a tree lie in a slice, of which a box of one cell tells. -/
structure InT (w : World) (B g : Nat) (A : Option Addr) (c : Nat) (ns : List Nd) : Prop where
  box : Boxed w g 73 (.slice A ns.length c)
  mine : MineN w B A ns.length c ns

theorem InT.below {w w' : World} {B g : Nat} {A : Option Addr} {c : Nat} {ns : List Nd} (h : InT w B g A c ns) (k : Below w.heap.size w w') : InT w' B g A c ns :=
  ⟨h.box.kept (grown_of_below k) (by simp), h.mine.below k⟩

theorem InT.alloc {w : World} {B g : Nat} {A : Option Addr} {c : Nat} {ns : List Nd} (h : InT w B g A c ns) (o : Obj) : InT (w.alloc o) B g A c ns := ⟨h.box.alloc o, h.mine.alloc o⟩

theorem InT.at {w : World} {B g : Nat} {A : Option Addr} {c : Nat} {ns : List Nd} (h : InT w B g A c ns) (k : Nat) (hk : k < ns.length) : ∃ a, A = some ⟨a, 0, none⟩ ∧ a < w.heap.size ∧ ns.length ≤ c ∧ AtN w ⟨a, k * 17, none⟩ (ns.getD k noN) := by
  obtain ⟨a, rfl, _, ha, hc, _⟩ := h.mine.form (by omega)
  exact ⟨a, rfl, ha, hc, AtN.of_mine h.mine k _ (by simp [List.getD, hk])⟩

theorem AtN.range {w : World} {a o : Nat} {x : Nd} (h : AtN w ⟨a, o, none⟩ x) : w.rangeAt a o (cellsOfN x) := by
  obtain ⟨⟨c0, c1, c2, c3, c4, c5, c6, c7, c8, c9, c10, c11, c12, c13⟩, c14, c15, c16⟩ := h
  intro j v hj
  have hlt : j < 17 := (List.getElem?_eq_some_iff.1 hj).1
  obtain rfl | rfl | rfl | rfl | rfl | rfl | rfl | rfl | rfl | rfl | rfl | rfl | rfl | rfl | rfl | rfl | rfl : j = 0 ∨ j = 1 ∨ j = 2 ∨ j = 3 ∨ j = 4 ∨ j = 5 ∨ j = 6 ∨ j = 7 ∨ j = 8 ∨ j = 9 ∨ j = 10 ∨ j = 11 ∨ j = 12 ∨ j = 13 ∨ j = 14 ∨ j = 15 ∨ j = 16 := by omega
  all_goals (injection hj with hj; subst hj; assumption)

theorem AtN.below {w w' : World} {B : Nat} {p : Addr} {x : Nd} (h : AtN w p x) (hp : p.block < B) (k : Below B w w') : AtN w' p x := by
  have e : ∀ o, w'.cell? ⟨p.block, o, none⟩ = w.cell? ⟨p.block, o, none⟩ := fun o => k.cell (p := ⟨p.block, o, none⟩) hp
  obtain ⟨h0, h1, h2, h3⟩ := h
  exact ⟨h0.below hp k, (e _).trans h1, (e _).trans h2, (e _).trans h3⟩

def zeroN : Array Value := #[.int .i64 0, .int .i64 0, .int .i64 0, .int .i64 0, .int .i64 0, .int .i64 0, .int .i64 0, .int .i64 0, .int .i64 0, .int .i64 0, .int .i64 0, .int .i64 0, .int .i64 0, .int .i64 0, .int .i64 0, .int .i64 0, .int .i64 0]

theorem sizeN : (Try.prog.info? 78).map (·.size) = some 17 := by kernel_rfl

set_option maxRecDepth 100000 in
set_option maxHeartbeats 1000000 in
theorem at_in (w : World) (B g : Nat) (A : Option Addr) (c : Nat) (ns : List Nd) (k : Nat) (hk : k < ns.length) (hT : InT w B g A c ns) :
    Calls Try.prog 39 #[.pointer (some ⟨g, 0, none⟩), .int .i64 (k : Int)] w fun e w' => e = .returned (ns.getD k noN).v ∧ Below w.heap.size w w' := by
  have hc := hT.box.cell
  have hlt := hT.box.lt
  obtain ⟨a, rfl, ha, hcap, hx⟩ := hT.at k hk
  generalize ns.getD k noN = x at hx
  have hg1 : ¬ (k : Int) < 0 := by omega
  have hg2 : ¬ (ns.length : Int) ≤ (k : Int) := by omega
  generalize ns.length = n at *
  clear hT
  go_enter Try.func39, Try.ntmps39
  go_upto_region 1 with fail
  generalize hW : w.alloc _ = W
  have hb : Below w.heap.size w W := by subst hW; exact ba1 _ _
  have hz : W.heap[w.heap.size]? = some (.cells zeroN 78) := by subst hW; exact heap_alloc_new _ _
  have hc1 : W.cell? ⟨g, 0, none⟩ = some (.slice (some ⟨a, 0, none⟩) n c) := (hb.cell (p := ⟨g, 0, none⟩) hlt).trans hc
  have hR := (hx.below ha hb).range
  clear hc hlt hx hW
  go_wp2_with (first
    | (refine wpList_load_mid rfl 78 (.tmp 22) rfl a (k * 17) rfl (cellsOfN x) _ hR Try.underlying78 rfl sizeN ?_)
    | (refine wpList_store_row rfl 78 (.tmp 4) (.tmp 23) rfl w.heap.size (cellsOfN x).toArray rfl rfl 78 zeroN hz sizeN rfl (all_oneCell_toArray (cellsOfN_one x)) ?_))
  have hz2 := setRow_heap W w.heap.size zeroN (cellsOfN x).toArray _ _ hz
  exact bodyPost_ret (v := x.v) (results_cell_row (p := 4) (ty := 78) rfl _ _ w.heap.size _ (cellsOfN x).toArray _ _ rfl hz2 Try.underlying78 rfl sizeN) rfl ⟨rfl, below_setRow hb (Nat.le_refl _) _⟩

set_option maxRecDepth 100000 in
set_option maxHeartbeats 1000000 in
theorem at_out (w : World) (B g : Nat) (A : Option Addr) (c : Nat) (ns : List Nd) (i : Int) (hi : ¬ (0 ≤ i ∧ i < ns.length)) (hT : InT w B g A c ns) :
    Calls Try.prog 39 #[.pointer (some ⟨g, 0, none⟩), .int .i64 i] w fun e w' => e = .returned noN.v ∧ Below w.heap.size w w' := by
  have hc := hT.box.cell
  have hlt := hT.box.lt
  generalize ns.length = n at *
  clear hT
  go_enter Try.func39, Try.ntmps39
  go_upto_region 1 with fail
  generalize hW : w.alloc _ = W
  have hb : Below w.heap.size w W := by subst hW; exact ba1 _ _
  have hz : W.heap[w.heap.size]? = some (.cells zeroN 78) := by subst hW; exact heap_alloc_new _ _
  have hc1 : W.cell? ⟨g, 0, none⟩ = some (.slice A n c) := (hb.cell (p := ⟨g, 0, none⟩) hlt).trans hc
  clear hc hlt hW
  by_cases h : i < 0
  · go_wp2_with (first | (refine wpList_store_row rfl 78 (.tmp 4) (.tmp 16) rfl w.heap.size (cellsOfN noN).toArray rfl rfl 78 zeroN hz sizeN rfl (all_oneCell_toArray (cellsOfN_one noN)) ?_))
    have hz2 := setRow_heap W w.heap.size zeroN (cellsOfN noN).toArray _ _ hz
    exact bodyPost_ret (v := noN.v) (results_cell_row (p := 4) (ty := 78) rfl _ _ w.heap.size _ (cellsOfN noN).toArray _ _ rfl hz2 Try.underlying78 rfl sizeN) rfl ⟨rfl, below_setRow hb (Nat.le_refl _) _⟩
  · have h2 : (n : Int) ≤ i := by omega
    go_wp2_with (first | (refine wpList_store_row rfl 78 (.tmp 4) (.tmp 16) rfl w.heap.size (cellsOfN noN).toArray rfl rfl 78 zeroN hz sizeN rfl (all_oneCell_toArray (cellsOfN_one noN)) ?_))
    have hz2 := setRow_heap W w.heap.size zeroN (cellsOfN noN).toArray _ _ hz
    exact bodyPost_ret (v := noN.v) (results_cell_row (p := 4) (ty := 78) rfl _ _ w.heap.size _ (cellsOfN noN).toArray _ _ rfl hz2 Try.underlying78 rfl sizeN) rfl ⟨rfl, below_setRow hb (Nat.le_refl _) _⟩

theorem at_any (w : World) (B g : Nat) (A : Option Addr) (c : Nat) (ns : List Nd) (i : Int) (hT : InT w B g A c ns) :
    Calls Try.prog 39 #[.pointer (some ⟨g, 0, none⟩), .int .i64 i] w fun e w' => e = .returned (nodeAt ns i).v ∧ Below w.heap.size w w' := by
  unfold nodeAt
  by_cases h : 0 ≤ i ∧ i < ns.length
  · rw [if_pos h]
    obtain ⟨k, rfl⟩ : ∃ k : Nat, i = k := ⟨i.toNat, by omega⟩
    exact at_in w B g A c ns k (by omega) hT
  · rw [if_neg h]
    exact at_out w B g A c ns i h hT

theorem fieldN0 (x : Nd) (w : World) : (Instr.field 78 x.v 0).run Try.prog w = .ok x.b.v w := by kernel_rfl
theorem fieldN1 (x : Nd) (w : World) : (Instr.field 78 x.v 1).run Try.prog w = .ok (.int .i64 x.p) w := by kernel_rfl
theorem fieldN2 (x : Nd) (w : World) : (Instr.field 78 x.v 2).run Try.prog w = .ok (.int .i64 x.e) w := by kernel_rfl
theorem fieldN3 (x : Nd) (w : World) : (Instr.field 78 x.v 3).run Try.prog w = .ok (.int .i64 x.c) w := by kernel_rfl

set_option maxHeartbeats 1000000 in
theorem tlen_any (w : World) (B g : Nat) (A : Option Addr) (c : Nat) (ns : List Nd) (hT : InT w B g A c ns) :
    Calls Try.prog 18 #[.pointer (some ⟨g, 0, none⟩)] w fun e w' => e = .returned (.int .i64 (ns.length : Int)) ∧ Below w.heap.size w w' := by
  have hc := hT.box.cell
  clear hT
  go_enter Try.func18, Try.ntmps18
  go_wp2_with fail
  go_ret
  exact ⟨rfl, Below.refl _ _⟩

def zeroB : Array Value := #[.int .i64 0, .int .i64 0, .int .i64 0, .int .i64 0, .int .i64 0, .int .i64 0, .int .i64 0, .int .i64 0, .int .i64 0, .int .i64 0, .int .i64 0, .int .i64 0, .int .i64 0, .int .i64 0]

theorem sizeB : (Try.prog.info? 48).map (·.size) = some 14 := by kernel_rfl

theorem cellsOfB_one (x : Bx) : ∀ u ∈ cellsOfB x, u.oneCell' = true := by
  intro u h
  simp only [cellsOfB, List.mem_cons, List.not_mem_nil, or_false] at h
  rcases h with h | h | h | h | h | h | h | h | h | h | h | h | h | h <;> (subst h; rfl)

set_option maxHeartbeats 1000000 in
theorem tbox_any (w : World) (B g : Nat) (A : Option Addr) (c : Nat) (ns : List Nd) (i : Int) (hT : InT w B g A c ns) :
    Calls Try.prog 24 #[.pointer (some ⟨g, 0, none⟩), .int .i64 i] w fun e w' => e = .returned (nodeAt ns i).b.v ∧ Below w.heap.size w w' := by
  obtain ⟨x, hx⟩ : ∃ x, nodeAt ns i = x := ⟨_, rfl⟩
  rw [hx]
  go_enter Try.func24, Try.ntmps24
  go_upto_region 1 with fail
  generalize hW : w.alloc _ = W
  have hb : Below w.heap.size w W := by subst hW; exact ba1 _ _
  have hz : W.heap[w.heap.size]? = some (.cells zeroB 48) := by subst hW; exact heap_alloc_new _ _
  have hA := at_any _ B g A c ns i (hT.below hb)
  rw [hx] at hA
  have hf := fieldN0 x
  clear hW hT hx
  have hlt : w.heap.size < W.heap.size := (Array.getElem?_eq_some_iff.1 hz).1
  go_wp2_with (first
    | (go_at_call 39; refine hA.mono ?_; rintro e w1 ⟨rfl, k1⟩; have hz1 := (k1.block _ hlt).trans hz)
    | (refine wpList_store_row rfl 48 (.tmp 4) (.tmp 8) rfl w.heap.size (cellsOfB x.b).toArray rfl rfl 48 zeroB hz1 sizeB rfl (all_oneCell_toArray (cellsOfB_one x.b)) ?_))
  have hz2 := setRow_heap w1 w.heap.size zeroB (cellsOfB x.b).toArray _ _ hz1
  exact bodyPost_ret (v := x.b.v) (results_cell_row (p := 4) (ty := 48) rfl _ _ w.heap.size _ (cellsOfB x.b).toArray _ _ rfl hz2 Try.underlying48 rfl sizeB) rfl ⟨rfl, below_setRow (thru hb k1) (Nat.le_refl _) _⟩

set_option maxHeartbeats 1000000 in
theorem tpar_any (w : World) (B g : Nat) (A : Option Addr) (c : Nat) (ns : List Nd) (i : Int) (hT : InT w B g A c ns) :
    Calls Try.prog 21 #[.pointer (some ⟨g, 0, none⟩), .int .i64 i] w fun e w' => e = .returned (.int .i64 (nodeAt ns i).p) ∧ Below w.heap.size w w' := by
  have hA := at_any _ B g A c ns i hT
  have hf := fieldN1 (nodeAt ns i)
  generalize nodeAt ns i = x at *
  clear hT
  go_enter Try.func21, Try.ntmps21
  go_wp2_with (first
    | (go_at_call 39; refine hA.mono ?_; rintro e w1 ⟨rfl, k1⟩))
  go_ret
  exact ⟨rfl, k1⟩

set_option maxHeartbeats 1000000 in
theorem tend_any (w : World) (B g : Nat) (A : Option Addr) (c : Nat) (ns : List Nd) (i : Int) (hT : InT w B g A c ns) :
    Calls Try.prog 22 #[.pointer (some ⟨g, 0, none⟩), .int .i64 i] w fun e w' => e = .returned (.int .i64 (nodeAt ns i).e) ∧ Below w.heap.size w w' := by
  have hA := at_any _ B g A c ns i hT
  have hf := fieldN2 (nodeAt ns i)
  generalize nodeAt ns i = x at *
  clear hT
  go_enter Try.func22, Try.ntmps22
  go_wp2_with (first
    | (go_at_call 39; refine hA.mono ?_; rintro e w1 ⟨rfl, k1⟩))
  go_ret
  exact ⟨rfl, k1⟩

set_option maxHeartbeats 1000000 in
theorem tctx_any (w : World) (B g : Nat) (A : Option Addr) (c : Nat) (ns : List Nd) (i : Int) (hT : InT w B g A c ns) :
    Calls Try.prog 20 #[.pointer (some ⟨g, 0, none⟩), .int .i64 i] w fun e w' => e = .returned (.int .i64 (nodeAt ns i).c) ∧ Below w.heap.size w w' := by
  have hA := at_any _ B g A c ns i hT
  have hf := fieldN3 (nodeAt ns i)
  generalize nodeAt ns i = x at *
  clear hT
  go_enter Try.func20, Try.ntmps20
  go_wp2_with (first
    | (go_at_call 39; refine hA.mono ?_; rintro e w1 ⟨rfl, k1⟩))
  go_ret
  exact ⟨rfl, k1⟩

end Go.Proofs.Ytflncnfagoekcaa.Tree
