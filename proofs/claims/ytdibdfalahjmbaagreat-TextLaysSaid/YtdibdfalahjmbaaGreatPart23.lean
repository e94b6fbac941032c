
import Derived.Test.YtdibdfalahjmbaaGreatPart18
import Derived.StillTail
namespace Go.Proofs.YtdibdfalahjmbaaGreat.More

open Go.RowKit Go.Sort Go.Proofs.YtdibdfalahjmbaaGreat.More.Draw

namespace DrawT

def guards2B (l : List Oper) : List Oper → List Leave → List Leave → Bool
  | o :: os, y :: ys, all => (match o.guard with
    | none => !y.isSkip
    | some (k, b) => o.after.any (fun e => Region.binds .any e && e.on == k) && (match all[k]?, (l[k]?).bind (·.dst) with
      | some (.val (.bool c)), some _ => (c == b) == !y.isSkip
      | some .skip, some _ => y.isSkip
      | _, _ => false)) && guards2B l os ys all
  | _, _, _ => true

theorem guards2_at {l : List Oper} : ∀ {os : List Oper} {ys all : List Leave} {i : Nat} {o : Oper} {y : Leave}, guards2B l os ys all = true → os[i]? = some o → ys[i]? = some y →
    (o.guard = none ∧ y.isSkip = false) ∨ (∃ k b c, o.guard = some (k, b) ∧ (∃ e ∈ o.after, Region.binds .any e = true ∧ e.on = k) ∧ all[k]? = some (.val (.bool c)) ∧ (∃ d, (l[k]?).bind (·.dst) = some d) ∧ ((c == b) = !y.isSkip)) ∨
      ∃ k b, o.guard = some (k, b) ∧ (∃ e ∈ o.after, Region.binds .any e = true ∧ e.on = k) ∧ all[k]? = some .skip ∧ (∃ d, (l[k]?).bind (·.dst) = some d) ∧ y.isSkip = true
  | o :: os, y :: ys, all, 0, _, _, h, h1, h2 => by
    simp only [List.getElem?_cons_zero, Option.some.injEq] at h1 h2
    subst h1 h2
    simp only [guards2B, Bool.and_eq_true] at h
    obtain ⟨h, _⟩ := h
    cases hg : o.guard with
    | none => rw [hg] at h; left; exact ⟨rfl, by simpa using h⟩
    | some kb =>
      obtain ⟨k, b⟩ := kb
      rw [hg] at h
      simp only [Bool.and_eq_true] at h
      obtain ⟨h3, h4⟩ := h
      obtain ⟨e, he, he2⟩ := Array.any_eq_true'.1 h3
      simp only [Bool.and_eq_true, beq_iff_eq] at he2
      right
      split at h4
      · rename_i c d hc hd
        left
        exact ⟨k, b, c, rfl, ⟨e, he, he2⟩, hc, ⟨d, hd⟩, by simpa using h4⟩
      · rename_i d hc hd
        right
        exact ⟨k, b, rfl, ⟨e, he, he2⟩, hc, ⟨d, hd⟩, h4⟩
      · cases h4
  | o :: os, y :: ys, all, i + 1, _, _, h, h1, h2 => by
    simp only [List.getElem?_cons_succ] at h1 h2
    simp only [guards2B, Bool.and_eq_true] at h
    exact guards2_at h.2 h1 h2
  | [], _, _, _, _, _, _, h1, _ => by simp at h1
  | _ :: _, [], _, _, _, _, _, _, h2 => by simp at h2

variable {P : Program} {K : Nat → World → (Nat → Prop) → Prop} {l : List Oper} {ys : List Leave} {a0 : Act} {W : World}

theorem step2 {g : Nat → Nat} {st n : Nat} {listed : Array Bool} {a : Act} {w : World} {Q : Exit → Act → World → Prop} (ok : HeadOk l ys.length a0.tmps.size) (h : Telling K l ys a0 W g st listed a w) (hs : Region.noSelect l.toArray = true)
    (hgd : guards2B l l ys ys = true) (hpw : putsB l ys = true) (htn : turnsB l ys n = true) (hea : earlyB l ys = true) (hKe : Kept K) (hall : allLeave P K (fun g => fill g 0 l ys a0) ys W l ys) (hsz : listed.size = l.toArray.size) {i : Nat} (hi : i < ys.length) (hr : i ∈ Region.ready .any l.toArray listed) :
    wpOp P l.toArray Q i (fun a' w' => ∃ g st, Telling K l ys a0 W g st (listed.setIfInBounds i true) a' w') a w := by
  obtain ⟨hun, o, ho, hdep⟩ := mem_ready.1 hr
  have ho' : l[i]? = some o := by simpa using ho
  have hy : ys[i]? = some ys[i] := by simp [hi]
  have hsame := h.same ok hs hi ho' hdep
  have hY := allLeave_at hall ho' hy
  have hun' : listed.getD i false = false := getD_both hun
  have hin : i < listed.size := by
    rw [hsz]; simpa using (List.getElem?_eq_some_iff.1 ho').1
  have hkn : known ys o W g w := fun e he hb y b hye hyb => ⟨(h.low e.on y b hye hyb (hdep e he hb)).1, fun hno => h.boxes e.on y b hye hyb (hdep e he hb) (fun j c hj => absurd hj (hno j c))⟩
  have hw : Region.wanted o (yielded l.toArray a.tmps) = !(ys[i]).isSkip := by
    rcases guards2_at hgd ho' hy with ⟨hg, hsk⟩ | ⟨k, b, c, hg, ⟨e, he, hb, hon⟩, hk, ⟨d, hd⟩, hcb⟩ | ⟨k, b, hg, ⟨e, he, hb, hon⟩, hk, ⟨d, hd⟩, hsk⟩
    · simp [Region.wanted, hg, hsk]
    · have hlk : listed.getD k false = true := by rw [← hon]; exact hdep e he hb
      have hkl : k < ys.length := (List.getElem?_eq_some_iff.1 hk).1
      obtain ⟨p, hp⟩ := ok.there k hkl
      have hd1 : p.dst = some d := by rw [hp] at hd; exact hd
      have hsl := h.slot k p _ d hp hk hlk hd1
      have hda : d < a.tmps.size := by rw [h.size]; exact ok.dst k p d hkl hp hd1
      have hyl : yielded l.toArray a.tmps k = some c := by
        unfold yielded
        simp only [List.getElem?_toArray, hp, Option.bind_some, hd1]
        have : a.tmps[d]? = some (.bool c) := by
          rw [Array.getElem?_eq_getElem hda]
          simpa [Leave.value, hda] using hsl
        rw [this]
      simp only [Region.wanted, hg, hyl]
      rw [← hcb]
      cases c <;> cases b <;> rfl
    · have hlk : listed.getD k false = true := by rw [← hon]; exact hdep e he hb
      have hkl : k < ys.length := (List.getElem?_eq_some_iff.1 hk).1
      obtain ⟨p, hp⟩ := ok.there k hkl
      have hd1 : p.dst = some d := by rw [hp] at hd; exact hd
      have hsl := h.slot k p _ d hp hk hlk hd1
      have hda : d < a.tmps.size := by rw [h.size]; exact ok.dst k p d hkl hp hd1
      have hyl : yielded l.toArray a.tmps k = none := by
        unfold yielded
        simp only [List.getElem?_toArray, hp, Option.bind_some, hd1]
        have : a.tmps[d]? = some undef := by
          rw [Array.getElem?_eq_getElem hda]
          simpa [Leave.value, hda] using hsl
        rw [this]
        rfl
      simp only [Region.wanted, hg, hyl, hsk]
      rfl
  have hsame_turns : (∀ s v, ys[i] ≠ Leave.turn s v) → ∀ j s u, ys[j]? = some (Leave.turn s u) → ((listed.setIfInBounds i true).getD j false = true ↔ s < st) := fun hnt j s u hj => by
    rw [← h.turns j s u hj]
    constructor
    · intro hl
      rcases getD_set_cases hl with q | q
      · subst q; rw [hy] at hj; injection hj with hj; exact absurd hj (hnt s u)
      · exact q
    · exact getD_set_true
  unfold wpOp
  simp only [ho, hw]
  revert hY hsame_turns
  generalize hyi : ys[i] = y at *
  cases y with
  | skip =>
    intro _ htu
    simp only [Leave.isSkip, Bool.not_true, Bool.false_eq_true, if_false]
    exact ⟨g, st, h.plain ok hi ho' hy hin hun' hdep rfl rfl (fun k c e => by cases e) h.keep hKe (Nat.le_refl _) (fun _ _ => rfl) hpw (htu (fun s v e => by cases e)) h.stage⟩
  | val v =>
    intro hY htu
    simp only [Leave.isSkip, Bool.not_false, if_true]
    left
    unfold Oper.wp
    rw [hsame]
    have h3 := hY st g w _ h.keep hkn
    generalize (execOp (fill g 0 l ys a0).eval o).run P w = r at *
    cases r with
    | ok nx w' =>
      cases nx <;> simp only [stays] at h3 <;> simp only [Oper.upon]
      case value u =>
        obtain ⟨rfl, rfl⟩ := h3
        exact ⟨g, st, h.plain ok hi ho' hy hin hun' hdep rfl rfl (fun k c e => by cases e) h.keep hKe (Nat.le_refl _) (fun _ _ => rfl) hpw (htu (fun s v e => by cases e)) h.stage⟩
      case enter f args =>
        obtain ⟨rfl, hc⟩ := h3
        refine hc.mono fun e w'' ⟨he, hb⟩ => ?_
        subst he
        refine ⟨g, st, h.plain ok hi ho' hy hin hun' hdep rfl rfl (fun k c e => by cases e) (hKe.below _ _ _ _ _ h.keep hb (fun k hk => .inl hk)) hKe hb.size (fun b hb' => ?_) hpw (htu (fun s v e => by cases e)) h.stage⟩
        obtain ⟨j, z, d, hj, hz, hl, rfl⟩ := hb'
        exact hb.block _ (h.low j z d hj hz hl).2
    | halt x w' => simp only [stays] at h3
  | early t v =>
    intro hY htu
    simp only [Leave.isSkip, Bool.not_false, if_true]
    left
    unfold Oper.wp
    rw [hsame]
    have hst : st ≤ t := by
      obtain ⟨j, u, hj, hre⟩ := early_at hea hy
      rcases Nat.lt_or_ge t st with q | q
      · have := reach_listed h.closed l.length j i hre ((h.turns j t u hj).2 q)
        rw [hun'] at this; cases this
      · exact q
    have h3 := hY st g w _ hst h.keep hkn
    generalize (execOp (fill g 0 l ys a0).eval o).run P w = r at *
    cases r with
    | ok nx w' =>
      cases nx <;> simp only [stays] at h3 <;> simp only [Oper.upon]
      case value u =>
        obtain ⟨rfl, rfl⟩ := h3
        exact ⟨g, st, h.plain ok hi ho' hy hin hun' hdep rfl rfl (fun k c e => by cases e) h.keep hKe (Nat.le_refl _) (fun _ _ => rfl) hpw (htu (fun s v e => by cases e)) h.stage⟩
      case enter f args =>
        obtain ⟨rfl, hc⟩ := h3
        refine hc.mono fun e w'' ⟨he, hb⟩ => ?_
        subst he
        refine ⟨g, st, h.plain ok hi ho' hy hin hun' hdep rfl rfl (fun k c e => by cases e) (hKe.below _ _ _ _ _ h.keep hb (fun k hk => .inl hk)) hKe hb.size (fun b hb' => ?_) hpw (htu (fun s v e => by cases e)) h.stage⟩
        obtain ⟨j, z, d, hj, hz, hl, rfl⟩ := hb'
        exact hb.block _ (h.low j z d hj hz hl).2
    | halt x w' => simp only [stays] at h3
  | turn s v =>
    intro hY _
    simp only [Leave.isSkip, Bool.not_false, if_true]
    left
    unfold Oper.wp
    rw [hsame]
    obtain ⟨hsn, hprev, huniq⟩ := turns_at htn hy
    have hst : st = s := by
      have h1 : ¬ s < st := fun e => by rw [(h.turns i s v hy).2 e] at hun'; cases hun'
      rcases hprev with e | ⟨j, v', hji, hj, hre⟩
      · omega
      · have := reach_ready h.closed ho' hdep hre
        have := (h.turns j (s - 1) v' hj).1 this
        omega
    subst hst
    have h3 := hY g w _ h.keep hkn
    have key : ∀ w'', K (st + 1) w'' (made ys g listed) → w.heap.size ≤ w''.heap.size → (∀ k, made ys g listed k → w''.heap[k]? = w.heap[k]?) → ∃ g st, Telling K l ys a0 W g st (listed.setIfInBounds i true) (a.put o.dst v) w'' := fun w'' hk hsz2 hbl => by
      refine ⟨g, st + 1, h.plain ok hi ho' hy hin hun' hdep rfl rfl (fun k c e => by cases e) hk hKe hsz2 hbl hpw (fun j s' u hj => ?_) (.inr ⟨i, v, by simpa using hy⟩)⟩
      by_cases hji : j = i
      · subst hji
        rw [hy] at hj
        injection hj with hj
        injection hj with e1 e2
        subst e1
        simp [hin]
      · have hne : s' ≠ st := fun e => hji (huniq j u (by rw [← e]; exact hj))
        constructor
        · intro hl
          rcases getD_set_cases hl with q | q
          · exact absurd q hji
          · have := (h.turns j s' u hj).1 q
            omega
        · intro hl
          exact getD_set_true ((h.turns j s' u hj).2 (by omega))
    generalize (execOp (fill g 0 l ys a0).eval o).run P w = r at *
    cases r with
    | ok nx w' =>
      cases nx <;> simp only [turnsTo] at h3 <;> simp only [Oper.upon]
      case enter f args =>
        obtain ⟨rfl, hc⟩ := h3
        refine hc.mono fun e w'' ⟨he, hk, hsz2, hbl⟩ => ?_
        subst he
        exact key w'' hk hsz2 hbl
      case skip =>
        obtain ⟨rfl, hk, hsz2, hbl⟩ := h3
        exact key w' hk hsz2 hbl
      case value u =>
        obtain ⟨rfl, hk, hsz2, hbl⟩ := h3
        exact key w' hk hsz2 hbl
    | halt x w' => simp only [turnsTo] at h3
  | put k c =>
    intro hY _
    simp only [Leave.isSkip, Bool.not_false, if_true]
    left
    unfold Oper.wp
    obtain ⟨h1, ⟨z, b, h2, h3⟩, h4, h5⟩ := puts_at hpw hy
    obtain ⟨oj, hoj, e, he, hb, hon⟩ := Region.waitsFor_spec h1
    have hoo : oj = o := Option.some.inj ((show l[i]? = some oj by simpa using hoj).symm.trans ho')
    subst hoo
    have hlk : listed.getD k false = true := by rw [← hon]; exact hdep e he hb
    have hblk := h.boxes k z b h2 h3 hlk (fun j d hj => by
      have := h5 j d hj
      subst this
      exact hun')
    obtain ⟨w', hrun, hc, honly⟩ := hY st g w _ h.keep z b h2 h3 hblk
    rw [hsame]
    generalize (execOp (fill g 0 l ys a0).eval oj).run P w = r at *
    cases r with
    | ok nx w'' =>
      cases nx <;> simp only [Draw.stored] at hrun <;> simp only [Oper.upon]
      case skip =>
        subst hrun
        exact h.putted ok hi ho' hy hin hun' hdep hKe hpw hlk hc honly
    | halt x w'' => simp only [Draw.stored] at hrun
  | box b =>
    intro hY _
    simp only [Leave.isSkip, Bool.not_false, if_true]
    left
    unfold Oper.wp
    rw [hsame, hY st g w _ h.keep hkn]
    simp only [Oper.upon]
    exact h.block ok hi ho' hy hin hun' hdep rfl (fun s v e => by cases e) hKe hpw
  | row b n c =>
    intro hY _
    simp only [Leave.isSkip, Bool.not_false, if_true]
    left
    unfold Oper.wp
    rw [hsame, hY st g w _ h.keep hkn]
    simp only [Oper.upon]
    exact h.block ok hi ho' hy hin hun' hdep rfl (fun s v e => by cases e) hKe hpw

theorem wp_region_tail {id : Nat} {Q : Exit → Act → World → Prop} (K : Nat → World → (Nat → Prop) → Prop) (n : Nat) (ys : List Leave) (hm : P.follows .mixedOrders = true)
    (hB : (Region.noSelect l.toArray && decide (ys.length < l.toArray.size) && Region.sinkB .any l.toArray ys.length && Region.chainB .any l.toArray ys.length &&
      Region.seqB .any l.toArray (l.toArray.size - ys.length) ys.length ((List.replicate ys.length true ++ List.replicate (l.toArray.size - ys.length) false).toArray) && headB l ys.length a0.tmps.size && putsB l ys && turnsB l ys n && earlyB l ys) = true)
    (hgd : guards2B l l ys ys = true) (hKe : Kept K) (h0 : K 0 { W with drawn := W.drawn + 1 } (fun _ => False))
    (hall : allLeave P K (fun g => fill g 0 l ys a0) ys W l ys)
    (hend : ∀ (g : Nat → Nat) (w' : World) (G : Nat → Prop), K n w' G → (∀ i y b, ys[i]? = some y → y.obj = some b → G (g i) ∧ W.heap.size ≤ g i ∧ g i < w'.heap.size ∧ ((∀ (j : Nat) (c : Obj), ys[j]? ≠ some (Leave.put i c)) → w'.heap[g i]? = some b)) →
      (∀ (j i : Nat) (c : Obj), ys[j]? = some (Leave.put i c) → w'.heap[g i]? = some c) →
      (∀ i j y z b c, i ≠ j → ys[i]? = some y → ys[j]? = some z → y.obj = some b → z.obj = some c → g i ≠ g j) → wpList P l.toArray Q (l.drop ys.length) (fill g 0 l ys a0) w') :
    (Code.region id l.toArray true).wp P Q a0 W := by
  simp only [Bool.and_eq_true, decide_eq_true_eq] at hB
  obtain ⟨⟨⟨⟨⟨⟨⟨⟨hsel, hn⟩, hs⟩, hc⟩, hseq⟩, hhead⟩, hpw⟩, htn⟩, hea⟩ := hB
  have ok := headOk hhead
  have hn' : ys.length < l.length := by simpa using hn
  have hdl : (l.drop ys.length).length = l.toArray.size - ys.length := by simp
  refine wp_region_any hm ?_
  have key : ∀ (f : Nat) (listed : Array Bool) (a : Act) (w : World) (g : Nat → Nat) (st : Nat), HeadInv .any l.toArray ys.length listed → unlisted listed = f + (l.toArray.size - ys.length) → Telling K l ys a0 W g st listed a w →
      wpAny P .any l.toArray Q (f + (l.toArray.size - ys.length)) listed a w := by
    intro f
    induction f with
    | zero =>
      intro listed a w g st inv hu hb
      have hls : listed.size = l.length := by have := inv.size; simpa using this
      -- all of the head has come up
      have hcount : listed.toList.countP (fun b => !b) = l.length - ys.length := by
        unfold unlisted at hu; simpa using hu
      have htail : listed.toList.drop ys.length = List.replicate (l.length - ys.length) false := by
        refine List.ext_getElem (by simp [hls]) fun k h1 h2 => ?_
        have hk : ys.length + k < listed.size := by simp at h1; omega
        have := inv.tail (ys.length + k) (by omega) (by rw [← inv.size]; exact hk)
        simpa [hk] using this
      have hsplit : listed.toList = listed.toList.take ys.length ++ List.replicate (l.length - ys.length) false := by rw [← htail, List.take_append_drop]
      have hh : (listed.toList.take ys.length).countP (fun b => !b) = 0 := by
        rw [hsplit, List.countP_append] at hcount
        have hr : (List.replicate (l.length - ys.length) false).countP (fun b => !b) = l.length - ys.length := by rw [List.countP_replicate]; simp
        rw [hr] at hcount
        omega
      have hhead : listed.toList.take ys.length = List.replicate ys.length true := by
        have hlen : (listed.toList.take ys.length).length = ys.length := by simp [hls]; omega
        rw [List.eq_replicate_iff]
        refine ⟨hlen, fun b hb => ?_⟩
        have := List.countP_eq_zero.1 hh b hb
        simpa using this
      have hlisted : listed = (List.replicate ys.length true ++ List.replicate (l.toArray.size - ys.length) false).toArray := by
        have h1 : listed = listed.toList.toArray := by simp
        rw [h1, hsplit, hhead]
        simp
      have hall' : ∀ i, i < ys.length → listed.getD i false = true := by
        intro i hi
        rw [hlisted, Array.getD_eq_getD_getElem?, List.getElem?_toArray, List.getElem?_append_left (by simpa using hi)]
        simp [hi]
      have hfull := hb.full ok hall'
      have := wpAny_of_seq (P := P) (ops := l.toArray) (md := .any) (Q' := Q) (l.drop ys.length) ys.length listed a w (fun j => by simp [List.getElem?_drop]) (by rw [hdl, hlisted]; exact hseq) (by
        rw [hfull]
        have hst : st = n := by
          have h1 : st ≤ n := by
            rcases hb.stage with e | ⟨i, v, hi⟩
            · omega
            · have := (turns_at htn hi).1; omega
          rcases turns_last htn with e | ⟨i, v, hi⟩
          · omega
          · have := (hb.turns i (n - 1) v hi).1 (hall' i (List.getElem?_eq_some_iff.1 hi).1)
            omega
        subst hst
        refine hend g w _ hb.keep (fun i y b hi hy => ?_) (fun j i c hj => hb.puts j i c hj (hall' j (List.getElem?_eq_some_iff.1 hj).1)) (fun i j y z b c hij hi hj hy hz => hb.apart i j y z b c hij hi hj hy hz (hall' i (List.getElem?_eq_some_iff.1 hi).1) (hall' j (List.getElem?_eq_some_iff.1 hj).1))
        have hl := hall' i (List.getElem?_eq_some_iff.1 hi).1
        have h2 := hb.low i y b hi hy hl
        exact ⟨⟨i, y, b, hi, hy, hl, rfl⟩, h2.1, h2.2, fun hno => hb.boxes i y b hi hy hl (fun j c hj => absurd hj (hno j c))⟩)
      rwa [hdl, ← Nat.zero_add (l.toArray.size - ys.length)] at this
    | succ f ih =>
      intro listed a w g st inv hu hb
      -- the first one of the head that has not come up
      have hex : ∃ i, i < ys.length ∧ listed.getD i false = false := by
        refine Classical.byContradiction fun hno => ?_
        have hno' : ∀ i, i < ys.length → listed.getD i false = true := fun i hi => by
          cases h : listed.getD i false with
          | true => rfl
          | false => exact absurd ⟨i, hi, h⟩ hno
        have hls : listed.size = l.length := by have := inv.size; simpa using this
        have h0 : (listed.toList.take ys.length).countP (fun b => !b) = 0 := by
          rw [List.countP_eq_zero]
          intro b hb'
          obtain ⟨k, hk, rfl⟩ := List.getElem_of_mem hb'
          have hk1 : k < ys.length := by simp at hk; omega
          have hk2 : k < listed.size := by omega
          have := hno' k hk1
          simpa [hk2] using this
        have h1 := List.countP_le_length (p := fun b => !b) (l := listed.toList.drop ys.length)
        have h2 : unlisted listed = (listed.toList.take ys.length).countP (fun b => !b) + (listed.toList.drop ys.length).countP (fun b => !b) := by
          unfold unlisted; rw [← List.countP_append, List.take_append_drop]
        simp only [List.length_drop, Array.length_toList, hls] at h1
        have h3 : l.toArray.size = l.length := by simp
        omega
      have hleast : ∀ m : Nat, (∃ i, i < m ∧ i < ys.length ∧ listed.getD i false = false) → ∃ i, i < ys.length ∧ listed.getD i false = false ∧ ∀ j, j < i → listed.getD j false = true := by
        intro m
        induction m with
        | zero => rintro ⟨i, hi, _⟩; omega
        | succ m ih2 =>
          rintro ⟨i, hi, hiy, hil⟩
          by_cases hsm : ∃ j, j < m ∧ j < ys.length ∧ listed.getD j false = false
          · exact ih2 hsm
          · refine ⟨i, hiy, hil, fun j hj => ?_⟩
            cases h : listed.getD j false with
            | true => rfl
            | false => exact absurd ⟨j, by omega, by omega, h⟩ hsm
      obtain ⟨i, hi, hil, hlt⟩ := hleast ys.length (by obtain ⟨i, h1, h2⟩ := hex; exact ⟨i, h1, h1, h2⟩)
      have hsize : ∀ k, k < ys.length → k < listed.size := fun k hk => by rw [inv.size]; omega
      have hready : i ∈ Region.ready .any l.toArray listed := by
        obtain ⟨o, ho⟩ := ok.there i hi
        exact mem_ready.2 ⟨getD_in (hsize i hi) hil, o, by simpa using ho, fun e he hbd => hlt _ (ok.back i o hi ho e he hbd)⟩
      rw [show f + 1 + (l.toArray.size - ys.length) = (f + (l.toArray.size - ys.length)) + 1 by omega]
      refine ⟨fun h0 => (by rw [h0] at hready; cases hready), fun j hj => ?_⟩
      have hjn : j < ys.length := by
        rcases Nat.lt_or_ge j ys.length with h | h
        · exact h
        · exact absurd hj (tail_waits hs hc hn inv _ i rfl hi (getD_in (hsize i hi) hil) j h)
      refine wpOp_mono (fun a' w' ⟨g', st', hb'⟩ => ih _ a' w' g' st' (inv.set hj hjn) ?_ hb') (step2 ok hb hsel hgd hpw htn hea hKe hall inv.size hjn hj)
      have := unlisted_set (mem_ready.1 hj).1
      omega
  have inv0 : HeadInv .any l.toArray ys.length (Array.replicate l.toArray.size false) :=
    ⟨by simp, fun j oj _ hl => (by rw [getD_replicate_false] at hl; cases hl), fun t _ ht => getD_in (by simpa using ht) (getD_replicate_false _ _)⟩
  have hu : unlisted (Array.replicate l.toArray.size false) = ys.length + (l.toArray.size - ys.length) := by
    unfold unlisted
    rw [Array.toList_replicate, List.countP_replicate]
    simp
    omega
  have := key ys.length _ a0 { W with drawn := W.drawn + 1 } (fun _ => 0) 0 inv0 hu
    ⟨rfl, rfl, hKe.less _ _ _ _ h0 (by
      rintro k ⟨i, y, o, -, -, hl, -⟩
      rw [getD_replicate_false] at hl
      cases hl), Nat.le_refl _, fun j oj _ hl => (by rw [getD_replicate_false] at hl; cases hl), fun _ _ => rfl, fun i o y d _ _ hl => (by rw [getD_replicate_false] at hl; cases hl), fun i y b _ _ hl => (by rw [getD_replicate_false] at hl; cases hl),
      fun i y b _ _ hl => (by rw [getD_replicate_false] at hl; cases hl), fun j i c _ hl => (by rw [getD_replicate_false] at hl; cases hl), fun i j y z b c _ _ _ _ _ hl => (by rw [getD_replicate_false] at hl; cases hl),
      fun i s v _ => ⟨fun hl => (by rw [getD_replicate_false] at hl; cases hl), fun hl => absurd hl (Nat.not_lt_zero _)⟩, .inl rfl⟩
  rwa [show ys.length + (l.toArray.size - ys.length) = l.toArray.size by omega] at this

end DrawT

end Go.Proofs.YtdibdfalahjmbaaGreat.More
