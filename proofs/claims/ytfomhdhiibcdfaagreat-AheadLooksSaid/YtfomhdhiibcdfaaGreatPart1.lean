/- Texts of this proof that follow each other, in one file. -/
import Derived.Test.YtfomhdhiibcdfaaGreatRows
import Derived.WalkKit
import Derived.WalkSpells
import Derived.WalkLawsBesides
import Derived.BigQuiet
import Derived.Lib.Hide
import Derived.Lib.QuietBelow
import Derived.DataElems
import Derived.ProofKit
import Derived.OpenShut
import Derived.Carry
import Derived.StillTail
import Derived.OneCell
import Derived.Maps.AppendAt
import Derived.Deep.AppendLies
import Derived.Deep.RegionLaw
/-! What every walk wants: Below, cells, lists that are read. -/
namespace Go.Proofs.YtfomhdhiibcdfaaGreat
open Go.RowKit Go.Sort

theorem ba1 (w : World) (o : Obj) : Below w.heap.size w (w.alloc o) := (Below.refl _ _).alloc (Nat.le_refl _) o
theorem ba2 (w : World) (o p : Obj) : Below w.heap.size w ((w.alloc o).alloc p) := (ba1 w o).alloc (by simp) p
theorem ba3 (w : World) (o p q : Obj) : Below w.heap.size w (((w.alloc o).alloc p).alloc q) := (ba2 w o p).alloc (by simp; omega) q

theorem bcell {W w1 : World} (hb : Below W.heap.size W w1) : (∀ b o, b < W.heap.size → w1.cell? ⟨b, o, none⟩ = W.cell? ⟨b, o, none⟩) ∧ (∀ b o, b < W.heap.size → w1.frozen? ⟨b, o, none⟩ = W.frozen? ⟨b, o, none⟩) :=
  ⟨fun b o h => hb.cell (p := ⟨b, o, none⟩) h, fun b o h => hb.frozen (p := ⟨b, o, none⟩) h⟩

theorem thru {w W w1 : World} (h1 : Below w.heap.size w W) (h2 : Below W.heap.size W w1) : Below w.heap.size w w1 := h1.trans (h2.mono h1.size)

/-! Lists that are read. -/
theorem block_of_add (a : Addr) (n : Nat) : (a.add n).block = a.block := by unfold Addr.add; split <;> rfl

/-- The numbers of a slice, below block B. -/
def Nums (w : World) (B : Nat) (A : Option Addr) (xs : List Int) : Prop :=
  ∀ k, k < xs.length → ∃ ad : Addr, A = some ad ∧ ad.block < B ∧ w.cell? (ad.add k) = some (.int .i64 (xs.getD k 0))

theorem Nums.below {w w' : World} {B : Nat} {A : Option Addr} {xs : List Int} (h : Nums w B A xs) (k : Below B w w') : Nums w' B A xs := fun i hi => by
  obtain ⟨ad, e, hb, hc⟩ := h i hi
  exact ⟨ad, e, hb, by rw [k.cell (by rw [block_of_add]; exact hb)]; exact hc⟩

theorem Nums.more {w : World} {B C : Nat} {A : Option Addr} {xs : List Int} (h : Nums w B A xs) (hc : B ≤ C) : Nums w C A xs := fun i hi => by
  obtain ⟨ad, e, hb, hx⟩ := h i hi
  exact ⟨ad, e, by omega, hx⟩

theorem Nums.thru {w w' : World} {A : Option Addr} {xs : List Int} (h : Nums w w.heap.size A xs) (k : Below w.heap.size w w') : Nums w' w'.heap.size A xs :=
  (h.below k).more k.size

def inB (n : Int) : Bool := decide (-1152921504606846976 ≤ n ∧ n ≤ 1152921504606846976)

theorem take_next (xs : List Int) (k : Nat) (h : k < xs.length) : xs.take (k + 1) = xs.take k ++ [xs.getD k 0] := by
  rw [List.take_succ_eq_append_getElem h]; simp [List.getD, h]

theorem all_out (xs : List Int) (k : Nat) (h : k < xs.length) (y : Int) (hy : y = xs.getD k 0) (hb : inB y = false) : xs.all inB = false := by
  rw [List.all_eq_false]
  refine ⟨y, ?_, by rw [hb]; simp⟩
  rw [hy]; simp [List.getD, h]

theorem ret_int {a b : Int} (h : a = b) : Ending.returned (.int .i64 a) = .returned (.int .i64 b) := by rw [h]
theorem ret_bool {a b : Bool} (h : a = b) : Ending.returned (.bool a) = .returned (.bool b) := by rw [h]

theorem calls_same_below {P : Program} {f : FuncId} {args : Array Value} {w : World} {v : Value} (h : Calls P f args w fun e w' => e = .returned v ∧ w = w') :
    Calls P f args w fun e w' => e = .returned v ∧ Below w.heap.size w w' := h.mono fun _ _ ⟨he, hw⟩ => ⟨he, by subst hw; exact Below.refl _ _⟩

theorem inB_iff {n : Int} (h : inB n = true) : -1152921504606846976 ≤ n ∧ n ≤ 1152921504606846976 := by
  unfold inB at h; simpa using h

theorem nums0 (w : World) (B : Nat) (A : Option Addr) : Nums w B A [] := fun k hk => by simp at hk

/-- The front and the back of a list. -/
theorem Nums.front {w : World} {B : Nat} {A : Option Addr} {xs : List Int} (h : Nums w B A xs) (k : Nat) : Nums w B A (xs.take k) := fun i hi => by
  rw [List.length_take] at hi
  obtain ⟨ad, e, hb, hc⟩ := h i (by omega)
  refine ⟨ad, e, hb, ?_⟩
  rw [hc]
  simp only [List.getD, List.getElem?_take]
  rw [if_pos (by omega)]
theorem Nums.back {w : World} {B : Nat} {ad : Addr} {xs : List Int} (h : Nums w B (some ad) xs) (k : Nat) : Nums w B (some (ad.add k)) (xs.drop k) := fun i hi => by
  rw [List.length_drop] at hi
  obtain ⟨ad', e, hb, hc⟩ := h (k + i) (by omega)
  injection e with e
  subst e
  refine ⟨_, rfl, by rw [block_of_add]; exact hb, ?_⟩
  rw [Addr.add_add, hc]
  simp [List.getD]

/-- Where the back of a slice lies. -/
def backA (A : Option Addr) (c k : Nat) : Option Addr := if c = k then A else Option.map (fun x => x.add k) A

theorem Nums.back' {w : World} {B : Nat} {A : Option Addr} {n c : Nat} {xs : List Int} (h : Nums w B A xs) (hn : n = xs.length) (hc : n ≤ c) (k : Nat) (hk : k ≤ n) : Nums w B (backA A c k) (xs.drop k) := by
  cases A with
  | none =>
    have : xs.drop k = [] := by
      rcases Nat.eq_zero_or_pos xs.length with h0 | h0
      · exact List.drop_eq_nil_of_le (by omega)
      · obtain ⟨ad, e, _⟩ := h 0 h0
        cases e
    rw [this]
    exact nums0 _ _ _
  | some ad =>
    unfold backA
    split
    · rw [List.drop_eq_nil_of_le (by omega)]
      exact nums0 _ _ _
    · exact h.back k

end Go.Proofs.YtfomhdhiibcdfaaGreat

/-! How the laws end; what comes in. -/
namespace Go.Proofs.YtfomhdhiibcdfaaGreat
open Go.RowKit

section
open Go.ChangeShapes Go.WideShapes Go.ChangeAt
variable {H : Type} {enc : TypeId × Value → H} {P : Program}

/-- The end of a call that leaves all old memory as it was, and may lay what it likes behind it. -/
theorem ends_low {f : Func} {s : ChangeSpec} {apart fresh handsOn again : Bool} {W V : World} {args : Array Value} {v : Value} {ds gs : List (DataW H)} {places pa pv : List MemPlace}
    (whole : DataW.Whole enc P f.params.toList s.vars apart W args.toList ds gs places)
    (results : ∀ (b : Nat) (sp : Nat → Bool) (hd : Bool), DataW.TrodAll enc P V b sp hd f.resultTypes.toList (v.resultList f.resultTypes.size) (s.fn H (ds ++ gs)).results [])
    (arguments : ∀ sp : Nat → Bool, (∀ p ∈ places, sp p.block = true) → DataW.TrodAll enc P V 0 sp true f.params.toList args.toList (s.fn H (ds ++ gs)).args pa)
    (variables : ∀ sp : Nat → Bool, (∀ p ∈ places, sp p.block = true) → DataW.TrodVars enc P V sp s.vars (s.fn H (ds ++ gs)).vars pv)
    (parts : places = pa ++ pv) (low : Below W.heap.size W V)
    (forms : ∀ (j : Nat) (t : TypeId) (r : Value), f.resultTypes[j]? = some t → (v.resultList f.resultTypes.size)[j]? = some r → Value.okWide P V .any 0 t r) :
    s.post enc P f apart fresh handsOn again W args v V := by
  have old : ∀ p ∈ places, p.block < W.heap.size := fun p h => whole.lt p h
  have mark : ∀ p ∈ places, (fun b => decide (b < W.heap.size)) p.block = true := fun p h => by simpa using old p h
  subst parts
  obtain ⟨_, _, _, _, _, thawed, once⟩ := id whole
  refine ⟨ds, gs, pa ++ pv, [], pa, pv, whole, results _ _ _, arguments _ mark, variables _ mark, ?_, fun _ => ⟨forms, _, _, ([] ++ pa) ++ pv, ⟨[] ++ pa, pv, trodAll_append (arguments _ (fun _ _ => rfl)) (results _ _ _), variables _ (fun _ _ => rfl), rfl, ?_, ?_⟩, ?_⟩⟩
  · exact World.keptBut_mono (fun p h => ⟨h, Or.inr (List.mem_append.1 h)⟩) (low.frame (· ∈ pa ++ pv))
  · intro b off h
    have h' : MemPlace.cell b off ∈ pa ++ pv := by simpa using h
    rw [low.frozen (old _ h')]
    exact thawed b off h'
  · intro h
    simpa using once h
  · intro p h _
    simpa using h
end


section
open Go.ChangeShapes Go.WideShapes Go.ChangeAt

theorem own : ownKnob Tryz.prog.godebug = none := by kernel_rfl
theorem laidOut : laidOutB Tryz.prog = true := by kernel_rfl
theorem cells3 : Tryz.prog.cellsOf 3 = 1 := by kernel_rfl

/-- A slice of numbers that came in. -/
theorem open_nums {H : Type} {enc : TypeId × Value → H} {W : World} {v : Value} {d : DataW H} {ps : List MemPlace} (hv : ∃ a len cap, v = .slice a len cap)
    (h : DataW.Trod enc Tryz.prog W 0 (fun _ => true) true 24 v d ps) :
    ∃ A len cap xs, v = .slice A len cap ∧ len = xs.length ∧ len ≤ 9223372036854775807 ∧ Nums W W.heap.size A xs ∧ (∀ n ∈ xs, -9223372036854775808 ≤ n ∧ n ≤ 9223372036854775807) := by
  obtain ⟨a0, len, cap, rfl⟩ := hv
  obtain ⟨fuel, hf⟩ := h
  rcases open_ints Tryz.underlying24 Tryz.underlying3 cells3 hf with ⟨hcs, hx⟩ | ⟨a, len', cap', zs, hcs, _, hl, hm, hz, hx, hcell, hwz⟩
  · simp [Value.cells] at hcs
    obtain ⟨rfl, rfl, rfl⟩ := hcs
    exact ⟨none, 0, 0, [], rfl, rfl, by omega, fun k hk => by simp at hk, fun n hn => by simp at hn⟩
  · simp [Value.cells] at hcs
    obtain ⟨rfl, rfl, rfl⟩ := hcs
    simp only [if_true] at hz
    unfold maxLen at hm
    refine ⟨some a, len, cap, zs.take len, rfl, by rw [List.length_take]; omega, by omega, fun k hk => ?_, fun n hn => ?_⟩
    · rw [List.length_take] at hk
      have hc := hcell k (by omega)
      have hb := World.block_lt_of_cell? _ _ hc
      rw [block_of_add] at hb
      refine ⟨a, rfl, hb, ?_⟩
      rw [hc]
      simp only [List.getD, List.getElem?_take]
      rw [if_pos (by omega)]
    · have := hwz n (List.mem_of_mem_take hn)
      simpa [Lit.wf, IntKind.min, IntKind.max, IntKind.signed, IntKind.bits] using this

theorem bounds {a : Int} (w : (Lit.int .i64 a).wf = true) : -9223372036854775808 ≤ a ∧ a ≤ 9223372036854775807 := by
  simpa [Lit.wf, IntKind.min, IntKind.max, IntKind.signed, IntKind.bits] using w

theorem bounds8 {a : Int} (w : (Lit.int .u8 a).wf = true) : 0 ≤ a ∧ a ≤ 255 := by
  simpa [Lit.wf, IntKind.min, IntKind.max, IntKind.signed, IntKind.bits] using w
end

end Go.Proofs.YtfomhdhiibcdfaaGreat

/-! Two laws on regions that draw their order, over any program: quiet operations of a class ahead of a forced tail; and an invariant that every operation keeps, in whichever order they come up. -/
namespace Go.Proofs.YtfomhdhiibcdfaaGreat
open Go.RowKit Go.Sort

section
variable {P : Program} {md : Region.Mode} {ops : Array Oper} {C : World → Prop}

/-- Whatever order is picked of the operations below n, till L holds. -/
def wpHeadQ (P : Program) (md : Region.Mode) (ops : Array Oper) (C : World → Prop) (n : Nat) (L : Array Bool → Act → Prop) : Nat → Array Bool → Act → Prop
  | 0, listed, a => L listed a
  | f + 1, listed, a =>
    Region.ready md ops listed ≠ [] ∧ ∀ i ∈ Region.ready md ops listed, i < n ∧ qOp P ops C i (wpHeadQ P md ops C n L f (listed.setIfInBounds i true)) a

theorem wpAny_of_headQ {n g : Nat} {L : Array Bool → Act → Prop} {Q' : Exit → Act → World → Prop} (hL : ∀ listed a w, C w → L listed a → wpAny P md ops Q' g listed a w) :
    ∀ (f : Nat) (listed : Array Bool) (a : Act) (w : World), C w → wpHeadQ P md ops C n L f listed a → wpAny P md ops Q' (f + g) listed a w
  | 0, listed, a, w, hw, h => by rw [Nat.zero_add]; exact hL _ _ _ hw h
  | f + 1, listed, a, w, hw, h => by
    rw [show f + 1 + g = (f + g) + 1 by omega]
    exact ⟨fun h0 => absurd h0 h.1, fun i hi => wpOp_of_qOp hw (fun a' w' hw' h' => wpAny_of_headQ hL f _ a' w' hw' h') (h.2 i hi).2⟩

theorem wpHeadQ_first {n i : Nat} {oi : Oper} {v : Value} {L : Array Bool → Act → Prop} (hi : ops[i]? = some oi) (hsel : ∀ (j : Nat) (o : Oper) cs b, ops[j]? = some o → o.op ≠ .select cs b)
    (hs : Region.sinkB md ops n = true) (hc : Region.chainB md ops n = true) (hn : n < ops.size) (hin : i < n)
    (hdone : ∀ listed a, L listed a → ∀ j ∈ Region.ready md ops listed, n ≤ j) :
    ∀ (f : Nat) (listed : Array Bool) (a : Act), HeadInv md ops n listed →
      (∀ j oj, ops[j]? = some oj → j ≠ i → listed.getD j true = false → (∀ e ∈ oj.after, Region.binds md e = true → e.on ≠ i) → oi.apart ops oj = true) →
      i ∈ Region.ready md ops listed → YieldsIn P ops C oi v a →
      wpHeadQ P md ops C n L f (listed.setIfInBounds i true) (a.put oi.dst v) → wpHeadQ P md ops C n L (f + 1) listed a := by
  intro f
  induction f with
  | zero =>
    intro listed a inv _ hr hy H
    have hun := (mem_ready.1 hr).1
    refine ⟨fun h => (by rw [h] at hr; cases hr), fun j hj => ?_⟩
    have hjn : j < n := by
      rcases Nat.lt_or_ge j n with h | h
      · exact h
      · exact absurd hj (tail_waits hs hc hn inv _ i rfl hin hun j h)
    refine ⟨hjn, ?_⟩
    by_cases hji : j = i
    · subst hji; exact hy.qOp hi H
    · have := hdone _ _ H j (ready_mono hj hji)
      omega
  | succ f ih =>
    intro listed a inv hfree hr hy H
    have hun := (mem_ready.1 hr).1
    refine ⟨fun h => (by rw [h] at hr; cases hr), fun j hj => ?_⟩
    have hjn : j < n := by
      rcases Nat.lt_or_ge j n with h | h
      · exact h
      · exact absurd hj (tail_waits hs hc hn inv _ i rfl hin hun j h)
    refine ⟨hjn, ?_⟩
    by_cases hji : j = i
    · subst hji; exact hy.qOp hi H
    · have h1 := (H.2 j (ready_mono hj hji)).2
      obtain ⟨hjun, oj, hoj, hall⟩ := mem_ready.1 hj
      have hnot : ∀ e ∈ oj.after, Region.binds md e = true → e.on ≠ i := fun e he hb heq => by
        have h1 := hall e he hb
        rw [heq, getD_both hun] at h1
        cases h1
      have h2 := qOp_put hoj (hfree j oj hoj hji hjun hnot) (fun cs b => hsel i oi cs b hi) (fun cs b => hsel j oj cs b hoj) hy h1
      have hfree' : ∀ k ok, ops[k]? = some ok → k ≠ i → (listed.setIfInBounds j true).getD k true = false →
          (∀ e ∈ ok.after, Region.binds md e = true → e.on ≠ i) → oi.apart ops ok = true := fun k ok hk hki hun hno => by
        refine hfree k ok hk hki ?_ hno
        by_cases hjk : j = k
        · subst hjk; exact hjun
        · rw [getD_set_ne true hjk] at hun; exact hun
      refine qOp_mono (fun a' h3 => ih (listed.setIfInBounds j true) a' (inv.set hj hjn) hfree' (ready_mono hr (Ne.symm hji)) h3.1 ?_) h2
      rw [Array.setIfInBounds_comm _ _ hji]
      exact h3.2

theorem wpHeadQ_lex {n g : Nat} {Lq : Act → Prop} (hsel : Region.noSelect ops = true) (hs : Region.sinkB md ops n = true) (hc : Region.chainB md ops n = true) (hn : n < ops.size) :
    ∀ (l : List Oper) (k : Nat) (listed : Array Bool) (a : Act), (∀ j, j < l.length → l[j]? = ops[k + j]?) → k + l.length = n → HeadInv md ops n listed →
    Region.lexHead md ops g l.length k listed = true → wpQuiet P ops C Lq l a →
    wpHeadQ P md ops C n (fun listed' a' => Region.seqB md ops g n listed' = true ∧ Lq a') l.length listed a
  | [], k, listed, a, _, hk, _, hB, h => by
    have : k = n := by simpa using hk
    subst this
    exact ⟨by simpa [Region.lexHead] using hB, h⟩
  | o :: l, k, listed, a, hl, hk, inv, hB, h => by
    have h0 : ops[k]? = some o := by simpa using (hl 0 (by simp)).symm
    simp only [List.length_cons, Region.lexHead, Bool.and_eq_true] at hB
    obtain ⟨⟨hr, hf⟩, hB'⟩ := hB
    have hkn : k < n := by simp only [List.length_cons] at hk; omega
    have hr' : k ∈ Region.ready md ops listed := by simpa using hr
    have hst : qOp P ops C k (wpQuiet P ops C Lq l) a := by unfold qOp; simp only [h0]; exact h
    obtain ⟨v, hy, hK⟩ := yieldsIn_of_qOp h0 hst
    exact wpHeadQ_first h0 (Region.noSelect_spec hsel) hs hc hn hkn (fun listed' a' hL => seqB_ready hL.1) l.length listed a inv (Region.free_spec h0 hf) hr' hy
      (wpHeadQ_lex hsel hs hc hn l (k + 1) _ _ (fun j hj => by have := hl (j + 1) (by simp; omega); simpa [Nat.add_assoc, Nat.add_comm 1 j] using this) (by simp only [List.length_cons] at hk; omega) (inv.set hr' hkn) hB' hK)

/-- A region that draws its order, whose first n operations are quiet in a class of worlds and whose others come up behind all of these, one by one. -/
theorem wp_region_quiet_tail {id : Nat} {Q : Exit → Act → World → Prop} {a : Act} {w : World} {l : List Oper} (n : Nat) (hm : P.follows .mixedOrders = true) (hB : Region.lexTailB .any l.toArray n = true) (hC : C { w with drawn := w.drawn + 1 })
    (h : wpQuiet P l.toArray C (fun a' => ∀ w', C w' → wpList P l.toArray Q (l.drop n) a' w') (l.take n) a) : (Code.region id l.toArray true).wp P Q a w := by
  simp only [Region.lexTailB, Bool.and_eq_true, decide_eq_true_eq] at hB
  obtain ⟨⟨⟨⟨hsel, hn⟩, hs⟩, hc⟩, hlex⟩ := hB
  have hn' : n < l.length := by simpa using hn
  have htl : (l.take n).length = n := by simp; omega
  have hdl : (l.drop n).length = l.toArray.size - n := by simp
  have inv0 : HeadInv .any l.toArray n (Array.replicate l.toArray.size false) :=
    ⟨by simp, fun j oj _ hl => (by rw [getD_replicate_false] at hl; cases hl), fun t _ ht => getD_in (by simpa using ht) (getD_replicate_false _ _)⟩
  have H := wpHeadQ_lex (md := .any) (g := l.toArray.size - n) hsel hs hc hn (l.take n) 0 _ a (fun j hj => by
    have hj' : j < n := by rw [htl] at hj; exact hj
    simp [hj']) (by simpa using htl) inv0 (by rw [htl]; exact hlex) h
  refine wp_region_any hm ?_
  have := wpAny_of_headQ (Q' := Q) (g := l.toArray.size - n) (fun listed a' w' hw' hL => by
    have := wpAny_of_seq (md := .any) (Q' := Q) (l.drop n) n listed a' w' (fun j => by simp [List.getElem?_drop]) (by rw [hdl]; exact hL.1) (hL.2 w' hw')
    rwa [hdl] at this) _ _ _ _ hC H
  rw [htl, show n + (l.toArray.size - n) = l.toArray.size by omega] at this
  exact this

/-- .. at the class 'what was there is as it was; blocks may have been laid'. -/
theorem wp_region_quiet_below_tail {id : Nat} {Q : Exit → Act → World → Prop} {a : Act} {w : World} {l : List Oper} (n : Nat) (hm : P.follows .mixedOrders = true) (hB : Region.lexTailB .any l.toArray n = true)
    (h : wpQuiet P l.toArray (fun w' => ∃ p : Regrown, w' = grow (redrawn w p.d) p.os) (fun a' => ∀ w', (∃ p : Regrown, w' = grow (redrawn w p.d) p.os) → wpList P l.toArray Q (l.drop n) a' w') (l.take n) a) : (Code.region id l.toArray true).wp P Q a w :=
  wp_region_quiet_tail (C := fun w' => ∃ p : Regrown, w' = grow (redrawn w p.d) p.os) n hm hB ⟨⟨w.drawn + 1, #[]⟩, by rw [grow_empty]; rfl⟩ h

/-- How many operations have not come up. -/
def unlisted (listed : Array Bool) : Nat := listed.toList.countP (fun b => !b)

theorem unlisted_set {listed : Array Bool} {i : Nat} (h : listed.getD i true = false) : unlisted (listed.setIfInBounds i true) + 1 = unlisted listed := by
  have hi : i < listed.size := by
    rcases Nat.lt_or_ge i listed.size with h' | h'
    · exact h'
    · simp [Array.getElem?_eq_none h'] at h
  have hv : listed[i] = false := by simpa [hi] using h
  unfold unlisted
  rw [Array.toList_setIfInBounds, List.countP_set (by simpa using hi)]
  have h2 : listed.toList[i]'(by simpa using hi) = false := by simpa using hv
  rw [h2]
  have hpos : 0 < listed.toList.countP (fun b => !b) := List.countP_pos_iff.2 ⟨false, by rw [← h2]; exact List.getElem_mem _, rfl⟩
  simp only [Bool.not_false, Bool.not_true, if_true, Bool.false_eq_true, if_false]
  omega

/-- **AN INVARIANT OF A REGION**: what holds at first, what each operation keeps whose turn it may be, in whichever order, and what gives the post once none is left. -/
theorem wp_region_keeps {id : Nat} {Q : Exit → Act → World → Prop} {a : Act} {w : World} {ops : Array Oper} (I : Array Bool → Act → World → Prop) (hm : P.follows .mixedOrders = true)
    (h0 : I (Array.replicate ops.size false) a { w with drawn := w.drawn + 1 })
    (hstep : ∀ listed a w, listed.size = ops.size → I listed a w → ∀ i ∈ Region.ready .any ops listed, wpOp P ops Q i (I (listed.setIfInBounds i true)) a w)
    (hend : ∀ listed a w, listed.size = ops.size → I listed a w → Region.ready .any ops listed = [] → Q .normal a w) : (Code.region id ops true).wp P Q a w := by
  refine wp_region_any hm ?_
  have key : ∀ (fuel : Nat) (listed : Array Bool) (a : Act) (w : World), listed.size = ops.size → unlisted listed ≤ fuel → I listed a w → wpAny P .any ops Q fuel listed a w := by
    intro fuel
    induction fuel with
    | zero =>
      intro listed a w hs hu hI
      have hr : Region.ready .any ops listed = [] := by
        cases hr : Region.ready .any ops listed with
        | nil => rfl
        | cons i _ =>
          have hi : i ∈ Region.ready .any ops listed := by rw [hr]; simp
          have := unlisted_set (mem_ready.1 hi).1
          omega
      exact ⟨hr, hend _ _ _ hs hI hr⟩
    | succ fuel ih =>
      intro listed a w hs hu hI
      refine ⟨fun hr => hend _ _ _ hs hI hr, fun i hi => ?_⟩
      refine wpOp_mono (fun a' w' h' => ih _ a' w' (by simpa using hs) ?_ h') (hstep _ _ _ hs hI i hi)
      have := unlisted_set (mem_ready.1 hi).1
      omega
  refine key _ _ _ _ (by simp) ?_ h0
  unfold unlisted
  exact Nat.le_trans List.countP_le_length (by simp)
end
end Go.Proofs.YtfomhdhiibcdfaaGreat

/-! The contracts of record's small functions, of the document's, and of the ranges over lists that they call. -/
namespace Go.Proofs.YtfomhdhiibcdfaaGreat.Record
open Go.RowKit Go.Sort

def beyB (n a b : Int) : Bool := decide (n < a) || decide (b < n)
def bigB (n : Int) : Bool := beyB n (-268435456) 268435456

set_option maxHeartbeats 400000 in
theorem beyond_any (n a b : Int) (w : World) :
    Calls Tryz.prog 80 #[.int .i64 n, .int .i64 a, .int .i64 b] w fun e w' => e = .returned (.bool (beyB n a b)) ∧ w = w' := by
  go_enter Tryz.func80, Tryz.ntmps80
  go_wp2
  all_goals (go_ret; exact ⟨ret_bool (by rw [Bool.eq_iff_iff]; simp_all [beyB] <;> omega), rfl⟩)

theorem beyond_is (n a b : Int) (v : Bool) (hv : beyB n a b = v) (w : World) :
    Calls Tryz.prog 80 #[.int .i64 n, .int .i64 a, .int .i64 b] w fun e w' => e = .returned (.bool v) ∧ w = w' := by
  subst hv; exact beyond_any n a b w

set_option maxHeartbeats 400000 in
theorem out_any (n : Int) (w : World) :
    Calls Tryz.prog 100 #[.int .i64 n] w fun e w' => e = .returned (.bool (bigB n)) ∧ w = w' := by
  go_enter Tryz.func100, Tryz.ntmps100
  go_wp2_with fail
  refine (beyond_any _ _ _ _).mono ?_; rintro e w' ⟨rfl, rfl⟩
  go_wp2_with fail
  go_ret
  exact ⟨rfl, rfl⟩

theorem out_is (n : Int) (v : Bool) (hv : bigB n = v) (w : World) :
    Calls Tryz.prog 100 #[.int .i64 n] w fun e w' => e = .returned (.bool v) ∧ w = w' := by
  subst hv; exact out_any n w

set_option maxHeartbeats 400000 in
theorem refbig_any (n : Int) (w : World) :
    Calls Tryz.prog 52 #[.int .i64 n] w fun e w' => e = .returned (.bool (bigB n)) ∧ w = w' := by
  go_enter Tryz.func52, Tryz.ntmps52
  go_wp2
  all_goals (go_ret; exact ⟨ret_bool (by rw [Bool.eq_iff_iff]; simp_all [bigB, beyB] <;> omega), rfl⟩)

theorem refbig_is (n : Int) (v : Bool) (hv : bigB n = v) (w : World) :
    Calls Tryz.prog 52 #[.int .i64 n] w fun e w' => e = .returned (.bool v) ∧ w = w' := by
  subst hv; exact refbig_any n w

def sideB (k s : Int) : Bool := if k = 2 then decide (s = 1) || decide (s = 2) else decide (s = 0)

set_option maxHeartbeats 400000 in
theorem side_any (k s : Int) (w : World) :
    Calls Tryz.prog 84 #[.int .i64 k, .int .i64 s] w fun e w' => e = .returned (.bool (sideB k s)) ∧ w = w' := by
  go_enter Tryz.func84, Tryz.ntmps84
  go_wp2
  all_goals (go_ret; exact ⟨ret_bool (by rw [Bool.eq_iff_iff]; simp_all [sideB] <;> omega), rfl⟩)

theorem side_is (k s : Int) (v : Bool) (hv : sideB k s = v) (w : World) :
    Calls Tryz.prog 84 #[.int .i64 k, .int .i64 s] w fun e w' => e = .returned (.bool v) ∧ w = w' := by
  subst hv; exact side_any k s w

def leastH (k : Int) : Int := if k = 5 then 0 else -1
def leastW (k : Int) : Int := if k = 2 then 0 else leastH k

set_option maxHeartbeats 400000 in
theorem leastH_any (k : Int) (w : World) :
    Calls Tryz.prog 88 #[.int .i64 k] w fun e w' => e = .returned (.int .i64 (leastH k)) ∧ w = w' := by
  go_enter Tryz.func88, Tryz.ntmps88
  go_wp2
  all_goals (go_ret; exact ⟨ret_int (by simp_all [leastH]), rfl⟩)

theorem leastH_is (k v : Int) (hv : leastH k = v) (w : World) :
    Calls Tryz.prog 88 #[.int .i64 k] w fun e w' => e = .returned (.int .i64 v) ∧ w = w' := by
  subst hv; exact leastH_any k w

set_option maxHeartbeats 400000 in
theorem leastW_any (k : Int) (w : World) :
    Calls Tryz.prog 87 #[.int .i64 k] w fun e w' => e = .returned (.int .i64 (leastW k)) ∧ w = w' := by
  by_cases h : k = 2
  · subst h
    go_enter Tryz.func87, Tryz.ntmps87
    go_wp2
    go_ret
    exact ⟨rfl, rfl⟩
  · go_enter Tryz.func87, Tryz.ntmps87
    go_wp2_with fail
    refine (leastH_any _ _).mono ?_; rintro e w' ⟨rfl, rfl⟩
    go_wp2_with fail
    go_ret
    exact ⟨by simp [leastW, h], rfl⟩

theorem leastW_is (k v : Int) (hv : leastW k = v) (w : World) :
    Calls Tryz.prog 87 #[.int .i64 k] w fun e w' => e = .returned (.int .i64 v) ∧ w = w' := by
  subst hv; exact leastW_any k w

def openB (k : Int) : Bool := decide (k = 2) || decide (k = 3)
def holdsB (k : Int) : Bool := decide (k = 1) || openB k
def fitsB (p c : Int) : Bool :=
  if c = 1 ∨ c = 3 ∨ c = 4 then holdsB p else if c = 2 then holdsB p || decide (p = 4) else if c = 5 then decide (p = 4) else false

set_option maxHeartbeats 400000 in
theorem open_any (k : Int) (w : World) :
    Calls Tryz.prog 72 #[.int .i64 k] w fun e w' => e = .returned (.bool (openB k)) ∧ w = w' := by
  go_enter Tryz.func72, Tryz.ntmps72
  go_wp2
  all_goals (go_ret; exact ⟨ret_bool (by rw [Bool.eq_iff_iff]; simp_all [openB] <;> omega), rfl⟩)

theorem open_is (k : Int) (v : Bool) (hv : openB k = v) (w : World) :
    Calls Tryz.prog 72 #[.int .i64 k] w fun e w' => e = .returned (.bool v) ∧ w = w' := by
  subst hv; exact open_any k w

set_option maxHeartbeats 400000 in
theorem holds_any (k : Int) (w : World) :
    Calls Tryz.prog 93 #[.int .i64 k] w fun e w' => e = .returned (.bool (holdsB k)) ∧ w = w' := by
  by_cases h : k = 1
  · subst h
    go_enter Tryz.func93, Tryz.ntmps93
    go_wp2
    go_ret
    exact ⟨rfl, rfl⟩
  · go_enter Tryz.func93, Tryz.ntmps93
    go_wp2_with fail
    refine (open_any _ _).mono ?_; rintro e w' ⟨rfl, rfl⟩
    go_wp2_with fail
    go_ret
    exact ⟨by simp [holdsB, h], rfl⟩

theorem holds_is (k : Int) (v : Bool) (hv : holdsB k = v) (w : World) :
    Calls Tryz.prog 93 #[.int .i64 k] w fun e w' => e = .returned (.bool v) ∧ w = w' := by
  subst hv; exact holds_any k w

set_option maxHeartbeats 400000 in
theorem fits_any (p c : Int) (w : World) :
    Calls Tryz.prog 71 #[.int .i64 p, .int .i64 c] w fun e w' => e = .returned (.bool (fitsB p c)) ∧ w = w' := by
  obtain ⟨v, hv⟩ : ∃ v, holdsB p = v := ⟨_, rfl⟩
  have HV := Lib.hid hv
  clear hv
  by_cases h : c = 1 ∨ c = 3 ∨ c = 4
  · have hf : fitsB p c = v := by simp [fitsB, h, HV.out]
    rw [hf]
    clear hf
    rcases h with rfl | rfl | rfl
    all_goals
      go_enter Tryz.func71, Tryz.ntmps71
      go_wp2_with fail
      refine (holds_is _ _ HV.out _).mono ?_; rintro e w' ⟨rfl, rfl⟩
      go_wp2_with fail
      go_ret
      exact ⟨rfl, rfl⟩
  · by_cases h2 : c = 2
    · subst h2
      have hf : fitsB p 2 = (v || decide (p = 4)) := by simp [fitsB, HV.out]
      rw [hf]
      clear hf h
      cases v
      · go_enter Tryz.func71, Tryz.ntmps71
        go_wp2_with fail
        refine (holds_is _ _ HV.out _).mono ?_; rintro e w' ⟨rfl, rfl⟩
        go_wp2_with fail
        all_goals (go_ret; exact ⟨ret_bool (by rw [Bool.eq_iff_iff]; try simp_all), rfl⟩)
      · go_enter Tryz.func71, Tryz.ntmps71
        go_wp2_with fail
        refine (holds_is _ _ HV.out _).mono ?_; rintro e w' ⟨rfl, rfl⟩
        go_wp2_with fail
        go_ret
        exact ⟨rfl, rfl⟩
    · have h1 : ¬ c = 1 := fun e => h (Or.inl e)
      have h3 : ¬ c = 3 := fun e => h (Or.inr (Or.inl e))
      have h4 : ¬ c = 4 := fun e => h (Or.inr (Or.inr e))
      have hf : fitsB p c = if c = 5 then decide (p = 4) else false := by simp [fitsB, h, h2]
      rw [hf]
      clear hf h HV
      go_enter Tryz.func71, Tryz.ntmps71
      go_wp2
      all_goals (go_ret; exact ⟨ret_bool (by rw [Bool.eq_iff_iff]; try simp_all), rfl⟩)

end Go.Proofs.YtfomhdhiibcdfaaGreat.Record

/-! The contracts of the ranges over lists: is one too great? which is the least? -/
namespace Go.Proofs.YtfomhdhiibcdfaaGreat.Record
open Go.RowKit Go.Sort

theorem any_take (xs : List Int) (f : Int → Bool) (k : Nat) (h : k < xs.length) (ht : (xs.take k).any f = false) (hy : f (xs.getD k 0) = false) : (xs.take (k + 1)).any f = false := by
  rw [take_next xs k h, List.any_append, ht, List.any_cons, hy]; rfl

theorem any_at (xs : List Int) (f : Int → Bool) (k : Nat) (h : k < xs.length) (hy : f (xs.getD k 0) = true) : xs.any f = true := by
  rw [List.any_eq_true]
  exact ⟨xs.getD k 0, by simp [List.getD, h], hy⟩

set_option maxHeartbeats 400000 in
theorem index_is (A : Option Addr) (n c : Nat) (xs : List Int) (w : World) (hn : n = xs.length) (hlen : n ≤ 9223372036854775807) (B : Nat) (hx : Nums w B A xs) (v : Bool) (hv : xs.any bigB = v) :
    Calls Tryz.prog 104 #[.slice A n c, .func (.func 100) #[] #[]] w fun e w' => (∃ r : Int, decide (0 ≤ r) = v ∧ e = .returned (.int .i64 r)) ∧ w = w' := by
  have HX := Lib.hid hx
  have HV := Lib.hid hv
  have HN := Lib.hid hn
  clear hx hv hn
  go_enter Tryz.func104, Tryz.ntmps104
  go_wp2
  go_loop [8] (fun i => ∃ k : Nat, k ≤ n ∧ i = .int .i64 k ∧ (xs.take k).any bigB = false) (fun i => n - (intOf i).toNat)
  case atStart => exact ⟨0, Nat.zero_le _, rfl, by simp⟩
  case round =>
    obtain ⟨k, hk, rfl, hal⟩ := hrel
    have HA := Lib.hid hal
    clear hal
    by_cases hlt : k < n
    · obtain ⟨ad, hA, _, hcx⟩ := HX.out k (by rw [← HN.out]; exact hlt)
      subst hA
      obtain ⟨y, hy⟩ : ∃ y, y = xs.getD k 0 := ⟨_, rfl⟩
      rw [← hy] at hcx
      obtain ⟨u, hu⟩ : ∃ u, bigB y = u := ⟨_, rfl⟩
      have HY := Lib.hid hy
      have HU := Lib.hid hu
      clear hy hu
      cases u
      · go_wp2_with fail
        refine (out_is _ _ HU.out _).mono ?_; rintro e w' ⟨rfl, rfl⟩
        go_wp2_with fail
        go_round
        case rel => exact ⟨k + 1, by omega, by go_num, any_take xs _ k (by rw [← HN.out]; exact hlt) HA.out (by rw [← HY.out]; exact HU.out)⟩
        case measure => simp [intOf]; omega
      · go_wp2_with fail
        refine (out_is _ _ HU.out _).mono ?_; rintro e w' ⟨rfl, rfl⟩
        go_wp2_with fail
        go_ret
        exact ⟨⟨k, by rw [← HV.out, any_at xs _ k (by rw [← HN.out]; exact hlt) (by rw [← HY.out]; exact HU.out)]; simp, rfl⟩, rfl⟩
    · have hv : v = false := by rw [← HV.out]; have := HA.out; rwa [List.take_of_length_le (by rw [← HN.out]; omega)] at this
      have HV2 := Lib.hid hv
      clear hv
      go_wp2
      go_ret
      exact ⟨⟨-1, by rw [HV2.out]; simp, rfl⟩, rfl⟩

set_option maxHeartbeats 400000 in
theorem contains_is (A : Option Addr) (n c : Nat) (xs : List Int) (w : World) (hn : n = xs.length) (hlen : n ≤ 9223372036854775807) (B : Nat) (hx : Nums w B A xs) (v : Bool) (hv : xs.any bigB = v) :
    Calls Tryz.prog 99 #[.slice A n c, .func (.func 100) #[] #[]] w fun e w' => e = .returned (.bool v) ∧ w = w' := by
  have HX := Lib.hid hx
  have HV := Lib.hid hv
  have HN := Lib.hid hn
  clear hx hv hn
  go_enter Tryz.func99, Tryz.ntmps99
  go_wp2_with fail
  refine (index_is _ _ _ xs _ HN.out hlen B HX.out v HV.out).mono ?_; rintro e w' ⟨⟨r, hr, rfl⟩, rfl⟩
  have HR := Lib.hid hr
  clear hr
  go_wp2_with fail
  go_ret
  exact ⟨ret_bool HR.out, rfl⟩

set_option maxHeartbeats 400000 in
theorem toobig_is (A : Option Addr) (n c : Nat) (xs : List Int) (w : World) (hn : n = xs.length) (hlen : n ≤ 9223372036854775807) (B : Nat) (hx : Nums w B A xs) (v : Bool) (hv : xs.any bigB = v) :
    Calls Tryz.prog 82 #[.slice A n c] w fun e w' => e = .returned (.bool v) ∧ w = w' := by
  have HX := Lib.hid hx
  have HV := Lib.hid hv
  have HN := Lib.hid hn
  clear hx hv hn
  go_enter Tryz.func82, Tryz.ntmps82
  go_wp2_with fail
  refine (contains_is _ _ _ xs _ HN.out hlen B HX.out v HV.out).mono ?_; rintro e w' ⟨rfl, rfl⟩
  go_wp2_with fail
  go_ret
  exact ⟨rfl, rfl⟩

/-- The least of a list. -/
def minOf (xs : List Int) : Int := xs.foldl min (xs.getD 0 0)

theorem minOf_take (xs : List Int) (k : Nat) (h : k < xs.length) : (xs.take (k + 1)).foldl min (xs.getD 0 0) = min ((xs.take k).foldl min (xs.getD 0 0)) (xs.getD k 0) := by
  rw [take_next xs k h, List.foldl_append]; rfl

theorem minOf_one (xs : List Int) (h : 0 < xs.length) : (xs.take 1).foldl min (xs.getD 0 0) = xs.getD 0 0 := by
  have := minOf_take xs 0 h; simpa using this

set_option maxHeartbeats 400000 in
theorem min_any (A : Option Addr) (n c : Nat) (xs : List Int) (w : World) (hn : n = xs.length) (h0 : 0 < n) (hlen : n ≤ 9223372036854775807) (B : Nat) (hx : Nums w B A xs) :
    Calls Tryz.prog 91 #[.slice A n c] w fun e w' => e = .returned (.int .i64 (minOf xs)) ∧ w = w' := by
  have HX := Lib.hid hx
  have HN := Lib.hid hn
  clear hx hn
  obtain ⟨ad, hA, _, hc0⟩ := HX.out 0 (by rw [← HN.out]; exact h0)
  subst hA
  obtain ⟨y0, hy0⟩ : ∃ y, y = xs.getD 0 0 := ⟨_, rfl⟩
  rw [← hy0] at hc0
  have HY0 := Lib.hid hy0
  clear hy0
  simp only [go_sem] at hc0
  go_enter Tryz.func91, Tryz.ntmps91
  go_wp2
  go_loop [3, 4] (fun v i => ∃ k : Nat, ∃ m : Int, 1 ≤ k ∧ k ≤ n ∧ i = .int .i64 k ∧ v = .int .i64 m ∧ m = (xs.take k).foldl min (xs.getD 0 0)) (fun _ i => n - (intOf i).toNat)
  case atStart => exact ⟨1, y0, Nat.le_refl _, by omega, rfl, rfl, by rw [minOf_one xs (by rw [← HN.out]; exact h0)]; exact HY0.out⟩
  case round =>
    obtain ⟨k, m, hk1, hk, rfl, rfl, hm⟩ := hrel
    have HM := Lib.hid hm
    clear hm
    by_cases hlt : k < n
    · obtain ⟨ad2, hA2, _, hcx⟩ := HX.out k (by rw [← HN.out]; exact hlt)
      cases hA2
      obtain ⟨y, hy⟩ : ∃ y, y = xs.getD k 0 := ⟨_, rfl⟩
      rw [← hy] at hcx
      have HY := Lib.hid hy
      clear hy
      have HS := Lib.hid (minOf_take xs k (by rw [← HN.out]; exact hlt))
      go_wp2
      go_round
      case rel => exact ⟨k + 1, min m y, by omega, by omega, by go_num, by simp; split <;> omega, by rw [HS.out, ← HM.out, ← HY.out]⟩
      case measure => simp [intOf]; omega
    · have hv : m = minOf xs := by rw [HM.out, List.take_of_length_le (by rw [← HN.out]; omega)]; rfl
      have HV := Lib.hid hv
      clear hv
      go_wp2
      go_ret
      exact ⟨ret_int HV.out, rfl⟩

end Go.Proofs.YtfomhdhiibcdfaaGreat.Record

/-! Boxes by value and in memory; the contract of the law's own conversion. -/
namespace Go.Proofs.YtfomhdhiibcdfaaGreat.Record
open Go.RowKit Go.Sort

/-- The numbers of a box. -/
structure Bx where
  d : Int
  k : Int
  s : Int
  c : Int
  w : Int
  h : Int
  m0 : Int
  m1 : Int
  m2 : Int
  m3 : Int
  e0 : Int
  e1 : Int
  e2 : Int
  e3 : Int

/-- A box by value. -/
abbrev Bx.v (b : Bx) : Value :=
  .agg #[.int .i64 b.d, .int .i64 b.k, .int .i64 b.s, .int .i64 b.c, .int .i64 b.w, .int .i64 b.h, .int .i64 b.m0, .int .i64 b.m1, .int .i64 b.m2, .int .i64 b.m3, .int .i64 b.e0, .int .i64 b.e1, .int .i64 b.e2, .int .i64 b.e3]

/-- A box that lies in a block. -/
def At (w : World) (g : Nat) (b : Bx) : Prop :=
  w.cell? ⟨g, 0, none⟩ = some (.int .i64 b.d) ∧ w.cell? ⟨g, 1, none⟩ = some (.int .i64 b.k) ∧ w.cell? ⟨g, 2, none⟩ = some (.int .i64 b.s) ∧ w.cell? ⟨g, 3, none⟩ = some (.int .i64 b.c) ∧
  w.cell? ⟨g, 4, none⟩ = some (.int .i64 b.w) ∧ w.cell? ⟨g, 5, none⟩ = some (.int .i64 b.h) ∧
  w.cell? ⟨g, 6, none⟩ = some (.int .i64 b.m0) ∧ w.cell? ⟨g, 7, none⟩ = some (.int .i64 b.m1) ∧ w.cell? ⟨g, 8, none⟩ = some (.int .i64 b.m2) ∧ w.cell? ⟨g, 9, none⟩ = some (.int .i64 b.m3) ∧
  w.cell? ⟨g, 10, none⟩ = some (.int .i64 b.e0) ∧ w.cell? ⟨g, 11, none⟩ = some (.int .i64 b.e1) ∧ w.cell? ⟨g, 12, none⟩ = some (.int .i64 b.e2) ∧ w.cell? ⟨g, 13, none⟩ = some (.int .i64 b.e3)

theorem At.lt {w : World} {g : Nat} {b : Bx} (h : At w g b) : g < w.heap.size := block_lt_of_cell h.1

theorem At.below {w w' : World} {B : Nat} {g : Nat} {b : Bx} (h : At w g b) (hg : g < B) (k : Below B w w') : At w' g b := by
  have e : ∀ o, w'.cell? ⟨g, o, none⟩ = w.cell? ⟨g, o, none⟩ := fun o => k.cell (p := ⟨g, o, none⟩) hg
  unfold At at *
  simp only [e]
  exact h

theorem At.of_block {w : World} {g : Nat} {b : Bx} {T : TypeId} (h : w.heap[g]? = some (.cells #[.int .i64 b.d, .int .i64 b.k, .int .i64 b.s, .int .i64 b.c, .int .i64 b.w, .int .i64 b.h, .int .i64 b.m0, .int .i64 b.m1, .int .i64 b.m2, .int .i64 b.m3, .int .i64 b.e0, .int .i64 b.e1, .int .i64 b.e2, .int .i64 b.e3] T)) : At w g b := by
  unfold At
  simp [World.cell?, h]

theorem At.margins {w : World} {g : Nat} {b : Bx} (h : At w g b) : Nums w w.heap.size (some ⟨g, 6, none⟩) [b.m0, b.m1, b.m2, b.m3] := fun k hk => by
  have hg := h.lt
  obtain ⟨_, _, _, _, _, _, c0, c1, c2, c3, _⟩ := h
  refine ⟨_, rfl, hg, ?_⟩
  simp at hk
  obtain rfl | rfl | rfl | rfl : k = 0 ∨ k = 1 ∨ k = 2 ∨ k = 3 := by omega
  all_goals simpa [Addr.add] using ‹_›

theorem At.edges {w : World} {g : Nat} {b : Bx} (h : At w g b) : Nums w w.heap.size (some ⟨g, 10, none⟩) [b.e0, b.e1, b.e2, b.e3] := fun k hk => by
  have hg := h.lt
  obtain ⟨_, _, _, _, _, _, _, _, _, _, c0, c1, c2, c3⟩ := h
  refine ⟨_, rfl, hg, ?_⟩
  simp at hk
  obtain rfl | rfl | rfl | rfl : k = 0 ∨ k = 1 ∨ k = 2 ∨ k = 3 := by omega
  all_goals simpa [Addr.add] using ‹_›

set_option maxHeartbeats 1000000 in
theorem of_any (b : Bx) (w : World) : Calls Tryz.prog 53 #[b.v] w fun e w' => e = .returned b.v ∧ Below w.heap.size w w' := by
  go_enter Tryz.func53, Tryz.ntmps53
  go_wp2
  all_goals exact bodyPost_ret (v := b.v) (by simp [results, Tryz.results53, go_sem]) rfl ⟨rfl, ba2 _ _ _⟩

theorem box_in (b : Bx) {w W : World} {T : TypeId} (hW : w.alloc (.cells #[.int .i64 b.d, .int .i64 b.k, .int .i64 b.s, .int .i64 b.c, .int .i64 b.w, .int .i64 b.h, .int .i64 b.m0, .int .i64 b.m1, .int .i64 b.m2, .int .i64 b.m3, .int .i64 b.e0, .int .i64 b.e1, .int .i64 b.e2, .int .i64 b.e3] T) = W) : At W w.heap.size b ∧ Below w.heap.size w W := by
  subst hW
  exact ⟨by unfold At; simp [go_sem], ba1 _ _⟩

theorem add_flat (g o k : Nat) : (⟨g, o, none⟩ : Addr).add k = ⟨g, o + k, none⟩ := by
  unfold Addr.add
  split
  · subst_vars; rfl
  · rfl

theorem fresh_in (b : Bx) {w W : World} {T : TypeId} (hW : w.alloc (.cells #[.int .i64 b.d, .int .i64 b.k, .int .i64 b.s, .int .i64 b.c, .int .i64 b.w, .int .i64 b.h, .int .i64 b.m0, .int .i64 b.m1, .int .i64 b.m2, .int .i64 b.m3, .int .i64 b.e0, .int .i64 b.e1, .int .i64 b.e2, .int .i64 b.e3] T) = W) :
    W.heap[w.heap.size]? = some (.cells #[.int .i64 b.d, .int .i64 b.k, .int .i64 b.s, .int .i64 b.c, .int .i64 b.w, .int .i64 b.h, .int .i64 b.m0, .int .i64 b.m1, .int .i64 b.m2, .int .i64 b.m3, .int .i64 b.e0, .int .i64 b.e1, .int .i64 b.e2, .int .i64 b.e3] T) := by
  subst hW
  show (w.heap.push _)[w.heap.size]? = _
  simp

theorem thawed_in {w : World} {g : Nat} {cs : Array Value} {T : TypeId} (h : w.heap[g]? = some (.cells cs T)) (o : Nat) : w.frozen? ⟨g, o, none⟩ = false := by
  simp [World.frozen?, h]

end Go.Proofs.YtfomhdhiibcdfaaGreat.Record

/-! Appending to a list of numbers of one's own, whatever is appended. -/
namespace Go.Proofs.YtfomhdhiibcdfaaGreat
open Go.RowKit

/-- The block in which a slice lies, if it lies somewhere. -/
def blk : Option Addr → Option Nat
  | some a => some a.block
  | none => none

theorem ownBlock_blk (A : Option Addr) (n c : Nat) : (Value.slice A n c).ownBlock = blk A := by cases A <;> rfl

/-- A slice of one's own, of numbers. -/
def Mine (w : World) (B : Nat) (A : Option Addr) (n c : Nat) (xs : List Int) : Prop :=
  w.ownsRow B 3 1 (.slice A n c) n (xs.map (Value.int .i64))

theorem mine_shape {w : World} {B : Nat} {v : Value} {n : Nat} {xs : List Value} (h : w.ownsRow B 3 1 v n xs) : ∃ A c, v = .slice A n c := by
  rcases h.2 with ⟨rfl, rfl⟩ | ⟨g, cap, cur, rfl, _⟩
  · exact ⟨none, 0, rfl⟩
  · exact ⟨_, _, rfl⟩

theorem Mine.len {w : World} {B : Nat} {A : Option Addr} {n c : Nat} {xs : List Int} (h : Mine w B A n c xs) : xs.length = n := by
  have := h.1; simpa using this

theorem Mine.lt {w : World} {B : Nat} {A : Option Addr} {n c : Nat} {xs : List Int} (h : Mine w B A n c xs) : ∀ k, blk A = some k → B ≤ k ∧ k < w.heap.size := by
  intro k hk
  exact World.ownsRow.lt h k (by rw [ownBlock_blk]; exact hk)

theorem Mine.kept {w w' : World} {B : Nat} {A : Option Addr} {n c : Nat} {xs : List Int} {row : Option Nat} (h : Mine w B A n c xs) (hg : w.grownBy w' row) (hne : ∀ k, blk A = some k → row ≠ some k) : Mine w' B A n c xs := by
  refine World.ownsRow.kept h hg ?_
  rw [ownBlock_blk]
  cases hb : blk A with
  | none => exact .inl rfl
  | some k => exact .inr fun e => hne k hb e.symm

theorem grown_of_below {w w' : World} (h : Below w.heap.size w w') : w.grownBy w' none := ⟨h.os, h.tape, h.output, h.size, fun k hk _ => h.block k hk⟩

theorem Mine.below {w w' : World} {B : Nat} {A : Option Addr} {n c : Nat} {xs : List Int} (h : Mine w B A n c xs) (hb : Below w.heap.size w w') : Mine w' B A n c xs :=
  h.kept (grown_of_below hb) (fun k _ e => by cases e)

theorem Mine.cell {w : World} {B : Nat} {A : Option Addr} {n c : Nat} {xs : List Int} (h : Mine w B A n c xs) (k : Nat) (hk : k < xs.length) :
    ∃ g, A = some ⟨g, 0, none⟩ ∧ g < w.heap.size ∧ n ≤ c ∧ w.cell? ((⟨g, 0, none⟩ : Addr).add k) = some (.int .i64 (xs.getD k 0)) := by
  have hl := h.len
  obtain ⟨g, cap, hv, _, hg⟩ := World.ownsRow.form h (by omega)
  have hA : A = some ⟨g, 0, none⟩ := by injection hv
  subst hA
  refine ⟨g, rfl, hg, ?_, World.ownsRow.cells h (g := g) rfl k _ (by simp [List.getD, hk])⟩
  rcases h.2 with ⟨e, _⟩ | ⟨g', cap', cur, e, _, _, hc, _⟩
  · simp at e
  · injection e with e1 e2 e3
    omega

/-- What is appended: m numbers of a slice, nil or not. -/
def Src (w : World) (A : Option Addr) (m c : Nat) (ys : List Int) : Prop :=
  ys.length = m ∧ (A = none → c = 0) ∧ ∀ k, k < ys.length → ∃ ad : Addr, A = some ad ∧ w.cell? (ad.add k) = some (.int .i64 (ys.getD k 0))

theorem Mine.src {w : World} {B : Nat} {A : Option Addr} {n c : Nat} {xs : List Int} (h : Mine w B A n c xs) : Src w A n c xs := by
  refine ⟨h.len, fun e => ?_, fun k hk => ?_⟩
  · subst e
    rcases h.2 with ⟨e, _⟩ | ⟨g', cap', cur, e, _⟩
    · injection e
    · simp at e
  · obtain ⟨g, e, _, _, hc⟩ := h.cell k hk
    exact ⟨_, e, hc⟩

theorem int_info : (Tryz.prog.info? 3).map (fun i => (i.zero, i.size, i.bytes)) = some (some (.int .i64 0), 1, 8) := by kernel_rfl

theorem int_cells (ys : List Int) : ∀ u ∈ ys.map (Value.int .i64), u.oneCell' = true := by
  intro u hu
  rw [List.mem_map] at hu
  obtain ⟨n, _, rfl⟩ := hu
  rfl

/-- What an append leaves. -/
def Appended (w : World) (B : Nat) (A : Option Addr) (n : Nat) (xs ys : List Int) (m : Nat) (A' : Option Addr) (c' : Nat) (w' : World) : Prop :=
  Mine w' B A' (n + m) c' (xs ++ ys) ∧ w.grownBy w' (blk A) ∧ (blk A' = blk A ∨ blk A' = some w.heap.size)

set_option maxRecDepth 100000 in
theorem run_append_mine (ty : TypeId) (w : World) (B : Nat) (A : Option Addr) (n c : Nat) (xs : List Int) (hown : Mine w B A n c xs) (A2 : Option Addr) (m c2 : Nat) (ys : List Int) (hs : Src w A2 m c2 ys)
    (hlen : n + m ≤ 1000000) (hB : B ≤ w.heap.size) :
    ∃ A' c' w', (Builtin.append_ #[24, 24] ty #[.slice A n c, .slice A2 m c2]).run Tryz.prog w = .ok (.slice A' (n + m) c') w' ∧ Appended w B A n xs ys m A' c' w' := by
  obtain ⟨i0, hi0, hz0, hz1, hz2⟩ := info_parts int_info
  obtain ⟨h1, h2, h3⟩ := hs
  cases A2 with
  | none =>
    have hm : m = 0 := by
      rcases Nat.eq_zero_or_pos m with h | h
      · exact h
      · obtain ⟨ad, e, _⟩ := h3 0 (by omega)
        cases e
    subst hm
    have hy : ys = [] := List.eq_nil_of_length_eq_zero h1
    subst hy
    obtain rfl := h2 rfl
    exact ⟨A, c, w, run_append_owned_none (P := Tryz.prog) w B 24 ty 3 i0 1 Tryz.underlying24 hi0 _ n _ hown, by simpa using hown, World.grownBy.refl w _, .inl rfl⟩
  | some ad =>
    have hcells : ∀ j u, (ys.map (Value.int .i64))[j]? = some u → w.cell? (ad.add j) = some u := by
      intro j u hu
      rw [List.getElem?_map] at hu
      rcases Nat.lt_or_ge j ys.length with hj | hj
      · obtain ⟨ad', e, hc⟩ := h3 j hj
        injection e with e
        subst e
        rw [hc]
        simpa [List.getD, hj] using hu
      · rw [List.getElem?_eq_none hj] at hu
        simp at hu
    obtain ⟨v', w', hrun, g2, g3, _, g5⟩ := run_append_own_at (P := Tryz.prog) w B 24 ty 3 i0 (.int .i64 0) 1 8 Tryz.underlying24 hi0 hz0 hz1 hz2 rfl (by omega) _ n _ hown ad m c2 _ (by simpa using h1) hcells
      (int_cells ys) (by simp only [maxLen]; omega) (by omega) hB
    obtain ⟨A', c', rfl⟩ := mine_shape g2
    refine ⟨A', c', w', hrun, ?_, ?_, ?_⟩
    · unfold Mine; rw [List.map_append]; exact g2
    · rw [ownBlock_blk] at g3; exact g3
    · rw [ownBlock_blk, ownBlock_blk] at g5; exact g5

theorem wp_append_mine (w : World) {o : Oper} {a : Act} {K : Act → World → Prop} {Q : Exit → Act → World → Prop} (s x : Operand)
    (ho : o.op = .call { callee := .builtin .append, args := #[s, x], argTypes := #[24, 24] })
    (B : Nat) (A : Option Addr) (n c : Nat) (xs : List Int) (hs : a.eval s = .slice A n c) (hown : Mine w B A n c xs) (A2 : Option Addr) (m c2 : Nat) (ys : List Int) (hx : a.eval x = .slice A2 m c2) (hsrc : Src w A2 m c2 ys)
    (hlen : n + m ≤ 1000000) (hB : B ≤ w.heap.size)
    (h : ∀ A' c' w', Appended w B A n xs ys m A' c' w' → K (a.put o.dst (.slice A' (n + m) c')) w') : o.wp Tryz.prog a w K Q := by
  obtain ⟨A', c', w', hr, h2⟩ := run_append_mine o.type w B A n c xs hown A2 m c2 ys hsrc hlen hB
  unfold Oper.wp execOp
  simp only [ho, resolve, invoke, builtin, Sem.run_bind, Sem.run_pure, Result.andThen_ok, List.map_toArray, List.map_cons, List.map_nil, hs, hx, hr]
  exact h A' c' w' h2

theorem wpList_append_mine (w : World) {ops : Array Oper} {rest : List Oper} {o : Oper} {a : Act} {Q : Exit → Act → World → Prop} (hgd : o.guard = none) (s x : Operand)
    (ho : o.op = .call { callee := .builtin .append, args := #[s, x], argTypes := #[24, 24] })
    (B : Nat) (A : Option Addr) (n c : Nat) (xs : List Int) (hs : a.eval s = .slice A n c) (hown : Mine w B A n c xs) (A2 : Option Addr) (m c2 : Nat) (ys : List Int) (hx : a.eval x = .slice A2 m c2) (hsrc : Src w A2 m c2 ys)
    (hlen : n + m ≤ 1000000) (hB : B ≤ w.heap.size)
    (h : ∀ A' c' w', Appended w B A n xs ys m A' c' w' → wpList Tryz.prog ops Q rest (a.put o.dst (.slice A' (n + m) c')) w') : wpList Tryz.prog ops Q (o :: rest) a w :=
  wpList_plain hgd fun _ hK => wp_append_mine w s x ho B A n c xs hs hown A2 m c2 ys hx hsrc hlen hB fun A' c' w' h2 => hK _ _ (h A' c' w' h2)

theorem step_append_mine (w : World) {ops : Array Oper} {o : Oper} {a : Act} {K : Act → World → Prop} {Q : Exit → Act → World → Prop} {E : Prop} (hgd : o.guard = none) (s x : Operand)
    (ho : o.op = .call { callee := .builtin .append, args := #[s, x], argTypes := #[24, 24] })
    (B : Nat) (A : Option Addr) (n c : Nat) (xs : List Int) (hs : a.eval s = .slice A n c) (hown : Mine w B A n c xs) (A2 : Option Addr) (m c2 : Nat) (ys : List Int) (hx : a.eval x = .slice A2 m c2) (hsrc : Src w A2 m c2 ys)
    (hlen : n + m ≤ 1000000) (hB : B ≤ w.heap.size)
    (h : ∀ A' c' w', Appended w B A n xs ys m A' c' w' → K (a.put o.dst (.slice A' (n + m) c')) w') :
    if Region.wanted o (yielded ops a.tmps) = true then Oper.wp Tryz.prog o a w K Q else E := by
  have hw : Region.wanted o (yielded ops a.tmps) = true := by simp [Region.wanted, hgd]
  rw [if_pos hw]
  exact wp_append_mine w s x ho B A n c xs hs hown A2 m c2 ys hx hsrc hlen hB h

theorem one_src (w : World) (n : Int) : Src (w.alloc (.cells #[.int .i64 n] 3)) (some ⟨w.heap.size, 0, none⟩) 1 1 [n] := by
  refine ⟨rfl, fun e => (by cases e), fun k hk => ?_⟩
  simp only [List.length_cons, List.length_nil] at hk
  obtain rfl : k = 0 := by omega
  exact ⟨_, rfl, cell_one_new w (.int .i64 n) 3 0 _ rfl⟩

theorem one_mine (w : World) (B : Nat) (hB : B ≤ w.heap.size) (n : Int) : Mine (w.alloc (.cells #[.int .i64 n] 3)) B (some ⟨w.heap.size, 0, none⟩) 1 1 [n] :=
  World.ownsRow_lit w #[.int .i64 n] 1 hB (by unfold maxLen; omega) rfl

theorem Mine.alloc {w : World} {B : Nat} {A : Option Addr} {n c : Nat} {xs : List Int} (h : Mine w B A n c xs) (o : Obj) : Mine (w.alloc o) B A n c xs :=
  World.ownsRow.alloc h o

theorem Appended.below {w W : World} {B C : Nat} {A : Option Addr} {n c : Nat} {xs ys : List Int} {m : Nat} {A' : Option Addr} {c' : Nat} {w' : World}
    (h : Appended w B A n xs ys m A' c' w') (hown : Mine w B A n c xs) (hw : Below C W w) (hC : C ≤ B) (hB : C ≤ w.heap.size) : Below C W w' :=
  hw.grown h.2.1 hB (fun k hk => by have := (hown.lt k hk).1; omega)

theorem none_mine (w : World) (B : Nat) (hB : B ≤ w.heap.size) : Mine (w.alloc (.cells #[] 3)) B (some ⟨w.heap.size, 0, none⟩) 0 0 [] :=
  World.ownsRow_lit w #[] 0 hB (by unfold maxLen; omega) rfl

theorem Src.grown {w w' : World} {b m c : Nat} {ys : List Int} {row : Option Nat} (h : Src w (some ⟨b, 0, none⟩) m c ys) (hg : w.grownBy w' row) (hne : row ≠ some b) : Src w' (some ⟨b, 0, none⟩) m c ys := by
  obtain ⟨h1, h2, h3⟩ := h
  refine ⟨h1, h2, fun k hk => ?_⟩
  obtain ⟨ad, e, hc⟩ := h3 k hk
  injection e with e
  subst e
  exact ⟨_, rfl, hg.cell hc (by rw [block_of_add]; exact fun e => hne e.symm)⟩

theorem Src.alloc {w : World} {b m c : Nat} {ys : List Int} (h : Src w (some ⟨b, 0, none⟩) m c ys) (o : Obj) : Src (w.alloc o) (some ⟨b, 0, none⟩) m c ys :=
  h.grown (World.grownBy_alloc w o none) (fun e => by cases e)

theorem Src.drew {w : World} {A : Option Addr} {m c : Nat} {ys : List Int} (h : Src w A m c ys) : Src w.drew A m c ys := h
theorem Mine.drew {w : World} {B : Nat} {A : Option Addr} {n c : Nat} {xs : List Int} (h : Mine w B A n c xs) : Mine w.drew B A n c xs := h

theorem Mine.nums {w : World} {B : Nat} {A : Option Addr} {n c : Nat} {xs : List Int} (h : Mine w B A n c xs) : Nums w w.heap.size A xs := fun k hk => by
  obtain ⟨g, e, hg, _, hc⟩ := h.cell k hk
  exact ⟨_, e, hg, hc⟩

end Go.Proofs.YtfomhdhiibcdfaaGreat
