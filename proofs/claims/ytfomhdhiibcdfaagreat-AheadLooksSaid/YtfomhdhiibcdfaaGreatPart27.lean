/- Texts of this proof that follow each other, in one file. -/
import Derived.Test.YtfomhdhiibcdfaaGreatPart1
import Derived.Test.YtfomhdhiibcdfaaGreatPart26
import Derived.Test.YtfomhdhiibcdfaaGreatPart23
import Derived.Laws.StructEq
/-! A law on regions that draw their order, over any program: operations that only read, callees that only make memory, new blocks and rows, guarded or not, in whichever order, ahead of a forced tail: what each leaves is listed once. -/
namespace Go.Proofs.YtfomhdhiibcdfaaGreat
open Go.RowKit Go.Sort

namespace Told

/-- What an operation leaves: a value, a new block, a slice of a new block, or nothing, as its guard says no. -/
inductive Leave where
  | val (v : Value)
  | box (o : Obj)
  | row (o : Obj) (n c : Nat)
  | skip

def Leave.value (y : Leave) (g : Nat) : Value := match y with
  | .val v => v
  | .box _ => .pointer (some ⟨g, 0, none⟩)
  | .row _ n c => .slice (some ⟨g, 0, none⟩) n c
  | .skip => undef
def Leave.obj : Leave → Option Obj
  | .val _ => none
  | .box o => some o
  | .row o _ _ => some o
  | .skip => none
def Leave.isSkip : Leave → Bool
  | .skip => true
  | _ => false

section
variable {P : Program}

/-- What is asked of an operation that leaves the value v: that it only reads, or that its callee only makes memory. -/
def stays (P : Program) (w : World) (v : Value) : Result Next → Prop
  | .ok (.value u) w' => w' = w ∧ u = v
  | .ok (.enter f args) w' => w' = w ∧ Calls P f args w (fun e w'' => e = .returned v ∧ Below w.heap.size w w'')
  | _ => False

theorem stays_call {w : World} {v : Value} {f : FuncId} {args : Array Value} (h : Calls P f args w (fun e w'' => e = .returned v ∧ Below w.heap.size w w'')) : stays P w v (.ok (.enter f args) w) := ⟨rfl, h⟩
theorem stays_val {w : World} {v : Value} : stays P w v (.ok (.value v) w) := ⟨rfl, rfl⟩

/-- The frame with all that was left. -/
def fill (g : Nat → Nat) : Nat → List Oper → List Leave → Act → Act
  | k, o :: os, y :: ys, a => fill g (k + 1) os ys (a.put o.dst (y.value (g k)))
  | _, _, _, a => a

/-- What is known of the blocks that an operation waits for. -/
def known (ys : List Leave) (o : Oper) (W : World) (g : Nat → Nat) (w : World) : Prop :=
  ∀ e ∈ o.after, Region.binds .any e = true → ∀ y b, ys[e.on]? = some y → y.obj = some b → W.heap.size ≤ g e.on ∧ w.heap[g e.on]? = some b

def leaves (P : Program) (o : Oper) (F : (Nat → Nat) → Act) (ys : List Leave) (W : World) : Leave → Prop
  | .val v => ∀ g w, Below W.heap.size W w → known ys o W g w → stays P w v ((execOp (F g).eval o).run P w)
  | .box b => ∀ g w, Below W.heap.size W w → known ys o W g w → (execOp (F g).eval o).run P w = .ok (.value (.pointer (some ⟨w.heap.size, 0, none⟩))) (w.alloc b)
  | .row b n c => ∀ g w, Below W.heap.size W w → known ys o W g w → (execOp (F g).eval o).run P w = .ok (.value (.slice (some ⟨w.heap.size, 0, none⟩) n c)) (w.alloc b)
  | .skip => True

def allLeave (P : Program) (F : (Nat → Nat) → Act) (all : List Leave) (W : World) : List Oper → List Leave → Prop
  | o :: os, y :: ys => leaves P o F all W y ∧ allLeave P F all W os ys
  | _, _ => True

theorem allLeave_at {F : (Nat → Nat) → Act} {all : List Leave} {W : World} : ∀ {os : List Oper} {ys : List Leave} {i : Nat} {o : Oper} {y : Leave}, allLeave P F all W os ys → os[i]? = some o → ys[i]? = some y → leaves P o F all W y
  | o :: os, y :: ys, 0, _, _, h, h1, h2 => by
    simp only [List.getElem?_cons_zero, Option.some.injEq] at h1 h2; subst h1 h2; exact h.1
  | o :: os, y :: ys, i + 1, _, _, h, h1, h2 => by
    simp only [List.getElem?_cons_succ] at h1 h2; exact allLeave_at h.2 h1 h2
  | [], _, _, _, _, _, h1, _ => by simp at h1
  | _ :: _, [], _, _, _, _, _, h2 => by simp at h2

theorem put_size (a : Act) (d : Option Tmp) (v : Value) : (a.put d v).tmps.size = a.tmps.size := by cases d <;> simp [Act.put]
theorem put_defers (a : Act) (d : Option Tmp) (v : Value) : (a.put d v).defers = a.defers := by cases d <;> rfl
theorem put_slot (a : Act) (d : Tmp) (v : Value) (h : d < a.tmps.size) : (a.put (some d) v).tmps.getD d undef = v := by simp [Act.put, h]
theorem put_other (a : Act) (d : Option Tmp) (v : Value) (t : Tmp) (h : d ≠ some t) : (a.put d v).tmps.getD t undef = a.tmps.getD t undef := by
  cases d with
  | none => rfl
  | some d =>
    have hne : d ≠ t := fun e => h (by rw [e])
    simp [Act.put, Array.getElem?_setIfInBounds_ne hne]

theorem fill_size (g : Nat → Nat) : ∀ (k : Nat) (os : List Oper) (ys : List Leave) (a : Act), (fill g k os ys a).tmps.size = a.tmps.size
  | k, o :: os, y :: ys, a => by rw [fill, fill_size g (k + 1) os ys, put_size]
  | _, [], _, _ => rfl
  | _, _ :: _, [], _ => rfl
theorem fill_defers (g : Nat → Nat) : ∀ (k : Nat) (os : List Oper) (ys : List Leave) (a : Act), (fill g k os ys a).defers = a.defers
  | k, o :: os, y :: ys, a => by rw [fill, fill_defers g (k + 1) os ys, put_defers]
  | _, [], _, _ => rfl
  | _, _ :: _, [], _ => rfl
theorem fill_other (g : Nat → Nat) (t : Tmp) : ∀ (k : Nat) (os : List Oper) (ys : List Leave) (a : Act), (∀ i o, i < ys.length → os[i]? = some o → o.dst ≠ some t) → (fill g k os ys a).tmps.getD t undef = a.tmps.getD t undef
  | k, o :: os, y :: ys, a, h => by
    rw [fill, fill_other g t (k + 1) os ys _ (fun i o hi ho => h (i + 1) o (by simp; omega) (by simpa using ho)), put_other _ _ _ _ (h 0 o (by simp) rfl)]
  | _, [], _, _, _ => rfl
  | _, _ :: _, [], _, _ => rfl
theorem fill_slot (g : Nat → Nat) (d : Tmp) : ∀ (k : Nat) (os : List Oper) (ys : List Leave) (a : Act) (i : Nat) (o : Oper) (y : Leave), d < a.tmps.size → os[i]? = some o → ys[i]? = some y → o.dst = some d →
    (∀ j p, j < ys.length → j ≠ i → os[j]? = some p → p.dst ≠ some d) → (fill g k os ys a).tmps.getD d undef = y.value (g (k + i))
  | k, o :: os, y :: ys, a, 0, _, _, hd, ho, hy, hdst, hne => by
    simp only [List.getElem?_cons_zero, Option.some.injEq] at ho hy
    subst ho hy
    rw [fill, fill_other g d (k + 1) os ys _ (fun i p hi hp => hne (i + 1) p (by simp; omega) (by omega) (by simpa using hp)), hdst, put_slot _ _ _ hd]
    rfl
  | k, o :: os, y :: ys, a, i + 1, o', y', hd, ho, hy, hdst, hne => by
    simp only [List.getElem?_cons_succ] at ho hy
    rw [fill, fill_slot g d (k + 1) os ys _ i o' y' (by rw [put_size]; exact hd) ho hy hdst (fun j p hj hji hp => hne (j + 1) p (by simp; omega) (by omega) (by simpa using hp))]
    congr 2
    omega
  | _, [], _, _, _, _, _, _, ho, _, _, _ => by simp at ho
  | _, _ :: _, [], _, _, _, _, _, _, hy, _, _ => by simp at hy

/-- What is asked of a region's text: of its first operations, that each writes a slot of its own and looks only at what it waits for. -/
def headB (l : List Oper) (n size : Nat) : Bool :=
  (List.range n).all fun i => match l[i]? with
    | none => false
    | some o => (match o.dst with | none => false | some d => decide (d < size)) && (o.after.all fun e => !Region.binds .any e || decide (e.on < i)) &&
      (List.range n).all fun j => match l[j]? with
        | none => false
        | some p => (decide (i = j) || p.dst != o.dst) &&
          (match p.dst with | none => false | some d => !(o.looksAt l.toArray).contains d || o.after.any (fun e => Region.binds .any e && e.on == j))

/-- .. that each guard is decided by what is listed. -/
def guardsB : List Oper → List Leave → List Leave → Bool
  | o :: os, y :: ys, all => (match o.guard with
    | none => !y.isSkip
    | some (k, b) => o.after.any (fun e => Region.binds .any e && e.on == k) && (match all[k]? with
      | some (.val (.bool c)) => (c == b) == !y.isSkip
      | _ => false)) && guardsB os ys all
  | _, _, _ => true

structure HeadOk (l : List Oper) (n size : Nat) : Prop where
  dst : ∀ i o, i < n → l[i]? = some o → ∃ d, o.dst = some d ∧ d < size
  back : ∀ i o, i < n → l[i]? = some o → ∀ e ∈ o.after, Region.binds .any e = true → e.on < i
  apart : ∀ i j o p, i < n → j < n → l[i]? = some o → l[j]? = some p → i ≠ j → p.dst ≠ o.dst
  looks : ∀ i j o p d, i < n → j < n → l[i]? = some o → l[j]? = some p → p.dst = some d → d ∈ o.looksAt l.toArray → ∃ e ∈ o.after, Region.binds .any e = true ∧ e.on = j
  there : ∀ i, i < n → ∃ o, l[i]? = some o

theorem headOk {l : List Oper} {n size : Nat} (h : headB l n size = true) : HeadOk l n size := by
  have key : ∀ i, i < n → ∃ o, l[i]? = some o ∧ (∃ d, o.dst = some d ∧ d < size) ∧ (∀ e ∈ o.after, Region.binds .any e = true → e.on < i) ∧
      ∀ j, j < n → ∃ p, l[j]? = some p ∧ (i ≠ j → p.dst ≠ o.dst) ∧ ∀ d, p.dst = some d → d ∈ o.looksAt l.toArray → ∃ e ∈ o.after, Region.binds .any e = true ∧ e.on = j := by
    intro i hi
    have h1 := List.all_eq_true.1 h i (List.mem_range.2 hi)
    cases ho : l[i]? with
    | none => rw [ho] at h1; cases h1
    | some o =>
      simp only [ho, Bool.and_eq_true] at h1
      obtain ⟨⟨h3, h4⟩, h5⟩ := h1
      refine ⟨o, rfl, ?_, ?_, ?_⟩
      · cases hd : o.dst with
        | none => rw [hd] at h3; cases h3
        | some d => rw [hd] at h3; exact ⟨d, rfl, by simpa using h3⟩
      · intro e he hb
        have := Array.all_eq_true'.1 h4 e he
        simpa [hb] using this
      · intro j hj
        have h6 := List.all_eq_true.1 h5 j (List.mem_range.2 hj)
        cases hp : l[j]? with
        | none => rw [hp] at h6; cases h6
        | some p =>
          simp only [hp, Bool.and_eq_true] at h6
          obtain ⟨h7, h8⟩ := h6
          refine ⟨p, rfl, fun hij => ?_, fun d hd hm => ?_⟩
          · have : (p.dst != o.dst) = true := by simpa [hij] using h7
            simpa using this
          · rw [hd] at h8
            have hc : (o.looksAt l.toArray).contains d = true := by simpa using hm
            simp only [hc, Bool.not_true, Bool.false_or] at h8
            obtain ⟨e, he, he2⟩ := Array.any_eq_true'.1 h8
            simp only [Bool.and_eq_true, beq_iff_eq] at he2
            exact ⟨e, he, he2⟩
  refine ⟨?_, ?_, ?_, ?_, ?_⟩
  · intro i o hi ho; obtain ⟨o', ho', h1, _⟩ := key i hi; rw [ho] at ho'; cases ho'; exact h1
  · intro i o hi ho; obtain ⟨o', ho', _, h1, _⟩ := key i hi; rw [ho] at ho'; cases ho'; exact h1
  · intro i j o p hi hj ho hp hij; obtain ⟨o', ho', _, _, h1⟩ := key i hi; rw [ho] at ho'; cases ho'
    obtain ⟨p', hp', h2, _⟩ := h1 j hj; rw [hp] at hp'; cases hp'; exact h2 hij
  · intro i j o p d hi hj ho hp hd hm; obtain ⟨o', ho', _, _, h1⟩ := key i hi; rw [ho] at ho'; cases ho'
    obtain ⟨p', hp', _, h2⟩ := h1 j hj; rw [hp] at hp'; cases hp'; exact h2 d hd hm
  · intro i hi; obtain ⟨o', ho', _⟩ := key i hi; exact ⟨o', ho'⟩

theorem guards_at : ∀ {os : List Oper} {ys all : List Leave} {i : Nat} {o : Oper} {y : Leave}, guardsB os ys all = true → os[i]? = some o → ys[i]? = some y →
    (o.guard = none ∧ y.isSkip = false) ∨ ∃ k b c, o.guard = some (k, b) ∧ (∃ e ∈ o.after, Region.binds .any e = true ∧ e.on = k) ∧ all[k]? = some (.val (.bool c)) ∧ ((c == b) = !y.isSkip)
  | o :: os, y :: ys, all, 0, _, _, h, h1, h2 => by
    simp only [List.getElem?_cons_zero, Option.some.injEq] at h1 h2
    subst h1 h2
    simp only [guardsB, Bool.and_eq_true] at h
    obtain ⟨h, _⟩ := h
    cases hg : o.guard with
    | none => rw [hg] at h; left; exact ⟨rfl, by simpa using h⟩
    | some kb =>
      obtain ⟨k, b⟩ := kb
      rw [hg] at h
      simp only [Bool.and_eq_true] at h
      obtain ⟨h3, h4⟩ := h
      obtain ⟨e, he, he2⟩ := Array.any_eq_true'.1 h3
      simp only [Bool.and_eq_true, beq_iff_eq] at he2
      right
      split at h4
      · rename_i c hc
        exact ⟨k, b, c, rfl, ⟨e, he, he2⟩, hc, by simpa using h4⟩
      · cases h4
  | o :: os, y :: ys, all, i + 1, _, _, h, h1, h2 => by
    simp only [List.getElem?_cons_succ] at h1 h2
    simp only [guardsB, Bool.and_eq_true] at h
    exact guards_at h.2 h1 h2
  | [], _, _, _, _, _, _, h1, _ => by simp at h1
  | _ :: _, [], _, _, _, _, _, _, h2 => by simp at h2

/-- The state of the region's head. -/
structure Telling (l : List Oper) (ys : List Leave) (a0 : Act) (W : World) (g : Nat → Nat) (listed : Array Bool) (a : Act) (w : World) : Prop where
  size : a.tmps.size = a0.tmps.size
  defers : a.defers = a0.defers
  below : Below W.heap.size W w
  other : ∀ t, (∀ i o, i < ys.length → l[i]? = some o → listed.getD i false = true → o.dst ≠ some t) → a.tmps.getD t undef = a0.tmps.getD t undef
  slot : ∀ i o y d, l[i]? = some o → ys[i]? = some y → listed.getD i false = true → o.dst = some d → a.tmps.getD d undef = y.value (g i)
  boxes : ∀ i y b, ys[i]? = some y → y.obj = some b → listed.getD i false = true → W.heap.size ≤ g i ∧ w.heap[g i]? = some b
  apart : ∀ i j y z b c, i ≠ j → ys[i]? = some y → ys[j]? = some z → y.obj = some b → z.obj = some c → listed.getD i false = true → listed.getD j false = true → g i ≠ g j

theorem getD_set_cases {listed : Array Bool} {i j : Nat} (h : (listed.setIfInBounds i true).getD j false = true) : j = i ∨ listed.getD j false = true := by
  by_cases hji : i = j
  · exact .inl hji.symm
  · rw [getD_set_ne false hji] at h; exact .inr h

theorem Leave.value_plain {y : Leave} (h : y.obj = none) (g g' : Nat) : y.value g = y.value g' := by cases y <;> first | rfl | cases h

variable {l : List Oper} {ys : List Leave} {a0 : Act} {W : World}

theorem eval_tmp (a : Act) (t : Tmp) : a.eval (.tmp t) = a.tmps.getD t undef := rfl

/-- An operation whose turn it is does in the frame at hand what it does in the full one. -/
theorem Telling.same {g : Nat → Nat} {listed : Array Bool} {a : Act} {w : World} (ok : HeadOk l ys.length a0.tmps.size) (h : Telling l ys a0 W g listed a w) (hs : Region.noSelect l.toArray = true) {i : Nat} {o : Oper} (hi : i < ys.length) (ho : l[i]? = some o)
    (hd : ∀ e ∈ o.after, Region.binds .any e = true → listed.getD e.on false = true) : execOp a.eval o = execOp (fill g 0 l ys a0).eval o := by
  have hsel : ∀ cs b, o.op ≠ .select cs b := fun cs b => Region.noSelect_spec hs i o cs b (by simpa using ho)
  refine execOp_congr o hsel fun x hx => ?_
  cases x with
  | tmp t =>
    have hm : t ∈ o.looksAt l.toArray := List.mem_append_left _ (List.mem_filterMap.2 ⟨.tmp t, by simpa using hx, rfl⟩)
    rw [eval_tmp, eval_tmp]
    by_cases hex : ∃ j p, j < ys.length ∧ l[j]? = some p ∧ p.dst = some t
    · obtain ⟨j, p, hj, hp, hpt⟩ := hex
      obtain ⟨e, he, hb, hon⟩ := ok.looks i j o p t hi hj ho hp hpt hm
      have hlj : listed.getD j false = true := by rw [← hon]; exact hd e he hb
      have hy : ys[j]? = some ys[j] := by simp [hj]
      obtain ⟨d, hd1, hd2⟩ := ok.dst j p hj hp
      have htd : t = d := by rw [hd1] at hpt; exact (Option.some.inj hpt).symm
      rw [h.slot j p _ t hp hy hlj hpt, fill_slot g t 0 l ys a0 j p _ (by rw [htd]; exact hd2) hp hy hpt (fun k q hk hkj hq e => ok.apart j k p q hj hk hp hq (Ne.symm hkj) (by rw [e, hpt])), Nat.zero_add]
    · rw [h.other t (fun j p hj hp _ e => hex ⟨j, p, hj, hp, e⟩), fill_other g t 0 l ys a0 (fun j p hj hp e => hex ⟨j, p, hj, hp, e⟩)]
  | _ => rfl

/-- The world behind an operation that leaves no block. -/
theorem Telling.plain {g : Nat → Nat} {listed : Array Bool} {a : Act} {w w' : World} {i : Nat} {o : Oper} {y : Leave} {v : Value} (ok : HeadOk l ys.length a0.tmps.size) (h : Telling l ys a0 W g listed a w) (hi : i < ys.length) (ho : l[i]? = some o) (hy : ys[i]? = some y)
    (hin : i < listed.size) (hun : listed.getD i false = false) (hv : v = y.value (g i)) (hno : y.obj = none) (hb : Below w.heap.size w w') : Telling l ys a0 W g (listed.setIfInBounds i true) (a.put o.dst v) w' := by
  obtain ⟨d, hd1, hd2⟩ := ok.dst i o hi ho
  have hset : (listed.setIfInBounds i true).getD i false = true := by simp [hin]
  refine ⟨by rw [put_size, h.size], by rw [put_defers, h.defers], h.below.trans (hb.mono h.below.size), ?_, ?_, ?_, ?_⟩
  · intro t ht
    rw [put_other _ _ _ _ (ht i o hi ho hset)]
    refine h.other t fun j p hj hp hl => ht j p hj hp ?_
    by_cases hij : i = j
    · subst hij; rw [hun] at hl; cases hl
    · rw [getD_set_ne false hij]; exact hl
  · intro j p z t hp hyj hl ht
    by_cases hij : j = i
    · subst hij
      rw [ho] at hp; cases hp
      rw [hy] at hyj; cases hyj
      rw [hd1] at ht; cases ht
      rw [hd1, put_slot _ _ _ (by rw [h.size]; exact hd2), hv]
    · rcases getD_set_cases hl with e | hl'
      · exact absurd e hij
      · have hj : j < ys.length := (List.getElem?_eq_some_iff.1 hyj).1
        rw [put_other _ _ _ _ (fun e => ok.apart j i p o hj hi hp ho hij (by rw [e, ht])), h.slot j p z t hp hyj hl' ht]
  · intro j z b hyj hz hl
    rcases getD_set_cases hl with e | hl'
    · subst e; rw [hy] at hyj; cases hyj; rw [hno] at hz; cases hz
    · obtain ⟨h1, h2⟩ := h.boxes j z b hyj hz hl'
      exact ⟨h1, by rw [hb.block _ (lt_of_block h2)]; exact h2⟩
  · intro j k z u b c hjk hj hk hz hu hlj hlk
    rcases getD_set_cases hlj with e | hlj'
    · subst e; rw [hy] at hj; cases hj; rw [hno] at hz; cases hz
    · rcases getD_set_cases hlk with e | hlk'
      · subst e; rw [hy] at hk; cases hk; rw [hno] at hu; cases hu
      · exact h.apart j k z u b c hjk hj hk hz hu hlj' hlk'

/-- .. behind one that leaves a block. -/
theorem Telling.block {g : Nat → Nat} {listed : Array Bool} {a : Act} {w : World} {i : Nat} {o : Oper} {y : Leave} {b : Obj} (ok : HeadOk l ys.length a0.tmps.size) (h : Telling l ys a0 W g listed a w) (hi : i < ys.length) (ho : l[i]? = some o) (hy : ys[i]? = some y)
    (hin : i < listed.size) (hun : listed.getD i false = false) (hob : y.obj = some b) : ∃ g', Telling l ys a0 W g' (listed.setIfInBounds i true) (a.put o.dst (y.value w.heap.size)) (w.alloc b) := by
  obtain ⟨d, hd1, hd2⟩ := ok.dst i o hi ho
  have hset : (listed.setIfInBounds i true).getD i false = true := by simp [hin]
  obtain ⟨gg, hgi, hgj⟩ : ∃ gg : Nat → Nat, gg i = w.heap.size ∧ ∀ j, j ≠ i → gg j = g j := ⟨fun j => if j = i then w.heap.size else g j, by simp, fun j hj => by simp [hj]⟩
  refine ⟨gg, by rw [put_size, h.size], by rw [put_defers, h.defers], h.below.alloc h.below.size b, ?_, ?_, ?_, ?_⟩
  · intro t ht
    rw [put_other _ _ _ _ (ht i o hi ho hset)]
    refine h.other t fun j p hj hp hl => ht j p hj hp ?_
    by_cases hij : i = j
    · subst hij; rw [hun] at hl; cases hl
    · rw [getD_set_ne false hij]; exact hl
  · intro j p z t hp hyj hl ht
    by_cases hij : j = i
    · subst hij
      rw [ho] at hp; cases hp
      rw [hy] at hyj; cases hyj
      rw [hd1] at ht; cases ht
      rw [hd1, put_slot _ _ _ (by rw [h.size]; exact hd2), hgi]
    · rcases getD_set_cases hl with e | hl'
      · exact absurd e hij
      · have hj : j < ys.length := (List.getElem?_eq_some_iff.1 hyj).1
        rw [put_other _ _ _ _ (fun e => ok.apart j i p o hj hi hp ho hij (by rw [e, ht])), h.slot j p z t hp hyj hl' ht, hgj j hij]
  · intro j z c hj hz hl
    by_cases hji : j = i
    · subst hji
      rw [hy] at hj; cases hj
      rw [hob] at hz; cases hz
      rw [hgi]
      exact ⟨h.below.size, by show (w.heap.push b)[w.heap.size]? = some b; simp⟩
    · rcases getD_set_cases hl with e | hl'
      · exact absurd e hji
      · obtain ⟨h1, h2⟩ := h.boxes j z c hj hz hl'
        rw [hgj j hji]
        exact ⟨h1, by rw [Below.heap_alloc _ _ _ (lt_of_block h2)]; exact h2⟩
  · intro j k z u c1 c2 hjk hj hk hz hu hlj hlk
    by_cases hji : j = i
    · have hki : k ≠ i := fun e => hjk (hji.trans e.symm)
      rcases getD_set_cases hlk with e | hlk'
      · exact absurd e hki
      · have := lt_of_block (h.boxes k u c2 hk hu hlk').2
        rw [hgj k hki, hji, hgi]; omega
    · rcases getD_set_cases hlj with e | hlj'
      · exact absurd e hji
      · by_cases hki : k = i
        · have := lt_of_block (h.boxes j z c1 hj hz hlj').2
          rw [hgj j hji, hki, hgi]; omega
        · rcases getD_set_cases hlk with e | hlk'
          · exact absurd e hki
          · rw [hgj j hji, hgj k hki]; exact h.apart j k z u c1 c2 hjk hj hk hz hu hlj' hlk'

theorem Telling.step {g : Nat → Nat} {listed : Array Bool} {a : Act} {w : World} {Q : Exit → Act → World → Prop} (ok : HeadOk l ys.length a0.tmps.size) (h : Telling l ys a0 W g listed a w) (hs : Region.noSelect l.toArray = true)
    (hgd : guardsB l ys ys = true) (hall : allLeave P (fun g => fill g 0 l ys a0) ys W l ys) (hsz : listed.size = l.toArray.size) {i : Nat} (hi : i < ys.length) (hr : i ∈ Region.ready .any l.toArray listed) :
    wpOp P l.toArray Q i (fun a' w' => ∃ g, Telling l ys a0 W g (listed.setIfInBounds i true) a' w') a w := by
  obtain ⟨hun, o, ho, hdep⟩ := mem_ready.1 hr
  have ho' : l[i]? = some o := by simpa using ho
  have hy : ys[i]? = some ys[i] := by simp [hi]
  have hsame := h.same ok hs hi ho' hdep
  have hY := allLeave_at hall ho' hy
  have hun' : listed.getD i false = false := getD_both hun
  have hin : i < listed.size := by
    rw [hsz]; simpa using (List.getElem?_eq_some_iff.1 ho').1
  have hkn : known ys o W g w := fun e he hb y b hye hyb => h.boxes e.on y b hye hyb (hdep e he hb)
  have hw : Region.wanted o (yielded l.toArray a.tmps) = !(ys[i]).isSkip := by
    rcases guards_at hgd ho' hy with ⟨hg, hsk⟩ | ⟨k, b, c, hg, ⟨e, he, hb, hon⟩, hk, hcb⟩
    · simp [Region.wanted, hg, hsk]
    · have hlk : listed.getD k false = true := by rw [← hon]; exact hdep e he hb
      have hkl : k < ys.length := (List.getElem?_eq_some_iff.1 hk).1
      obtain ⟨p, hp⟩ := ok.there k hkl
      obtain ⟨d, hd1, hd2⟩ := ok.dst k p hkl hp
      have hsl := h.slot k p _ d hp hk hlk hd1
      have hda : d < a.tmps.size := by rw [h.size]; exact hd2
      have hyl : yielded l.toArray a.tmps k = some c := by
        unfold yielded
        simp only [List.getElem?_toArray, hp, Option.bind_some, hd1]
        have : a.tmps[d]? = some (.bool c) := by
          rw [Array.getElem?_eq_getElem hda]
          simpa [Leave.value, hda] using hsl
        rw [this]
      simp only [Region.wanted, hg, hyl]
      rw [← hcb]
      cases c <;> cases b <;> rfl
  unfold wpOp
  simp only [ho, hw]
  revert hY
  generalize hyi : ys[i] = y at *
  cases y with
  | skip =>
    intro _
    simp only [Leave.isSkip, Bool.not_true, Bool.false_eq_true, if_false]
    exact ⟨g, h.plain ok hi ho' hy hin hun' rfl rfl (Below.refl _ _)⟩
  | val v =>
    intro hY
    simp only [Leave.isSkip, Bool.not_false, if_true]
    left
    unfold Oper.wp
    rw [hsame]
    have h3 := hY g w h.below hkn
    generalize (execOp (fill g 0 l ys a0).eval o).run P w = r at *
    cases r with
    | ok nx w' =>
      cases nx <;> simp only [stays] at h3 <;> simp only [Oper.upon]
      case value u =>
        obtain ⟨rfl, rfl⟩ := h3
        exact ⟨g, h.plain ok hi ho' hy hin hun' rfl rfl (Below.refl _ _)⟩
      case enter f args =>
        obtain ⟨rfl, hc⟩ := h3
        refine hc.mono fun e w'' ⟨he, hb⟩ => ?_
        subst he
        exact ⟨g, h.plain ok hi ho' hy hin hun' rfl rfl hb⟩
    | halt x w' => simp only [stays] at h3
  | box b =>
    intro hY
    simp only [Leave.isSkip, Bool.not_false, if_true]
    left
    unfold Oper.wp
    rw [hsame, hY g w h.below hkn]
    simp only [Oper.upon]
    exact h.block ok hi ho' hy hin hun' rfl
  | row b n c =>
    intro hY
    simp only [Leave.isSkip, Bool.not_false, if_true]
    left
    unfold Oper.wp
    rw [hsame, hY g w h.below hkn]
    simp only [Oper.upon]
    exact h.block ok hi ho' hy hin hun' rfl

/-- Behind the whole head the frame is the full one. -/
theorem Telling.full {g : Nat → Nat} {listed : Array Bool} {a : Act} {w : World} (ok : HeadOk l ys.length a0.tmps.size) (h : Telling l ys a0 W g listed a w) (hl : ∀ i, i < ys.length → listed.getD i false = true) : a = fill g 0 l ys a0 := by
  have hsz : a.tmps.size = (fill g 0 l ys a0).tmps.size := by rw [fill_size, h.size]
  have hslot : ∀ t, a.tmps.getD t undef = (fill g 0 l ys a0).tmps.getD t undef := by
    intro t
    by_cases hex : ∃ j p, j < ys.length ∧ l[j]? = some p ∧ p.dst = some t
    · obtain ⟨j, p, hj, hp, hpt⟩ := hex
      have hy : ys[j]? = some ys[j] := by simp [hj]
      obtain ⟨d, hd1, hd2⟩ := ok.dst j p hj hp
      have htd : t = d := by rw [hd1] at hpt; exact (Option.some.inj hpt).symm
      rw [h.slot j p _ t hp hy (hl j hj) hpt, fill_slot g t 0 l ys a0 j p _ (by rw [htd]; exact hd2) hp hy hpt (fun k q hk hkj hq e => ok.apart j k p q hj hk hp hq (Ne.symm hkj) (by rw [e, hpt])), Nat.zero_add]
    · rw [h.other t (fun j p hj hp _ e => hex ⟨j, p, hj, hp, e⟩), fill_other g t 0 l ys a0 (fun j p hj hp e => hex ⟨j, p, hj, hp, e⟩)]
  have ht : a.tmps = (fill g 0 l ys a0).tmps := by
    refine Array.ext hsz fun t h1 h2 => ?_
    have := hslot t
    simpa [h1, h2] using this
  have hdf : a.defers = (fill g 0 l ys a0).defers := by rw [fill_defers, h.defers]
  generalize fill g 0 l ys a0 = F at *
  cases a; cases F
  simp only at ht hdf
  subst ht hdf
  rfl

/-- A region that draws its order: the operations of its head leave what is listed; new blocks are apart; then its tail, one by one. -/
theorem wp_region_told {id : Nat} {Q : Exit → Act → World → Prop} (ys : List Leave) (hm : P.follows .mixedOrders = true)
    (hB : (Region.noSelect l.toArray && decide (ys.length < l.toArray.size) && Region.sinkB .any l.toArray ys.length && Region.chainB .any l.toArray ys.length &&
      Region.seqB .any l.toArray (l.toArray.size - ys.length) ys.length ((List.replicate ys.length true ++ List.replicate (l.toArray.size - ys.length) false).toArray) && headB l ys.length a0.tmps.size) = true)
    (hgd : guardsB l ys ys = true)
    (hall : allLeave P (fun g => fill g 0 l ys a0) ys W l ys)
    (hend : ∀ (g : Nat → Nat) (w' : World), Below W.heap.size W w' → (∀ i y b, ys[i]? = some y → y.obj = some b → W.heap.size ≤ g i ∧ w'.heap[g i]? = some b) →
      (∀ i j y z b c, i ≠ j → ys[i]? = some y → ys[j]? = some z → y.obj = some b → z.obj = some c → g i ≠ g j) → wpList P l.toArray Q (l.drop ys.length) (fill g 0 l ys a0) w') :
    (Code.region id l.toArray true).wp P Q a0 W := by
  simp only [Bool.and_eq_true, decide_eq_true_eq] at hB
  obtain ⟨⟨⟨⟨⟨hsel, hn⟩, hs⟩, hc⟩, hseq⟩, hhead⟩ := hB
  have ok := headOk hhead
  have hn' : ys.length < l.length := by simpa using hn
  have hdl : (l.drop ys.length).length = l.toArray.size - ys.length := by simp
  refine wp_region_any hm ?_
  have key : ∀ (f : Nat) (listed : Array Bool) (a : Act) (w : World) (g : Nat → Nat), HeadInv .any l.toArray ys.length listed → unlisted listed = f + (l.toArray.size - ys.length) → Telling l ys a0 W g listed a w →
      wpAny P .any l.toArray Q (f + (l.toArray.size - ys.length)) listed a w := by
    intro f
    induction f with
    | zero =>
      intro listed a w g inv hu hb
      have hls : listed.size = l.length := by have := inv.size; simpa using this
      -- all of the head has come up
      have hcount : listed.toList.countP (fun b => !b) = l.length - ys.length := by
        unfold unlisted at hu; simpa using hu
      have htail : listed.toList.drop ys.length = List.replicate (l.length - ys.length) false := by
        refine List.ext_getElem (by simp [hls]) fun k h1 h2 => ?_
        have hk : ys.length + k < listed.size := by simp at h1; omega
        have := inv.tail (ys.length + k) (by omega) (by rw [← inv.size]; exact hk)
        simpa [hk] using this
      have hsplit : listed.toList = listed.toList.take ys.length ++ List.replicate (l.length - ys.length) false := by rw [← htail, List.take_append_drop]
      have hh : (listed.toList.take ys.length).countP (fun b => !b) = 0 := by
        rw [hsplit, List.countP_append] at hcount
        have hr : (List.replicate (l.length - ys.length) false).countP (fun b => !b) = l.length - ys.length := by rw [List.countP_replicate]; simp
        rw [hr] at hcount
        omega
      have hhead : listed.toList.take ys.length = List.replicate ys.length true := by
        have hlen : (listed.toList.take ys.length).length = ys.length := by simp [hls]; omega
        rw [List.eq_replicate_iff]
        refine ⟨hlen, fun b hb => ?_⟩
        have := List.countP_eq_zero.1 hh b hb
        simpa using this
      have hlisted : listed = (List.replicate ys.length true ++ List.replicate (l.toArray.size - ys.length) false).toArray := by
        have h1 : listed = listed.toList.toArray := by simp
        rw [h1, hsplit, hhead]
        simp
      have hall' : ∀ i, i < ys.length → listed.getD i false = true := by
        intro i hi
        rw [hlisted, Array.getD_eq_getD_getElem?, List.getElem?_toArray, List.getElem?_append_left (by simpa using hi)]
        simp [hi]
      have hfull := hb.full ok hall'
      have := wpAny_of_seq (P := P) (ops := l.toArray) (md := .any) (Q' := Q) (l.drop ys.length) ys.length listed a w (fun j => by simp [List.getElem?_drop]) (by rw [hdl, hlisted]; exact hseq) (by
        rw [hfull]
        exact hend g w hb.below (fun i y b hi hy => hb.boxes i y b hi hy (hall' i (List.getElem?_eq_some_iff.1 hi).1)) (fun i j y z b c hij hi hj hy hz => hb.apart i j y z b c hij hi hj hy hz (hall' i (List.getElem?_eq_some_iff.1 hi).1) (hall' j (List.getElem?_eq_some_iff.1 hj).1)))
      rwa [hdl, ← Nat.zero_add (l.toArray.size - ys.length)] at this
    | succ f ih =>
      intro listed a w g inv hu hb
      -- the first one of the head that has not come up
      have hex : ∃ i, i < ys.length ∧ listed.getD i false = false := by
        refine Classical.byContradiction fun hno => ?_
        have hno' : ∀ i, i < ys.length → listed.getD i false = true := fun i hi => by
          cases h : listed.getD i false with
          | true => rfl
          | false => exact absurd ⟨i, hi, h⟩ hno
        have hls : listed.size = l.length := by have := inv.size; simpa using this
        have h0 : (listed.toList.take ys.length).countP (fun b => !b) = 0 := by
          rw [List.countP_eq_zero]
          intro b hb'
          obtain ⟨k, hk, rfl⟩ := List.getElem_of_mem hb'
          have hk1 : k < ys.length := by simp at hk; omega
          have hk2 : k < listed.size := by omega
          have := hno' k hk1
          simpa [hk2] using this
        have h1 := List.countP_le_length (p := fun b => !b) (l := listed.toList.drop ys.length)
        have h2 : unlisted listed = (listed.toList.take ys.length).countP (fun b => !b) + (listed.toList.drop ys.length).countP (fun b => !b) := by
          unfold unlisted; rw [← List.countP_append, List.take_append_drop]
        simp only [List.length_drop, Array.length_toList, hls] at h1
        have h3 : l.toArray.size = l.length := by simp
        omega
      have hleast : ∀ m : Nat, (∃ i, i < m ∧ i < ys.length ∧ listed.getD i false = false) → ∃ i, i < ys.length ∧ listed.getD i false = false ∧ ∀ j, j < i → listed.getD j false = true := by
        intro m
        induction m with
        | zero => rintro ⟨i, hi, _⟩; omega
        | succ m ih2 =>
          rintro ⟨i, hi, hiy, hil⟩
          by_cases hsm : ∃ j, j < m ∧ j < ys.length ∧ listed.getD j false = false
          · exact ih2 hsm
          · refine ⟨i, hiy, hil, fun j hj => ?_⟩
            cases h : listed.getD j false with
            | true => rfl
            | false => exact absurd ⟨j, by omega, by omega, h⟩ hsm
      obtain ⟨i, hi, hil, hlt⟩ := hleast ys.length (by obtain ⟨i, h1, h2⟩ := hex; exact ⟨i, h1, h1, h2⟩)
      have hsize : ∀ k, k < ys.length → k < listed.size := fun k hk => by rw [inv.size]; omega
      have hready : i ∈ Region.ready .any l.toArray listed := by
        obtain ⟨o, ho⟩ := ok.there i hi
        exact mem_ready.2 ⟨getD_in (hsize i hi) hil, o, by simpa using ho, fun e he hbd => hlt _ (ok.back i o hi ho e he hbd)⟩
      rw [show f + 1 + (l.toArray.size - ys.length) = (f + (l.toArray.size - ys.length)) + 1 by omega]
      refine ⟨fun h0 => (by rw [h0] at hready; cases hready), fun j hj => ?_⟩
      have hjn : j < ys.length := by
        rcases Nat.lt_or_ge j ys.length with h | h
        · exact h
        · exact absurd hj (tail_waits hs hc hn inv _ i rfl hi (getD_in (hsize i hi) hil) j h)
      refine wpOp_mono (fun a' w' ⟨g', hb'⟩ => ih _ a' w' g' (inv.set hj hjn) ?_ hb') (hb.step ok hsel hgd hall inv.size hjn hj)
      have := unlisted_set (mem_ready.1 hj).1
      omega
  have inv0 : HeadInv .any l.toArray ys.length (Array.replicate l.toArray.size false) :=
    ⟨by simp, fun j oj _ hl => (by rw [getD_replicate_false] at hl; cases hl), fun t _ ht => getD_in (by simpa using ht) (getD_replicate_false _ _)⟩
  have hu : unlisted (Array.replicate l.toArray.size false) = ys.length + (l.toArray.size - ys.length) := by
    unfold unlisted
    rw [Array.toList_replicate, List.countP_replicate]
    simp
    omega
  have := key ys.length _ a0 { W with drawn := W.drawn + 1 } (fun _ => 0) inv0 hu
    ⟨rfl, rfl, ⟨rfl, rfl, rfl, Nat.le_refl _, fun _ _ => rfl⟩, fun _ _ => rfl, fun i o y d _ _ hl => (by rw [getD_replicate_false] at hl; cases hl), fun i y b _ _ hl => (by rw [getD_replicate_false] at hl; cases hl),
      fun i j y z b c _ _ _ _ _ hl => (by rw [getD_replicate_false] at hl; cases hl)⟩
  rwa [show ys.length + (l.toArray.size - ys.length) = l.toArray.size by omega] at this
end
end Told
end Go.Proofs.YtfomhdhiibcdfaaGreat

/-! The law of Told once more, for a region whose first operation only looks at a slot, and may come up as late as it likes: it is taken first. -/
namespace Go.Proofs.YtfomhdhiibcdfaaGreat.More
open Go.RowKit Go.Sort Go.Proofs.YtfomhdhiibcdfaaGreat.Told

def sink1 (md : Region.Mode) (ops : Array Oper) (n : Nat) : Bool :=
  (List.range n).all fun i => decide (i = 0) || (List.range (n + 1)).any fun j => decide (i < j) && Region.waitsFor md ops j i

/-- While one of the head but the first has not come up, nothing of the tail may. -/
theorem tail_waits1 {ops : Array Oper} {md : Region.Mode} {n : Nat} {listed : Array Bool} (hs : sink1 md ops n = true) (hc : Region.chainB md ops n = true) (hn : n < ops.size) (inv : HeadInv md ops n listed) :
    ∀ (d i : Nat), n - i = d → i < n → i ≠ 0 → listed.getD i true = false → ∀ t, n ≤ t → t ∉ Region.ready md ops listed := by
  -- who waits for one that has not come up is neither ready nor has it come up
  have late : ∀ j i, Region.waitsFor md ops j i = true → listed.getD i true = false → j ∉ Region.ready md ops listed ∧ listed.getD j false = false := by
    intro j i hw hi
    obtain ⟨oj, hj, e, he, hb, rfl⟩ := Region.waitsFor_spec hw
    have hi' := getD_both hi
    refine ⟨fun hr => ?_, ?_⟩
    · obtain ⟨-, o, ho, hall⟩ := mem_ready.1 hr
      obtain rfl : oj = o := Option.some.inj (hj.symm.trans ho)
      exact absurd (hall e he hb) (by simp [hi'])
    · cases hl : listed.getD j false with
      | false => rfl
      | true => exact absurd (inv.closed j oj hj hl e he hb) (by simp [hi'])
  intro d
  induction d using Nat.strongRecOn with
  | _ d ih =>
    intro i hd hi h0 hun t ht hr
    have htl : t < ops.size := by
      obtain ⟨-, o, ho, -⟩ := mem_ready.1 hr
      exact (Array.getElem?_eq_some_iff.1 ho).1
    rcases Nat.lt_or_ge n t with hnt | hnt
    · have h1 := List.all_eq_true.1 hc t (List.mem_range.2 htl)
      simp only [Bool.or_eq_true, decide_eq_true_eq] at h1
      exact (late t (t - 1) (h1.resolve_left (by omega)) (inv.tail (t - 1) (by omega) (by omega))).1 hr
    · obtain rfl : t = n := by omega
      have h1 := List.all_eq_true.1 hs i (List.mem_range.2 hi)
      simp only [Bool.or_eq_true, decide_eq_true_eq, List.any_eq_true, Bool.and_eq_true, List.mem_range] at h1
      obtain ⟨j, hj, hij, hw⟩ := h1.resolve_left h0
      obtain ⟨k1, k2⟩ := late j i hw hun
      rcases Nat.lt_or_ge j t with hjt | hjt
      · exact ih (t - j) (by omega) j rfl hjt (by omega) (getD_in (by rw [inv.size]; omega) k2) t (Nat.le_refl _) hr
      · obtain rfl : j = t := by omega
        exact k1 hr

theorem getD_set_true {listed : Array Bool} (h : listed.getD 0 false = true) (j : Nat) : (listed.setIfInBounds j true).getD 0 false = true := by
  by_cases e : j = 0
  · subst e
    have : 0 < listed.size := by
      rcases Nat.eq_zero_or_pos listed.size with h0 | h0
      · rw [Array.getD_eq_getD_getElem?, Array.getElem?_eq_none (by omega)] at h; cases h
      · exact h0
    simp [this]
  · rw [getD_set_ne false e]; exact h

section
variable {P : Program} {l : List Oper} {a0 : Act} {W : World}

/-- A region that draws its order: the operations of its head leave what is listed; new blocks are apart; then its tail, one by one. -/
theorem wp_region_told_first {id : Nat} {Q : Exit → Act → World → Prop} (ys : List Leave) (hm : P.follows .mixedOrders = true)
    (hB : (Region.noSelect l.toArray && decide (ys.length < l.toArray.size) && sink1 .any l.toArray ys.length && Region.chainB .any l.toArray ys.length &&
      Region.seqB .any l.toArray (l.toArray.size - ys.length) ys.length ((List.replicate ys.length true ++ List.replicate (l.toArray.size - ys.length) false).toArray) && headB l ys.length a0.tmps.size) = true)
    (hgd : guardsB l ys ys = true) {o0 : Oper} {v0 : Value} (h0o : l[0]? = some o0) (h0y : ys[0]? = some (.val v0))
    (h0f : Region.free .any l.toArray (Array.replicate l.toArray.size false) 0 = true) (h0r : (Region.ready .any l.toArray (Array.replicate l.toArray.size false)).contains 0 = true) (h0Y : Yields P l.toArray o0 v0 a0)
    (h0Q : ∀ c a w, Q (.panic c) (a.put o0.dst v0) w → Q (.panic c) a w)
    (hall : allLeave P (fun g => fill g 0 l ys a0) ys W l ys)
    (hend : ∀ (g : Nat → Nat) (w' : World), Below W.heap.size W w' → (∀ i y b, ys[i]? = some y → y.obj = some b → W.heap.size ≤ g i ∧ w'.heap[g i]? = some b) →
      (∀ i j y z b c, i ≠ j → ys[i]? = some y → ys[j]? = some z → y.obj = some b → z.obj = some c → g i ≠ g j) → wpList P l.toArray Q (l.drop ys.length) (fill g 0 l ys a0) w') :
    (Code.region id l.toArray true).wp P Q a0 W := by
  simp only [Bool.and_eq_true, decide_eq_true_eq] at hB
  obtain ⟨⟨⟨⟨⟨hsel, hn⟩, hs⟩, hc⟩, hseq⟩, hhead⟩ := hB
  have ok := headOk hhead
  have hn' : ys.length < l.length := by simpa using hn
  have hdl : (l.drop ys.length).length = l.toArray.size - ys.length := by simp
  refine wp_region_any hm ?_
  have key : ∀ (f : Nat) (listed : Array Bool) (a : Act) (w : World) (g : Nat → Nat), HeadInv .any l.toArray ys.length listed → unlisted listed = f + (l.toArray.size - ys.length) → Telling l ys a0 W g listed a w → listed.getD 0 false = true →
      wpAny P .any l.toArray Q (f + (l.toArray.size - ys.length)) listed a w := by
    intro f
    induction f with
    | zero =>
      intro listed a w g inv hu hb hz0
      have hls : listed.size = l.length := by have := inv.size; simpa using this
      -- all of the head has come up
      have hcount : listed.toList.countP (fun b => !b) = l.length - ys.length := by
        unfold unlisted at hu; simpa using hu
      have htail : listed.toList.drop ys.length = List.replicate (l.length - ys.length) false := by
        refine List.ext_getElem (by simp [hls]) fun k h1 h2 => ?_
        have hk : ys.length + k < listed.size := by simp at h1; omega
        have := inv.tail (ys.length + k) (by omega) (by rw [← inv.size]; exact hk)
        simpa [hk] using this
      have hsplit : listed.toList = listed.toList.take ys.length ++ List.replicate (l.length - ys.length) false := by rw [← htail, List.take_append_drop]
      have hh : (listed.toList.take ys.length).countP (fun b => !b) = 0 := by
        rw [hsplit, List.countP_append] at hcount
        have hr : (List.replicate (l.length - ys.length) false).countP (fun b => !b) = l.length - ys.length := by rw [List.countP_replicate]; simp
        rw [hr] at hcount
        omega
      have hhead : listed.toList.take ys.length = List.replicate ys.length true := by
        have hlen : (listed.toList.take ys.length).length = ys.length := by simp [hls]; omega
        rw [List.eq_replicate_iff]
        refine ⟨hlen, fun b hb => ?_⟩
        have := List.countP_eq_zero.1 hh b hb
        simpa using this
      have hlisted : listed = (List.replicate ys.length true ++ List.replicate (l.toArray.size - ys.length) false).toArray := by
        have h1 : listed = listed.toList.toArray := by simp
        rw [h1, hsplit, hhead]
        simp
      have hall' : ∀ i, i < ys.length → listed.getD i false = true := by
        intro i hi
        rw [hlisted, Array.getD_eq_getD_getElem?, List.getElem?_toArray, List.getElem?_append_left (by simpa using hi)]
        simp [hi]
      have hfull := hb.full ok hall'
      have := wpAny_of_seq (P := P) (ops := l.toArray) (md := .any) (Q' := Q) (l.drop ys.length) ys.length listed a w (fun j => by simp [List.getElem?_drop]) (by rw [hdl, hlisted]; exact hseq) (by
        rw [hfull]
        exact hend g w hb.below (fun i y b hi hy => hb.boxes i y b hi hy (hall' i (List.getElem?_eq_some_iff.1 hi).1)) (fun i j y z b c hij hi hj hy hz => hb.apart i j y z b c hij hi hj hy hz (hall' i (List.getElem?_eq_some_iff.1 hi).1) (hall' j (List.getElem?_eq_some_iff.1 hj).1)))
      rwa [hdl, ← Nat.zero_add (l.toArray.size - ys.length)] at this
    | succ f ih =>
      intro listed a w g inv hu hb hz0
      -- the first one of the head that has not come up
      have hex : ∃ i, i < ys.length ∧ listed.getD i false = false := by
        refine Classical.byContradiction fun hno => ?_
        have hno' : ∀ i, i < ys.length → listed.getD i false = true := fun i hi => by
          cases h : listed.getD i false with
          | true => rfl
          | false => exact absurd ⟨i, hi, h⟩ hno
        have hls : listed.size = l.length := by have := inv.size; simpa using this
        have h0 : (listed.toList.take ys.length).countP (fun b => !b) = 0 := by
          rw [List.countP_eq_zero]
          intro b hb'
          obtain ⟨k, hk, rfl⟩ := List.getElem_of_mem hb'
          have hk1 : k < ys.length := by simp at hk; omega
          have hk2 : k < listed.size := by omega
          have := hno' k hk1
          simpa [hk2] using this
        have h1 := List.countP_le_length (p := fun b => !b) (l := listed.toList.drop ys.length)
        have h2 : unlisted listed = (listed.toList.take ys.length).countP (fun b => !b) + (listed.toList.drop ys.length).countP (fun b => !b) := by
          unfold unlisted; rw [← List.countP_append, List.take_append_drop]
        simp only [List.length_drop, Array.length_toList, hls] at h1
        have h3 : l.toArray.size = l.length := by simp
        omega
      have hleast : ∀ m : Nat, (∃ i, i < m ∧ i < ys.length ∧ listed.getD i false = false) → ∃ i, i < ys.length ∧ listed.getD i false = false ∧ ∀ j, j < i → listed.getD j false = true := by
        intro m
        induction m with
        | zero => rintro ⟨i, hi, _⟩; omega
        | succ m ih2 =>
          rintro ⟨i, hi, hiy, hil⟩
          by_cases hsm : ∃ j, j < m ∧ j < ys.length ∧ listed.getD j false = false
          · exact ih2 hsm
          · refine ⟨i, hiy, hil, fun j hj => ?_⟩
            cases h : listed.getD j false with
            | true => rfl
            | false => exact absurd ⟨j, by omega, by omega, h⟩ hsm
      obtain ⟨i, hi, hil, hlt⟩ := hleast ys.length (by obtain ⟨i, h1, h2⟩ := hex; exact ⟨i, h1, h1, h2⟩)
      have hsize : ∀ k, k < ys.length → k < listed.size := fun k hk => by rw [inv.size]; omega
      have hready : i ∈ Region.ready .any l.toArray listed := by
        obtain ⟨o, ho⟩ := ok.there i hi
        exact mem_ready.2 ⟨getD_in (hsize i hi) hil, o, by simpa using ho, fun e he hbd => hlt _ (ok.back i o hi ho e he hbd)⟩
      rw [show f + 1 + (l.toArray.size - ys.length) = (f + (l.toArray.size - ys.length)) + 1 by omega]
      refine ⟨fun h0 => (by rw [h0] at hready; cases hready), fun j hj => ?_⟩
      have hjn : j < ys.length := by
        rcases Nat.lt_or_ge j ys.length with h | h
        · exact h
        · exact absurd hj (tail_waits1 hs hc hn inv _ i rfl hi (fun e => by rw [e, hz0] at hil; cases hil) (getD_in (hsize i hi) hil) j h)
      refine wpOp_mono (fun a' w' ⟨g', hb'⟩ => ih _ a' w' g' (inv.set hj hjn) ?_ hb' (getD_set_true hz0 j)) (hb.step ok hsel hgd hall inv.size hjn hj)
      have := unlisted_set (mem_ready.1 hj).1
      omega
  have inv0 : HeadInv .any l.toArray ys.length (Array.replicate l.toArray.size false) :=
    ⟨by simp, fun j oj _ hl => (by rw [getD_replicate_false] at hl; cases hl), fun t _ ht => getD_in (by simpa using ht) (getD_replicate_false _ _)⟩
  have hu : unlisted (Array.replicate l.toArray.size false) = ys.length + (l.toArray.size - ys.length) := by
    unfold unlisted
    rw [Array.toList_replicate, List.countP_replicate]
    simp
    omega
  have hys : 0 < ys.length := (List.getElem?_eq_some_iff.1 h0y).1
  have T0 : Telling l ys a0 W (fun _ => 0) (Array.replicate l.toArray.size false) a0 { W with drawn := W.drawn + 1 } :=
    ⟨rfl, rfl, ⟨rfl, rfl, rfl, Nat.le_refl _, fun _ _ => rfl⟩, fun _ _ => rfl, fun i o y d _ _ hl => (by rw [getD_replicate_false] at hl; cases hl), fun i y b _ _ hl => (by rw [getD_replicate_false] at hl; cases hl),
      fun i j y z b c _ _ _ _ _ hl => (by rw [getD_replicate_false] at hl; cases hl)⟩
  have hl0 : 0 < l.length := by omega
  have T1 := T0.plain ok hys h0o h0y (by simpa using hl0) (getD_replicate_false _ _) (v := v0) rfl rfl (Below.refl _ _)
  have hr0 : 0 ∈ Region.ready .any l.toArray (Array.replicate l.toArray.size false) := by simpa using h0r
  have hun := unlisted_set (mem_ready.1 hr0).1
  have := key (ys.length - 1) _ _ _ _ (inv0.set hr0 hys) (by omega) T1 (by simp [hl0])
  have h3 := wpAny_take (P := P) (md := .any) (Q := Q) (fuel := ys.length - 1 + (l.toArray.size - ys.length)) (i := 0) (oi := o0) (v := v0) (listed := Array.replicate l.toArray.size false) (a := a0) (w := { W with drawn := W.drawn + 1 }) (by simpa using h0o) hsel h0f h0r h0Q h0Y this
  rwa [show ys.length - 1 + (l.toArray.size - ys.length) + 1 = l.toArray.size by omega] at h3

end

end Go.Proofs.YtfomhdhiibcdfaaGreat.More

/-! The contract of cut: a shelf is made to begin at a row. -/
namespace Go.Proofs.YtfomhdhiibcdfaaGreat.Shelf
open Go.RowKit Go.Sort Go.Proofs.YtfomhdhiibcdfaaGreat.Rect Go.Proofs.YtfomhdhiibcdfaaGreat.More
set_option linter.unusedVariables false

/-- Nothing that lay there is turned, but in some blocks. -/
structure But (S : Nat → Prop) (w w' : World) : Prop where
  os : w'.os = w.os
  tape : w'.tape = w.tape
  output : w'.output = w.output
  size : w.heap.size ≤ w'.heap.size
  block : ∀ k, k < w.heap.size → ¬ S k → w'.heap[k]? = w.heap[k]?

section
variable {S S' : Nat → Prop} {w w' w'' : World}

theorem But.of_below (h : Below w.heap.size w w') : But S w w' := ⟨h.os, h.tape, h.output, h.size, fun k hk _ => h.block k hk⟩
theorem But.of_grown {g : Nat} (h : w.grownBy w' (some g)) (hg : S g) : But S w w' := ⟨h.os, h.tape, h.output, h.size, fun k hk hs => h.block k hk (fun e => hs (by injection e with e; rw [e]; exact hg))⟩
theorem But.trans (h : But S w w') (k : But S' w' w'') (hs : ∀ j, j < w.heap.size → S' j → S j) : But S w w'' :=
  ⟨k.os.trans h.os, k.tape.trans h.tape, k.output.trans h.output, Nat.le_trans h.size k.size, fun j hj hn => (k.block j (Nat.lt_of_lt_of_le hj h.size) (fun q => hn (hs j hj q))).trans (h.block j hj hn)⟩
theorem But.below {B : Nat} (h : But S w w') (hB : B ≤ w.heap.size) (hs : ∀ k, S k → B ≤ k) : Below B w w' :=
  ⟨h.os, h.tape, h.output, h.size, fun k hk => h.block k (by omega) (fun q => by have := hs k q; omega)⟩
theorem But.cell (h : But S w w') {b o : Nat} (hb : b < w.heap.size) (hs : ¬ S b) : w'.cell? ⟨b, o, none⟩ = w.cell? ⟨b, o, none⟩ := World.cell?_of_block (a := ⟨b, o, none⟩) (h.block b hb hs)
theorem But.frozen (h : But S w w') {b o : Nat} (hb : b < w.heap.size) (hs : ¬ S b) : w'.frozen? ⟨b, o, none⟩ = w.frozen? ⟨b, o, none⟩ := World.frozen?_of_block (a := ⟨b, o, none⟩) (h.block b hb hs)
theorem But.set (b o : Nat) (v : Value) (hs : S b) : But S w (w.setCell ⟨b, o, none⟩ v) :=
  ⟨rfl, rfl, rfl, by simp [World.setCell], fun k _ hk => Below.heap_setCell _ _ _ k (fun e => hk (by rw [e]; exact hs))⟩

end

/-- The blocks of a list. -/
abbrev two (g pb : Nat) : Nat → Prop := fun k => k = g ∨ k = pb

/-- The list's slice is stored. -/
theorem lst_set {w : World} {B pb g n c : Nat} {xs : List Sh} {u : Value} (hb : B ≤ pb) (hc : w.cell? ⟨pb, 0, none⟩ = some u) (hf : w.frozen? ⟨pb, 0, none⟩ = false) (hne : g ≠ pb) (hm : MineE encSh 120 w B (some ⟨g, 0, none⟩) n c xs) :
    Lst (w.setCell ⟨pb, 0, none⟩ (.slice (some ⟨g, 0, none⟩) n c)) B pb g n c xs :=
  ⟨hb, World.cell?_setCell_same _ _ _ hc, by rw [World.frozen?_setCell]; exact hf, hne,
    MineE.kept hm (row := some pb) ⟨rfl, rfl, rfl, by simp [World.setCell], fun k _ hk => Below.heap_setCell _ _ _ k (fun e => hk (by rw [e]))⟩ (fun k hk e => by
      simp only [blk, Option.some.injEq] at hk e
      omega)⟩

/-- What cut leaves. -/
def Cutted (w : World) (B pb g n : Nat) (ys : List Sh) (i : Nat) (r : Ending) (w' : World) : Prop :=
  ∃ g' n' c', r = .returned (.int .i64 (i : Int)) ∧ Lst w' B pb g' n' c' ys ∧ But (two g pb) w w' ∧ n' ≤ n + 1 ∧ (g' = g ∨ w.heap.size ≤ g')

set_option maxRecDepth 100000 in
set_option maxHeartbeats 600000 in
theorem cut_same (pb g n c B k : Nat) (xs : List Sh) (y : Int) (x : Sh) (w : World) (hl : Lst w B pb g n c xs) (hn : n < 1000000) (ht : Thr xs y (k + 1)) (hx : xs[k]? = some x) (e : x.1 = y) :
    Calls Tryz.prog 77 #[.pointer (some ⟨pb, 0, none⟩), .int .i64 y] w (Cutted w B pb g n xs k) := by
  have HO := Lib.hid (of_next pb g n c B k xs y w hl (by omega) ht)
  have HL := Lib.hid hl
  have hkn : k < n := by have := ht.1; have := hl.len; omega
  have hki : (k : Int) < (n : Int) := by omega
  have hk0 : ¬ (k : Int) < 0 := by omega
  have HX := Lib.hid hx
  obtain ⟨x1, x2, x3⟩ := x
  dsimp only at e
  subst e
  clear hl ht hx
  go_enter Tryz.func77, Tryz.ntmps77
  go_upto_region 2 with (first
    | (go_at_call 94; refine HO.out.mono ?_; rintro e w1 ⟨rfl, k1⟩; have hp := (HL.out.below k1).cell; obtain ⟨c0, c1, c2⟩ := (HL.out.below k1).at k _ HX.out; have K1 := Lib.hid k1; clear k1))
  go_wp2_with fail
  go_ret
  exact ⟨g, n, c, rfl, HL.out.below (thru K1.out (ba1 _ _)), But.of_below (thru K1.out (ba1 _ _)), by omega, .inl rfl⟩

set_option maxRecDepth 100000 in
set_option maxHeartbeats 1000000 in
theorem cut_new (pb g n c B k : Nat) (xs : List Sh) (y : Int) (x : Sh) (w : World) (hl : Lst w B pb g n c xs) (hn : n < 1000000) (hB : B ≤ w.heap.size) (ht : Thr xs y (k + 1)) (hx : xs[k]? = some x) (e : ¬ x.1 = y) :
    Calls Tryz.prog 77 #[.pointer (some ⟨pb, 0, none⟩), .int .i64 y] w (Cutted w B pb g n (xs.take (k + 1) ++ (y, x.2) :: xs.drop (k + 1)) (k + 1)) := by
  have HO := Lib.hid (of_next pb g n c B k xs y w hl (by omega) ht)
  have HL := Lib.hid hl
  have HB := Lib.hid hB
  have hkn : k < n := by have := ht.1; have := hl.len; omega
  have hki : (k : Int) < (n : Int) := by omega
  have hk0 : ¬ (k : Int) < 0 := by omega
  have hw1 : IntKind.i64.wrap ((k : Int) + 1) = (k : Int) + 1 := IntWalk.i64_in _ (by omega)
  have HX := Lib.hid hx
  have HN := Lib.hid (⟨hn, hkn⟩ : n < 1000000 ∧ k < n)
  obtain ⟨x1, x2, x3⟩ := x
  dsimp only at e
  clear hl ht hx hB
  go_enter Tryz.func77, Tryz.ntmps77
  go_upto_region 2 with (first
    | (go_at_call 94; refine HO.out.mono ?_; rintro e w1 ⟨rfl, k1⟩; have hp := (HL.out.below k1).cell; obtain ⟨c0, c1, c2⟩ := (HL.out.below k1).at k _ HX.out; have K1 := Lib.hid k1; clear k1))
  go_upto_region 6 with fail
  generalize hW : World.alloc w1 _ = W
  obtain ⟨s, hs⟩ : ∃ s, w1.heap.size = s := ⟨_, rfl⟩
  have hkW : Below w1.heap.size w1 W := by rw [← hW]; exact ba1 _ _
  have e0 : W.cell? ⟨s, 0, none⟩ = some (.int .i64 y) := by rw [← hW, ← hs]; simp [go_sem]
  have e1 : W.cell? ⟨s, 1, none⟩ = some (.int .i64 x2) := by rw [← hW, ← hs]; simp [go_sem]
  have e2 : W.cell? ⟨s, 2, none⟩ = some (.int .i64 x3) := by rw [← hW, ← hs]; simp [go_sem]
  rw [hs]
  have KW := Lib.hid (thru K1.out hkW)
  clear hW hkW hs hp c0 c1 c2
  have HT := Lib.hid (⟨e0, e1, e2⟩ : W.cell? ⟨s, 0, none⟩ = some (.int .i64 y) ∧ W.cell? ⟨s, 1, none⟩ = some (.int .i64 x2) ∧ W.cell? ⟨s, 2, none⟩ = some (.int .i64 x3))
  clear e0 e1 e2
  refine wp_region_told_first [.val (.pointer (some ⟨pb, 0, none⟩)), .val (.pointer (some ⟨pb, 0, none⟩)), .val (.pointer (some ⟨pb, 0, none⟩)), .val (.pointer (some ⟨pb, 0, none⟩)), .val (.slice (some ⟨g, 0, none⟩) n c), .val (.int .i64 (k : Int)), .val (.int .i64 ((k : Int) + 1)), .val (.agg #[.int .i64 y, .int .i64 x2, .int .i64 x3]), .row (.cells #[.int .i64 y, .int .i64 x2, .int .i64 x3] 120) 1 1] (by kernel_rfl) (by kernel_rfl) (by kernel_rfl) (v0 := .pointer (some ⟨pb, 0, none⟩)) rfl rfl (by kernel_rfl) (by kernel_rfl) (.inl ⟨rfl, fun w => by go_simp⟩) (fun _ _ _ h => h) ?_ ?_
  · simp only [Told.fill, Told.Leave.value]
    refine ⟨?_, ?_, ?_, ?_, ?_, ?_, ?_, ?_, ?_, trivial⟩
    · intro g w' hw hk
      go_simp
      exact ⟨rfl, rfl⟩
    · intro g w' hw hk
      go_simp
      exact ⟨rfl, rfl⟩
    · intro g w' hw hk
      go_simp
      exact ⟨rfl, rfl⟩
    · intro g w' hw hk
      go_simp
      exact ⟨rfl, rfl⟩
    · intro g w' hw hk
      have hc := (HL.out.below (thru KW.out hw)).cell
      go_simp
      exact ⟨rfl, rfl⟩
    · intro g w' hw hk
      go_simp
      exact ⟨rfl, rfl⟩
    · intro g w' hw hk
      go_simp
      exact ⟨rfl, rfl⟩
    · intro g w' hw hk
      have q0 := (hw.cell (p := ⟨s, 0, none⟩) (block_lt_of_cell HT.out.1)).trans HT.out.1
      have q1 := (hw.cell (p := ⟨s, 1, none⟩) (block_lt_of_cell HT.out.2.1)).trans HT.out.2.1
      have q2 := (hw.cell (p := ⟨s, 2, none⟩) (block_lt_of_cell HT.out.2.2)).trans HT.out.2.2
      go_simp
      exact ⟨rfl, rfl⟩
    · intro g w' hw hk
      go_simp
  · intro gg w4 k4 hbox hap
    obtain ⟨g4, h4⟩ := hbox 8 _ _ rfl rfl
    clear hbox hap
    simp only [Told.fill, Told.Leave.value, List.length_cons, List.length_nil, List.drop_succ_cons, List.drop_zero]
    generalize gg 8 = r at g4 h4 ⊢
    have K4 := Lib.hid (thru KW.out k4)
    have L4 := Lib.hid (HL.out.below K4.out)
    have hne : r ≠ g := by have := HL.out.glt.2; have := KW.out.size; omega
    have HI := Lib.hid (insert_any g n c B (k + 1) r xs (y, (x2, x3)) w4 L4.out.row (by have := HN.out.2; omega) HN.out.1 (by have := K4.out.size; have := HB.out; omega) h4 hne)
    clear h4 g4 k4 hne HT KW
    go_simp
    go_wp2_with (first
      | (go_at_call 95; refine HI.out.mono ?_; rintro e w5 ⟨g', c', rfl, hm, hg, hgg⟩; have hfz := (hg.frozen_far ⟨pb, 0, none⟩ L4.out.lt (by simp; exact Ne.symm L4.out.ne)).trans L4.out.frz; have hcl := hg.cell L4.out.cell (by simp; exact Ne.symm L4.out.ne); have M5 := Lib.hid hm; have G5 := Lib.hid (⟨hg, hgg⟩ : w4.grownBy w5 (some g) ∧ (g' = g ∨ g' = w4.heap.size)); clear hm hg hgg))
    go_ret
    have hw4 : w.heap.size ≤ w4.heap.size := K4.out.size
    have hne2 : g' ≠ pb := by
      rcases G5.out.2 with e | e
      · rw [e]; exact HL.out.ne
      · have := L4.out.lt; omega
    refine ⟨g', n + 1, c', rfl, lst_set HL.out.hb hcl hfz hne2 M5.out, ?_, Nat.le_refl _, ?_⟩
    · refine But.trans (But.trans (But.of_below K4.out) (But.of_grown (S := two g pb) G5.out.1 (.inl rfl)) (fun _ _ h => h)) (But.set (S := two g pb) pb 0 _ (.inr rfl)) (fun _ _ h => h)
    · rcases G5.out.2 with e | e
      · exact .inl e
      · exact .inr (by omega)

theorem cut_any (pb g n c B k i : Nat) (xs ys : List Sh) (y : Int) (w : World) (hl : Lst w B pb g n c xs) (hn : n < 1000000) (hB : B ≤ w.heap.size) (h1 : 1 ≤ k) (ht : Thr xs y k) (hc : cutL xs y k = (ys, i)) :
    Calls Tryz.prog 77 #[.pointer (some ⟨pb, 0, none⟩), .int .i64 y] w (Cutted w B pb g n ys i) := by
  obtain ⟨q, rfl⟩ : ∃ q, k = q + 1 := ⟨k - 1, by omega⟩
  obtain ⟨x, hx⟩ : ∃ x, xs[q]? = some x := ⟨_, List.getElem?_eq_getElem (by have := ht.1; omega)⟩
  unfold cutL at hc
  rw [Nat.add_sub_cancel, hx] at hc
  dsimp only at hc
  by_cases e : x.1 = y
  · rw [if_pos e] at hc
    injection hc with a b
    subst a b
    exact cut_same pb g n c B q xs y x w hl hn ht hx e
  · rw [if_neg e] at hc
    injection hc with a b
    subst a b
    exact cut_new pb g n c B q xs y x w hl hn hB ht hx e

end Go.Proofs.YtfomhdhiibcdfaaGreat.Shelf

/-! The law's example; the law of the shelves. -/
namespace Go.Proofs.YtfomhdhiibcdfaaGreat.Shelf
open Go.RowKit Go.Sort Go.Proofs.YtfomhdhiibcdfaaGreat.Rect Go.Proofs.YtfomhdhiibcdfaaGreat.More

theorem field_sp (a b : Int) (w : World) : (Instr.field 129 (.agg #[.int .i64 a, .int .i64 b]) 0).run Tryz.prog w = .ok (.int .i64 a) w := by
  kernel_rfl

/-- The example's float. -/
def exF : Fl := ⟨1, 0, 2, 3, 5⟩

section
variable {L : World → Nat → Addr → List Fl → Prop}

end

end Go.Proofs.YtfomhdhiibcdfaaGreat.Shelf
